import PyProof.Rows.All
import Wide.All
import OpenK.AllK
import Wide.FinOn
import Lean
import PyProof.EqAt
import PyProof.EqKinds
import PyProof.TupleCall
import PyProof.ExcArgs
import KE.KSortKey
import KE.KIsAll
import PyProof.ExcInit
import PyProof.StationsW
import PyProof.NsDelKeeps
import PyProof.RulesAs
import PyProof.PassesOwn
import PyProof.ExcBaseAll.ValueError
import PyProof.InstStoreFacts
import PyProof.Rows.EqDataRows
import PyProof.ReprRoads
import PyProof.Rows.Range3
import PyProof.ConsumeWalk
import PyProof.FString5
import PyProof.ReprLen
import PyProof.Rows.TupAdd
import PyProof.Rows.RuleIs
import PyProof.ListNew
import KE.KRevIter
import PyProof.Rows.SeqMore2
import PyProof.ListRange
import KE.KEqDict
import PyProof.NeKinds
import PyProof.CallStr
import PyProof.ListMulAny
import PyProof.Rows.SetFrom
import PyProof.SetRoads
import PySem.Challenge.RW_ringloads_k34_no_slides
set_option Elab.async false
set_option linter.all false
set_option maxRecDepth 100000
set_option maxHeartbeats 0
namespace L2
open PySem PySem.Spec PyProof.Rows
noncomputable abbrev Mj:=Sum Int Str
noncomputable def yl:Mj->Value->Bool
 |.inl k,v=>Value.isInt k v
 |.inr x,v=>Value.isStrOf x v
noncomputable def Lo(w:World):Mj->Int
 |.inl k=>hashInt k
 |.inr x=>hashStr w x
theorem bU:∀{k:Mj}{v:Value},yl k v=true->(∃i t,k=Sum.inl i/\v=Value.int i t)∨(∃x t,k=Sum.inr x/\v=Value.str x t)
 | .inl i,v,h=>by obtain⟨t,e⟩:=Value.isInt_shape (k:=i) (v:=v) h;exact .inl ⟨i,t,rfl,e⟩
 | .inr x,v,h=>by obtain⟨t,e⟩:=Value.isStrOf_shape (x:=x) (v:=v) h;exact .inr ⟨x,t,rfl,e⟩
theorem zp(i:Int)(t:Tok):yl (.inl i) (.int i t)=true:=by simp[yl,Value.isInt]
theorem zq(x:Str)(t:Tok):yl (.inr x) (.str x t)=true:=by simp[yl,Value.isStrOf]
theorem Hc(a b:Int):decide ((Sum.inl a:Mj)=Sum.inl b)=(a == b):=by
 by_cases e:a=b
 · subst e;simp
 · have h:¬(Sum.inl a:Mj)=Sum.inl b:=λq=>e (Sum.inl.inj q);rw[decide_eq_false h];exact(beq_eq_false_iff_ne.mpr e).symm
theorem He(a b:Str):decide ((Sum.inr a:Mj)=Sum.inr b)=decide (a=b):=by
 by_cases e:a=b
 · subst e;simp
 · have h:¬(Sum.inr a:Mj)=Sum.inr b:=λq=>e (Sum.inr.inj q);rw[decide_eq_false h,decide_eq_false e]
theorem Hf(a:Int)(b:Str):decide ((Sum.inl a:Mj)=Sum.inr b)=false:=decide_eq_false (λq=>nomatch q)
theorem Hg(a:Str)(b:Int):decide ((Sum.inr a:Mj)=Sum.inl b)=false:=decide_eq_false (λq=>nomatch q)
noncomputable def mn(prog:Program)(w:World):PySem.KeyKind prog w Mj where
 is:=yl
 hash:=Lo w
 inj:=λv a b ha hb=>by
  rcases bU ha with⟨i,t,rfl,rfl⟩|⟨x,t,rfl,rfl⟩
  ·
   rcases bU hb with⟨j,u,rfl,e⟩|⟨y,u,rfl,e⟩
   · injection e with e1 _;rw[e1]
   · exact nomatch e
  ·
   rcases bU hb with⟨j,u,rfl,e⟩|⟨y,u,rfl,e⟩
   · exact nomatch e
   · injection e with e1 _;rw[e1]
 byValue:=λk v h=>by rcases bU h with⟨i,t,rfl,rfl⟩|⟨x,t,rfl,rfl⟩<;>rfl
 pyHash:=λhv h=>by
  rcases bU hv with⟨i,t,rfl,rfl⟩|⟨x,t,rfl,rfl⟩
  · exact wpAny_pyHash_int h
  · exact wpAny_pyHash_str h
 eqBool:=λhu hv h=>by
  rcases bU hu with⟨i,t,rfl,rfl⟩|⟨x,t,rfl,rfl⟩
  ·
   rcases bU hv with⟨j,u,rfl,rfl⟩|⟨y,u,rfl,rfl⟩
   · rw[Hc]at h;exact wpAny_eqBool_int h
   · rw[Hf]at h;exact SeqAt.EqAt.int_str i t y u _ _ _ _ h
  ·
   rcases bU hv with⟨j,u,rfl,rfl⟩|⟨y,u,rfl,rfl⟩
   · rw[Hg]at h;exact SeqAt.EqAt.str_int x t j u _ _ _ _ h
   · rw[He]at h;exact wpAny_eqBool_str h
 «strs»:=λk x t v h=>by
  rcases bU h with⟨i,u,rfl,e⟩|⟨y,u,rfl,e⟩
  · exact nomatch e
  · injection e with e1 _;subst e1;cases v<;>rfl
theorem vg(prog:Program)(w:World)(i:Int)(t:Tok):(mn prog w).is (.inl i) (.int i t)=true:=zp i t
theorem vh(prog:Program)(w:World)(x:Str)(t:Tok):(mn prog w).is (.inr x) (.str x t)=true:=zq x t
inductive V where
 |non|bl (b:Bool)|int (i:Int)|str (x:Str)|byt (b:Array UInt8)|flt (b:UInt64)|ref (a:Addr)|ty (n:String)
 deriving DecidableEq
def cq:V->Value->Prop
 |.non,u=>u=Value.none
 |.bl b,u=>u=Value.bool b
 |.int i,u=>∃t,u=Value.int i t
 |.str x,u=>∃t,u=Value.str x t
 |.byt b,u=>∃t,u=Value.bytes b t
 |.flt b,u=>∃t,u=Value.float b t
 |.ref a,u=>u=Value.ref a
 |.ty n,u=>u=Value.type n
abbrev cB:List V->List Value->Prop:=Paired cq
theorem cB.length{xs:List V}{us:List Value}(r:cB xs us):xs.length=us.length:=Paired.length r
theorem cB.get:∀{xs:List V}{us:List Value}{i:Nat}{x:V},cB xs us->xs[i]?=some x->∃u,us[i]?=some u/\cq x u
 |_,_,_,_,.nil,e=>by simp at e
 |_,_,0,_,.cons r _,e=>by simp at e;subst e;exact⟨_,rfl,r⟩
 | _,_,i+1,x,.cons _ t,e=>by obtain⟨u,h1,h2⟩:=cB.get (i:=i) (x:=x) t (by simpa using e);exact⟨u,by simpa using h1,h2⟩
theorem cB.set{x:V}{u:Value}(r:cq x u):∀{xs:List V}{us:List Value}(i:Nat),cB xs us->cB (xs.set i x) (us.set i u)
 |_,_,_,.nil=>.nil
 |_,_,0,.cons _ t=>.cons r t
 |_,_,i+1,.cons q t=>.cons q (cB.set r i t)
theorem cB.append:∀{xs ys:List V}{us ws:List Value},cB xs us->cB ys ws->cB (xs++ys) (us++ws)
 |_,_,_,_,.nil,s=>s
 |_,_,_,_,.cons r t,s=>.cons r (cB.append t s)
theorem cB.take:∀{xs:List V}{us:List Value}(n:Nat),cB xs us->cB (xs.take n) (us.take n)
 |_,_,0,_=>.nil
 |_,_,_+1,.nil=>.nil
 |_,_,n+1,.cons r t=>.cons r (cB.take n t)
theorem cB.drop:∀{xs:List V}{us:List Value}(n:Nat),cB xs us->cB (xs.drop n) (us.drop n)
 |_,_,0,r=>r
 |_,_,_+1,.nil=>.nil
 |_,_,n+1,.cons _ t=>cB.drop n t
def B8:Option V->Option Value->Prop
 |some v,some u=>cq v u
 |none,none=>True
 |_,_=>False
def KV{κ:Type}:List (κ×V)->List (κ×Value)->Prop:=Paired λ(p:κ×V) (q:κ×Value)=>p.1=q.1/\cq p.2 q.2
noncomputable def kV:Mj->V
 |.inl i=>.int i
 |.inr x=>.str x
inductive HO where
 |lst (xs:List V)
 |tup (xs:List V)
 |dK (kvs:List (Mj×V))|dT (kvs:List (List Mj×V))
 |set (S:Int->Bool) (n:Nat)
 |ins (C dx:Addr) (fs:List (Str×V))
 |own (x:Addr)
 |xd (fs:List (Str×V))
 |met (f x:Addr)
 |rng (lo hi:Int)
 |frz (o:Obj) (u:HO)
 |tbl (q:Str)
 |ext (φ:Heap->Prop)
noncomputable abbrev Hp:=Addr->Option HO
noncomputable def Ml(H:Hp)(a:Addr)(o:HO):Hp:=λb=>if b=a then some o else H b
theorem bb{H:Hp}{a:Addr}{o:HO}:Ml H a o a=some o:=by unfold Ml;rw[if_pos rfl]
theorem aC{H:Hp}{a b:Addr}{o:HO}(h:b≠a):Ml H a o b=H b:=by unfold Ml;rw[if_neg h]
theorem EG{H:Hp}{a:Addr}{o u:HO}:Ml (Ml H a o) a u=Ml H a u:=by
 funext b;unfold Ml;split<;>rfl
theorem ba{H:Hp}{a b:Addr}{o:HO}(h:H a=some o)(h':H b=none):a≠b:=by intro e;subst e;rw[h]at h';cases h'
def sP(oc:Obj)(q:Str):Prop:=∃vs t,oc.data=.fields vs/\vs[1]?=some (.str q t)
section
variable(P:Program)(w:World)
def c8(H:Hp)(h:Heap)(a:Addr):HO->Prop
 |.lst xs=>xs.length≤sizeLine/\∃(its:List Value)(n:Nat),cB xs its/\h.get? a=some {cls:=.type "list",data:=.seq its.toArray n}
 |.tup xs=>xs.length≤sizeLine/\∃its:List Value,cB xs its/\IsTup h a its.toArray
 |.dK kvs=>kvs.length≤sizeLine/\(a == sysModules)=false/\∃vs,KV kvs vs/\h.DictOf (mn P w) a vs
 | .dT kvs=>kvs.length≤sizeLine/\(a == sysModules)=false/\∃xs:List (List Mj×Addr×Value),
   Paired (λ(p:List Mj×V) (q:List Mj×Addr×Value)=>p.1=q.1/\H q.2.1=some (.tup (p.1.map kV))/\cq p.2 q.2.2) kvs xs /\
   ∃o es ep,h.get? a=some o/\o.ExactDict/\o.data=.dict es ep/\es.toList=xs.map (entryOfKey (tupleKind (mn P w)))/\(xs.map (·.1)).Nodup
 |.set S n=>h.SetOf (intKind P w) a S n
 | .ins C dx fs=>H dx=some (.own a)/\fs.length≤1000/\dx≠a/\h.get? a=some (PySem.W.instObj C dx) /\
   ∃mA,h.Ns1 dx mA/\(∀f,B8 (fs.lookup f) (mA f))/\PySem.Within mA (fs.map (·.1))
 |.own _=>∃o,h.get? a=some o
 |.xd fs=>∃mA,h.Ns1 a mA/\∀f,B8 (fs.lookup f) (mA f)
 |.rng lo hi=>∃ t u v,h.get? a=some {cls:=.type "range",data:=.fields #[.int lo t,.int hi u,.int 1 v] }
 |.frz o u=>h.get? a=some o/\c8 H h a u
 |.tbl q=>∃ps:Array Value,h.get? a=some {cls:=.none,data:=.fields ps}/\TriplesOk ps.toList/\∀pos cv,codeAmong pos ps.toList=some cv->∃c' oc,cv=.ref c'/\H c'=some (.frz oc (.own c'))/\sP oc q
 |.met f x=>h.get? a=some (PySem.W.methodObj (.ref f) (.ref x))
 |.ext φ=>φ h/\(∃o,h.get? a=some o)/\∀h1 h2:Heap,φ h1->(∀o,h1.get? a=some o->h2.get? a=some o)->φ h2
def Mm(H:Hp)(h:Heap):Prop:=∀a o,H a=some o->c8 P w H h a o
end
section
variable{P:Program}{w:World}{H H':Hp}{h h':Heap}{a:Addr}{o:HO}
theorem c8.lt(x:c8 P w H h a o):a<h.objs.size:=by
 cases o with
 |lst xs=>obtain⟨_,_,_,_,e⟩:=x;exact Heap.lt_size e
 |tup xs=>obtain⟨_,_,_,p⟩:=x;exact p.lt
 |dK kvs=>obtain⟨_,_,_,_,o,_,_,e,_⟩:=x;exact Heap.lt_size e
 |dT kvs=>obtain⟨_,_,_,_,o,_,_,e,_⟩:=x;exact Heap.lt_size e
 |set S n=>obtain⟨o,_,_,_,e,_⟩:=x;exact Heap.lt_size e
 |ins C dx fs=>obtain⟨_,_,_,e,_⟩:=x;exact Heap.lt_size e
 |own y=>obtain⟨_,e⟩:=x;exact Heap.lt_size e
 |xd fs=>obtain⟨_,⟨_,_,_,e,_⟩,_⟩:=x;exact Heap.lt_size e
 |rng lo hi=>obtain⟨_,_,_,e⟩:=x;exact Heap.lt_size e
 |frz ob u=>obtain⟨e,_⟩:=x;exact Heap.lt_size e
 |tbl q=>obtain⟨_,e,_⟩:=x;exact Heap.lt_size e
 |met f y=>exact Heap.lt_size (show h.get? a=some _ from x)
 |ext φ=>obtain⟨_,⟨_,e⟩,_⟩:=x;exact Heap.lt_size e
theorem Paired.mapP{α β:Type}{F G:α->β->Prop}:∀{l₁:List α}{l₂:List β},Paired F l₁ l₂->(∀a b,F a b->G a b)->Paired G l₁ l₂
 |_,_,.nil,_=>.nil
 |_,_,.cons r t,f=>.cons (f _ _ r) (Paired.mapP t f)
theorem c8.stay(x:c8 P w H h a o)(k:∀b u,(b=a∨H b=some (.own a))->h.get? b=some u->h'.get? b=some u)
  (ho:∀b,H b=some (.own a)->H' b=some (.own a)) (ht:∀b xs,H b=some (.tup xs)->H' b=some (.tup xs)) (hf:∀b o q,sP o q->H b=some (.frz o (.own b))->H' b=some (.frz o (.own b))):c8 P w H' h' a o:=by
 induction o with
 |lst xs=>obtain⟨z,its,n,r,e⟩:=x;exact⟨z,its,n,r,k _ _ (.inl rfl) e⟩
 |tup xs=>obtain⟨z,its,r,ob,e,c⟩:=x;exact⟨z,its,r,ob,k _ _ (.inl rfl) e,c⟩
 |dK kvs=>obtain⟨z,y,vs,r,ob,es,ep,e,c⟩:=x;exact⟨z,y,vs,r,ob,es,ep,k _ _ (.inl rfl) e,c⟩
 | dT kvs =>
  obtain⟨z,y,xs,r,ob,es,ep,e,c⟩:=x;exact⟨z,y,xs,Paired.mapP r λp q z=>⟨z.1,ht _ _ z.2.1,z.2.2⟩,ob,es,ep,k _ _ (.inl rfl) e,c⟩
 |set S n=>obtain⟨ob,es,ep,t,e,c⟩:=x;exact⟨ob,es,ep,t,k _ _ (.inl rfl) e,c⟩
 | ins C dx fs =>
  obtain⟨d,z,ne,e,mA,⟨od,es,ep,e2,c⟩,r⟩:=x;exact⟨ho _ d,z,ne,k _ _ (.inl rfl) e,mA,⟨od,es,ep,k _ _ (.inr d) e2,c⟩,r⟩
 |own y=>obtain⟨ob,e⟩:=x;exact⟨ob,k _ _ (.inl rfl) e⟩
 |xd fs=>obtain⟨mA,⟨od,es,ep,e,c⟩,r⟩:=x;exact⟨mA,⟨od,es,ep,k _ _ (.inl rfl) e,c⟩,r⟩
 |rng lo hi=>obtain⟨t,u,v,e⟩:=x;exact⟨t,u,v,k _ _ (.inl rfl) e⟩
 |frz ob u ih=>obtain⟨e,q⟩:=x;exact⟨k _ _ (.inl rfl) e,ih q⟩
 | tbl q =>
  obtain⟨ps,e,tr,m⟩:=x
  exact⟨ps,k a _ (.inl rfl) e,tr,λpos cv z=>let ⟨c',oc,a1,a2,a3⟩:=m pos cv z;⟨c',oc,a1,hf _ _ _ a3 a2,a3⟩⟩
 | met f y =>
  have e:h.get? a=some (PySem.W.methodObj (.ref f) (.ref y)):=x;show h'.get? a=some (PySem.W.methodObj (.ref f) (.ref y));exact k a _ (.inl rfl) e
 |ext φ=>obtain⟨p,⟨o,e⟩,st⟩:=x;exact⟨st _ _ p λo q=>k _ _ (.inl rfl) q,⟨o,k _ _ (.inl rfl) e⟩,st⟩
theorem Mm.lt(x:Mm P w H h)(e:H a=some o):a<h.objs.size:=(x a o e).lt
theorem Mm.fresh(x:Mm P w H h)(e:h.objs.size≤a):H a=none:=by
 cases q:H a with
 |none=>rfl
 |some u=>exact absurd (Nat.lt_of_lt_of_le (x.lt q) e) (Nat.lt_irrefl _)
theorem Mm.kept(x:Mm P w H h)(k:∀b u,h.get? b=some u->h'.get? b=some u):Mm P w H h':=λa o e =>
 (x a o e).stay (λb u _ q=>k b u q) (λ_ q=>q) (λ_ _ q=>q) λ_ _ _ _ q=>q
theorem Mm.laid(x:Mm P w H h)(k:∀b u,h.get? b=some u->h'.get? b=some u)(hp:h.objs.size≤a)(new:c8 P w (Ml H a o) h' a o):Mm P w (Ml H a o) h':=λb u e=>by
 have hn:=x.fresh hp;by_cases hb:b=a
 · subst hb;rw[bb]at e;cases e;exact new
 · rw[aC hb]at e;exact(x b u e).stay (λc v _ q=>k c v q) (λc q=>by rw[aC (ba q hn)];exact q) (λc xs q=>by rw[aC (ba q hn)];exact q) λc ob _ _ q=>by rw[aC (ba q hn)];exact q
end
def Rd(H:Hp)(a:Addr)(u:HO):Prop:=H a=some u∨∃o,H a=some (.frz o u)
theorem Rd.of{H:Hp}{a:Addr}{u:HO}(h:H a=some u):Rd H a u:=.inl h
theorem Rd.ok{P:Program}{w:World}{H:Hp}{h:Heap}{a:Addr}{u:HO}(r:Rd H a u)(x:Mm P w H h):c8 P w H h a u:=by
 rcases r with r|⟨o,r⟩
 · exact x a u r
 · obtain⟨_,q⟩:=x a _ r;exact q
def Mn:Option HO->Prop
 |some (.lst _)=>True
 |some (.dK _)=>True
 |some (.dT _)=>True
 |some (.set _ _)=>True
 |some (.ins _ _ _)=>True
 |some (.ext _)=>True
 |_=>False
section
variable{P:Program}{w:World}{H:Hp}{h h':Heap}{x e:Addr}{o':HO}
theorem Mm.write(ok:Mm P w H h)(mu:Mn (H x))(he:e=x∨H e=some (.own x))(k:∀b u,b≠e->h.get? b=some u->h'.get? b=some u)(heo:∃u,h'.get? e=some u)
  (new:c8 P w (Ml H x o') h' x o'):Mm P w (Ml H x o') h':=λb u q=>by
 have nown:∀c y,H c=some (.own y)->c≠x:=λc y r z=>by subst z;rw[r]at mu;exact mu
 have ntup:∀c xs,H c=some (.tup xs)->c≠x:=λc xs r z=>by subst z;rw[r]at mu;exact mu
 have nfrz:∀c o u,H c=some (.frz o u)->c≠x:=λc o u r z=>by subst z;rw[r]at mu;exact mu
 by_cases hb:b=x
 · subst hb;rw[bb]at q;cases q;exact new
 ·
  rw[aC hb]at q;by_cases hbe:b=e
  ·
   have q':H b=some (.own x):=by
    rcases he with z|z
    · exact absurd (hbe.trans z) hb
    · rw[hbe];exact z
   rw[q]at q';cases q';obtain⟨v,hv⟩:=heo;exact⟨v,by rw[hbe];exact hv⟩
  ·
   refine(ok b u q).stay (λc v hc r=>k c v ?_ r) (λc r=>by rw[aC (nown c b r)];exact r) (λc xs r=>by rw[aC (ntup c xs r)];exact r) λc ob _ _ r=>by rw[aC (nfrz c ob _ r)];exact r
   rcases hc with rfl|hc
   · exact hbe
   ·
    rintro rfl;rcases he with z|z
    · exact nown c b hc z
    · rw[hc]at z;cases z;exact hb rfl
end
structure Un (fs ex:List Addr) (H H':Hp) (h h':Heap):Prop where
 keep:∀b o,h.get? b=some o->H b=none->b∉fs->b∉ex->h'.get? b=some o
 slot:∀b o,h.get? b=some o->H b=none->b∈fs->b∉ex->∃sl,h'.get? b=some {o with slots:=sl}
 free:∀b o,h.get? b=some o->H b=none->b∉ex->H' b=none
 there:∀b o,h.get? b=some o->b∉ex->∃o',h'.get? b=some o'
 tups:∀b xs,H b=some (.tup xs)->H' b=some (.tup xs)
 frzs:∀b o u,H b=some (.frz o u)->H' b=some (.frz o u)
 tbls:∀b q,H b=some (.tbl q)->H' b=some (.tbl q)
section
variable{fs fs' ex ex':List Addr}{H H1:Hp}{h h1 h':Heap}{a x e:Addr}{o:HO}
theorem Un.any(u:Un fs ex H H1 h h1){b:Addr}{ob:Obj}(q:h.get? b=some ob)(n:H b=none)(hx:b∉ex):∃sl,h1.get? b=some {ob with slots:=sl}:=by
 by_cases hb:b∈fs
 · exact u.slot b ob q n hb hx
 · exact⟨ob.slots,u.keep b ob q n hb hx⟩
theorem Un.kept(k:∀b u,h.get? b=some u->h'.get? b=some u):Un fs ex H H h h' :=
 ⟨λb ob q _ _ _=>k b ob q,λb ob q _ _ _=>⟨ob.slots,k b ob q⟩,λ_ _ _ n _=>n,λb ob q _=>⟨ob,k b ob q⟩,λ_ _ q=>q,λ_ _ _ q=>q,λ_ _ q=>q⟩
theorem Un.refl:Un fs ex H H h h:=Un.kept λ_ _ q=>q
theorem Un.laid(k:∀b u,h.get? b=some u->h'.get? b=some u)(hp:h.objs.size≤a)(hn:H a=none):Un fs ex H (Ml H a o) h h' where
 keep:=λb u q _ _ _=>k b u q
 slot:=λb u q _ _ _=>⟨u.slots,k b u q⟩
 free:=λb u q n _=>by rw[aC (Nat.ne_of_lt (Nat.lt_of_lt_of_le (Heap.lt_size q) hp))];exact n
 there:=λb u q _=>⟨u,k b u q⟩
 tups:=λb xs q=>by rw[aC (ba q hn)];exact q
 frzs:=λb u xs q=>by rw[aC (ba q hn)];exact q
 tbls:=λb ps q=>by rw[aC (ba q hn)];exact q
theorem Un.write(mu:Mn (H x))(he:e=x∨H e=some (.own x))(k:∀b u,b≠e->h.get? b=some u->h'.get? b=some u)(heo:∃u,h'.get? e=some u):Un fs ex H (Ml H x o) h h':=by
 have hx:∀b,H b=none->b≠x:=λb n z=>by subst z;rw[n]at mu;exact mu
 have hb:∀b,H b=none->b≠e:=λb n z=>by
  subst z;rcases he with r|r
  · exact hx b n r
  · rw[n]at r;cases r
 have hm:∀b u,H b=some u->¬Mn (some u)->b≠x:=λb u q nm z=>by subst z;rw[q]at mu;exact nm mu
 refine⟨λb u q n _ _=>k b u (hb b n) q,λb u q n _ _=>⟨u.slots,k b u (hb b n) q⟩,λb u q n _=>by rw[aC (hx b n)];exact n,λb u q _=>?_,
  λb xs q=>by rw[aC (hm b _ q λz=>z)];exact q,λb u xs q=>by rw[aC (hm b _ q λz=>z)];exact q,λb ps q=>by rw[aC (hm b _ q λz=>z)];exact q⟩
 by_cases hbe:b=e
 · subst hbe;exact heo
 · exact⟨u,k b u hbe q⟩
theorem Un.mono(u:Un fs ex H H1 h h1)(hs:∀b∈fs,b∈fs')(hx:∀b∈ex,b∈ex'):Un fs' ex' H H1 h h1 :=
 ⟨λb ob q n hb he=>u.keep b ob q n (λz=>hb (hs b z)) λz=>he (hx b z),λ_ _ q n _ he=>u.any q n λz=>he (hx _ z),λb ob q n he=>u.free b ob q n λz=>he (hx b z),λb ob q he=>u.there b ob q λz=>he (hx b z),u.tups,u.frzs,u.tbls⟩
end
noncomputable def Mo(h:Heap)(H:Hp):List Addr:=(List.range h.objs.size).filter λa=>(H a).isSome
noncomputable def B9(h:Heap)(H:Hp):Heap:=PySem.W.hideAll h (Mo h H)
theorem zr(h:Heap)(H:Hp):(B9 h H).objs.size=h.objs.size:=PySem.W.hideAll_size _ _
theorem Ca{h:Heap}{H:Hp}{b:Addr}{o:Obj}(e:h.get? b=some o)(n:H b=none):(B9 h H).get? b=some o :=
 PySem.W.hideAll_get _ e λhm=>by have q:(H b).isSome=true:=(List.mem_filter.mp hm).2;rw[n]at q;simp at q
theorem EH{h:Heap}{H:Hp}{b:Addr}{o:Obj}(e:(B9 h H).get? b=some o):h.get? b=some o/\H b=none:=by
 have e':h.get? b=some o:=PySem.W.of_hideAll (Mo h H) e;refine⟨e',?_⟩
 cases q:H b with
 |none=>rfl
 | some x =>
  have hm:b∈Mo h H:=List.mem_filter.mpr ⟨List.mem_range.mpr (Heap.lt_size e'),by simp[q]⟩;have z:(B9 h H).get? b=none:=PySem.W.hideAll_none (Mo h H) hm;rw[z]at e;cases e
noncomputable def EJ(g h:Heap)(L:Addr):List (Addr×Obj):=(List.range h.objs.size).filterMap λa=>if a=L∨(g.get? a).isSome=true then none else(h.get? a).map λo=>(a,o)
noncomputable def eh(g h:Heap)(L d:Addr):List (Addr×Obj):=(EJ g h L).filter λp=>decide (p.1≠d)
def Hh(mg:Str->Option Value)(h:Heap):Prop:=∃ bm ob,mg "__builtins__"=some (.ref bm)/\bm≠builtinsNs/\h.get? bm=some ob/\ob.cls=.type "module"/\ob.dict=some builtinsNs/\ob.data=.plain
noncomputable def lamNames:List Str:=["look_at_asks","by_lesser_place","look_at_string"]
noncomputable def Hi(x:Str):Str:=(x++".<locals>.")++"<lambda>"
def Mp(K:PySem.W.Frag)(H:Hp):Prop:=∀x∈lamNames,∀c P,PySem.W.tabIn K x=some (c,P)->H P=some (.tbl (Hi x))
theorem Mp.un{K:PySem.W.Frag}{fs ex:List Addr}{H H':Hp}{h h':Heap}(t:Mp K H)(u:Un fs ex H H' h h'):Mp K H':=λx hx c P e=>u.tbls _ _ (t x hx c P e)
structure Mod (K:PySem.W.Frag) (mg:Str->Option Value) (base:Heap):Prop where
 kin:K.In base
 glob:base.Ns mainGlobals mg
 blt:∃ mb,base.Ns builtinsNs mb/\∀ x:Str,x≠"__name__"->mb x=bootBuiltins x
 nolimit:base.NoLimit
 sysm:∃mm,base.Ns sysModules mm
 bmn:Hh mg base
 cds:∀x∈lamNames,∀c P,PySem.W.tabIn K x=some (c,P)->PySem.W.CodeHd base c P
/-- the context: a def's body (or a comprehension's EK) running. base: fixed through the whole law;s₀,H₀: the entry;outer: the frames whose slots others may change (a def's callers);stack: all frames that run;
  ex: iterators that were made ahead of the entry and are walked here (a comprehension's);fn: the names whose cells were made at the entry (a def: all;a comprehension's EK: its own);calm: not zu an except suite;pn: pins that every state bears;xe: what is wanted of an exception that leaves the code -/
structure Cx where
 prog:Program
 w:World
 K:PySem.W.Frag
 mg:Str->Option Value
 base:Heap
 A:Around
 N:List Str
 s₀:Shared
 H₀:Hp
 env:Env
 outer:List Env
 stack:List Env
 ex:List Addr
 fn:Str->Bool
 calm:Bool
 pn:List (Addr×Obj)
 xe:Value->Shared->Prop
noncomputable def Mq(l:List Env):List Addr:=l.filterMap (·.frame)
noncomputable abbrev Cx.fs(X:Cx):List Addr:=Mq X.outer
def Mr(sc:Scope)(x:Str):Prop:=sc.names.lookup x=some .local∨sc.names.lookup x=some .cell∨sc.names.lookup x=some .free
def Ms(sc:Scope)(x:Str):Prop:=sc.names.lookup x=some .local∨sc.names.lookup x=some .cell
def Lp(env:Env)(h:Heap)(m:Str->Option Value)(x:Str)(u:Value):Prop :=
 (env.kindOf x=some .local/\m x=some u)∨((env.kindOf x=some .cell∨env.kindOf x=some .free)/\∃c,env.cells.lookup x=some c/\h.IsCell c (some u))
structure Cx.Ok (X:Cx):Prop where
 mod:Mod X.K X.mg X.base
 kind:X.env.scope.kind=.function
 glob:X.env.globals=mainGlobals
 blt:X.env.builtins=builtinsNs
 above:X.s₀.heap.objs.size≤X.env.locals
 inj:∀x y c,X.env.cells.lookup x=some c->X.env.cells.lookup y=some c->x=y
 has:∀x,(X.env.kindOf x=some .cell∨X.env.kindOf x=some .free)->∃c,X.env.cells.lookup x=some c
 cab:∀x c,X.fn x=true->X.env.cells.lookup x=some c->X.s₀.heap.objs.size≤c
 hd:X.calm=true->X.A.handled=none
 frames:X.A.frames=some X.stack
 stk:X.stack=X.outer∨(X.stack=X.env::X.outer/\X.env.frame=some X.env.locals)
 exf:∀b∈X.ex,b≠X.env.locals/\∀x c,X.env.cells.lookup x=some c->c≠b
 bs:∀b o,X.base.get? b=some o->X.s₀.heap.get? b=some o/\X.H₀ b=none
 bsz:X.base.objs.size≤X.s₀.heap.objs.size
 noex:∀b o,X.base.get? b=some o->b∉X.ex
 exfs:∀b∈X.ex,b∉X.fs
 funs:X.s₀.heap.FunFrames X.base X.outer
 frf:∀b∈X.fs,X.H₀ b=none
 tbs:Mp X.K X.H₀
structure Mt (X:Cx) (pins:List (Addr×Obj)) (σ:List (Option V)) (H:Hp) (s:Shared):Prop where
 ok:X.Ok
 os:s.os=X.s₀.os
 bare:AllBare s.gens
 base:Un X.fs X.ex X.H₀ H X.s₀.heap s.heap
 loc:∃m,s.heap.Ns X.env.locals m/\∀(i:Nat)(x:Str)(v:V),X.N[i]?=some x->σ[i]?=some (some v)->Mr X.env.scope x->∃u,cq v u/\Lp X.env s.heap m x u
 cell:∀x c,X.env.cells.lookup x=some c->∃v,s.heap.IsCell c v
 free:H X.env.locals=none
 freeC:∀x c,X.env.cells.lookup x=some c->H c=none∨(X.fn x=false/\∃o,H c=some (.frz o (.own c)))
 pin:∀p∈X.pn++pins,s.heap.get? p.1=some p.2/\H p.1=none/\p.1≠X.env.locals/\p.1∉X.fs/\∀v,p.2.data≠.cell v
 hok:Mm X.prog X.w H s.heap
 len:σ.length=X.N.length
section
variable{X:Cx}{pins:List (Addr×Obj)}{σ:List (Option V)}{H H':Hp}{s:Shared}{h':Heap}
theorem Cx.Ok.nofr(ok:X.Ok){b:Addr}{o:Obj}(e:X.base.get? b=some o):b∉X.fs:=λhb=>by have:=(ok.funs.mem hb).1;rw[e]at this;cases this
theorem Mt.bs(I:Mt X pins σ H s):∀b o,X.base.get? b=some o->s.heap.get? b=some o/\H b=none:=λb o e =>
 ⟨I.base.keep b o (I.ok.bs b o e).1 (I.ok.bs b o e).2 (I.ok.nofr e) (I.ok.noex b o e),I.base.free b o (I.ok.bs b o e).1 (I.ok.bs b o e).2 (I.ok.noex b o e)⟩
theorem Mt.bk(I:Mt X pins σ H s):∀b o,X.base.get? b=some o->s.heap.get? b=some o:=λb o e=>(I.bs b o e).1
theorem Mt.tbs(I:Mt X pins σ H s):Mp X.K H:=I.ok.tbs.un I.base
theorem Mt.mod(I:Mt X pins σ H s):Mod X.K X.mg X.base:=I.ok.mod
theorem Mt.kIn(I:Mt X pins σ H s):X.K.In s.heap:=I.ok.mod.kin.keeps I.bk
theorem Mt.fr(I:Mt X pins σ H s):∃m,Fr X.base X.env.locals s.heap m :=
 let ⟨m,hn,_⟩:=I.loc
 ⟨m,hn,I.bk,Nat.le_trans I.ok.bsz I.ok.above⟩
theorem Mt.lt(I:Mt X pins σ H s):X.env.locals<s.heap.objs.size:=let ⟨_,hn,_⟩:=I.loc;hn.lt
theorem Mt.sz(I:Mt X pins σ H s):X.s₀.heap.objs.size≤s.heap.objs.size:=Nat.le_trans I.ok.above (Nat.le_of_lt I.lt)
theorem Mt.nofs(I:Mt X pins σ H s){a:Addr}(h:s.heap.objs.size≤a):a∉X.fs:=λhb=>by obtain⟨_,o,ho,_⟩:=I.ok.funs.mem hb;exact absurd (Nat.lt_of_lt_of_le (Heap.lt_size ho) (Nat.le_trans I.sz h)) (Nat.lt_irrefl _)
theorem Mt.cne(I:Mt X pins σ H s):∀x c,X.env.cells.lookup x=some c->c≠X.env.locals:=λx c e z=>by obtain⟨v,o,ho,hd⟩:=I.cell x c e;obtain⟨m,⟨o',es,ep,ho',hd',_⟩,_⟩:=I.loc;rw[z,ho']at ho;cases ho;rw[hd']at hd;cases hd
theorem Mt.funs(I:Mt X pins σ H s):s.heap.FunFrames X.base X.outer:=by
 have all:∀(l:List Env),(∀b∈Mq l,b∈X.fs)->X.s₀.heap.FunFrames X.base l->s.heap.FunFrames X.base l:=by
  intro l
  induction l with
  |nil=>intro _ _;trivial
  | cons env r ih =>
   intro hs hl;obtain⟨hk,⟨L,o,hf,hn,ho,hd⟩,hr⟩:=hl;have hL:L∈X.fs:=hs L (by unfold Mq;rw[List.filterMap_cons,hf];exact List.mem_cons_self);obtain⟨sl,e⟩:=I.base.slot L o ho (I.ok.frf L hL) hL λz=>I.ok.exfs L z hL;exact⟨hk,⟨L,_,hf,hn,e,hd⟩,ih (λb hb=>hs b (by unfold Mq;rw[List.filterMap_cons,hf];exact List.mem_cons_of_mem _ hb)) hr⟩
 exact all X.outer (λ_ hb=>hb) I.ok.funs
theorem Mt.stack(I:Mt X pins σ H s):s.heap.FunFrames X.base X.stack:=by
 rcases I.ok.stk with e|⟨e,hf⟩
 · rw[e];exact I.funs
 · rw[e];obtain⟨m,hn,_⟩:=I.loc;refine .cons (by rw[I.ok.kind];decide) hf hn ?_ I.funs;exact Heap.get?_none_of_le (Nat.le_trans I.ok.bsz I.ok.above)
theorem Mt.stkSub(I:Mt X pins σ H s):∀b∈Mq X.stack,b∈X.env.locals::X.fs:=λb hb=>by
 rcases I.ok.stk with e|⟨e,hf⟩
 · rw[e]at hb;exact List.mem_cons_of_mem _ hb
 · rw[e]at hb;unfold Mq at hb;rw[List.filterMap_cons,hf]at hb;exact hb
theorem Mt.stkFree(I:Mt X pins σ H s):∀b∈Mq X.stack,H b=none:=λb hb=>by
 rcases List.mem_cons.mp (I.stkSub b hb)with e|hb
 · rw[e];exact I.free
 · obtain⟨_,o,ho,_⟩:=I.ok.funs.mem hb;exact I.base.free b o ho (I.ok.frf b hb) λz=>I.ok.exfs b z hb
theorem Mt.step{g':Array GenState}{t':Nat}{d':Drawn}{ch:List Addr}(I:Mt X pins σ H s)
  (hch:∀b∈ch,(b∈X.ex∨X.s₀.heap.objs.size≤b)/\b≠X.env.locals/\(∀x c,X.env.cells.lookup x=some c->c≠b)/\∀p∈X.pn++pins,p.1≠b)
  (keep:∀b o,b≠X.env.locals->b∉X.fs->b∉ch->s.heap.get? b=some o->H b=none->h'.get? b=some o)
  (slot:∀b o,b≠X.env.locals->b∈X.fs->b∉ch->s.heap.get? b=some o->H b=none->∃sl,h'.get? b=some {o with slots:=sl}) (free:∀b o,b∉ch->s.heap.get? b=some o->H b=none->H' b=none)
  (there:∀b o,b∉ch->s.heap.get? b=some o->∃o',h'.get? b=some o')
  (tups:∀b xs,H b=some (.tup xs)->H' b=some (.tup xs)) (frzs:∀b o u,H b=some (.frz o u)->H' b=some (.frz o u)) (tbls:∀b q,H b=some (.tbl q)->H' b=some (.tbl q))
  (ns:∀m,s.heap.Ns X.env.locals m->h'.Ns X.env.locals m) (hok:Mm X.prog X.w H' h') (hg:AllBare g') :
  Mt X pins σ H' {s with heap:=h',gens:=g',drawn:=d',toks:=t' }:=by
 have neL:∀b o,X.s₀.heap.get? b=some o->b≠X.env.locals:=λb o e=>Nat.ne_of_lt (Nat.lt_of_lt_of_le (Heap.lt_size e) I.ok.above)
 have neC:∀b o,X.s₀.heap.get? b=some o->b∉X.ex->b∉ch:=λb o e hx hb=>by
  rcases(hch b hb).1 with z|z
  · exact hx z
  · exact absurd (Nat.lt_of_lt_of_le (Heap.lt_size e) z) (Nat.lt_irrefl _)
 have cellK:∀x c,X.env.cells.lookup x=some c->∀v,s.heap.IsCell c v->h'.IsCell c v:=λx c e v ⟨o,ho,hd⟩=>by
  have nch:c∉ch:=λz=>(hch c z).2.2.1 x c e rfl;rcases I.freeC x c e with hn|⟨_,o2,hz⟩
  ·
   by_cases hc:c∈X.fs
   · obtain⟨sl,q⟩:=slot c o (I.cne x c e) hc nch ho hn;exact⟨_,q,hd⟩
   · exact⟨o,keep c o (I.cne x c e) hc nch ho hn,hd⟩
  · have e1:=(I.hok c _ hz).1;rw[ho]at e1;cases e1;exact⟨o,(hok c _ (frzs c _ _ hz)).1,hd⟩
 refine⟨I.ok,I.os,hg,⟨λb o e n hb hx=>?_,λb o e n hb hx=>?_,λb o e n hx=>?_,λb o e hx=>?_,λb xs e=>tups b xs (I.base.tups b xs e),λb o xs e=>frzs b o xs (I.base.frzs b o xs e),λb ps e=>?_⟩,?_,λx c e=>?_,?_,λx c e=>?_,λp hp=>?_,hok,I.len⟩
 · exact keep b o (neL b o e) hb (neC b o e hx) (I.base.keep b o e n hb hx) (I.base.free b o e n hx)
 · obtain⟨sl,e1⟩:=I.base.slot b o e n hb hx;obtain⟨sl',e2⟩:=slot b _ (neL b o e) hb (neC b o e hx) e1 (I.base.free b o e n hx);exact⟨sl',e2⟩
 · obtain⟨o',e1⟩:=I.base.there b o e hx;exact free b o' (neC b o e hx) e1 (I.base.free b o e n hx)
 · obtain⟨o',e1⟩:=I.base.there b o e hx;exact there b o' (neC b o e hx) e1
 · exact tbls b ps (I.base.tbls b ps e)
 ·
  obtain⟨m,hn,hl⟩:=I.loc;refine⟨m,ns m hn,λi x v e1 e2 e3=>?_⟩;obtain⟨u,r,l⟩:=hl i x v e1 e2 e3;refine⟨u,r,?_⟩;rcases l with l|⟨k,c,e,z⟩
  · exact .inl l
  · exact .inr ⟨k,c,e,cellK x c e _ z⟩
 · obtain⟨v,z⟩:=I.cell x c e;exact⟨v,cellK x c e v z⟩
 · obtain⟨m,⟨o,_,_,ho,_⟩,_⟩:=I.loc;exact free _ o (λz=>(hch _ z).2.1 rfl) ho I.free
 ·
  obtain⟨v,o,ho,hd⟩:=I.cell x c e;rcases I.freeC x c e with hn|⟨hf,o2,hz⟩
  · exact .inl (free c o (λz=>(hch c z).2.2.1 x c e rfl) ho hn)
  · exact .inr ⟨hf,o2,frzs c _ _ hz⟩
 · obtain⟨e,n,ne,nf,d⟩:=I.pin p hp;have nch:p.1∉ch:=λz=>(hch p.1 z).2.2.2 p hp rfl;exact⟨keep p.1 p.2 ne nf nch e n,free p.1 p.2 nch e n,ne,nf,d⟩
theorem Mt.un{t':Nat}(I:Mt X pins σ H s)(u:Un X.fs [] H H' s.heap h')(hok:Mm X.prog X.w H' h'):Mt X pins σ H' {s with heap:=h',toks:=t' }:=by
 obtain⟨m,⟨o,es,ep,ho,r⟩,_⟩:=id I.loc;obtain⟨sl,hL⟩:=u.any ho I.free (by simp)
 exact I.step (g':=s.gens) (d':=s.drawn) (ch:=[]) (λ_ z=>nomatch z) (λb o _ hb _ e n=>u.keep b o e n hb (by simp)) (λb o _ hb _ e n=>u.slot b o e n hb (by simp)) (λb o _ e n=>u.free b o e n (by simp)) (λb o _ e=>u.there b o e (by simp)) u.tups u.frzs u.tbls (λm' hm=>by
  obtain⟨o',es',ep',ho',r'⟩:=hm;rw[ho]at ho';cases ho'
  exact⟨_,es',ep',hL,r'⟩) hok I.bare
theorem Mt.call{g':Array GenState}{t':Nat}{d':Drawn}{ch:List Addr}(I:Mt X pins σ H s)(u:Un (Mq X.stack) ch H H' s.heap h')(hok:Mm X.prog X.w H' h')(hg:AllBare g')
  (hch:∀b∈ch,(b∈X.ex∨X.s₀.heap.objs.size≤b)/\b≠X.env.locals/\(∀x c,X.env.cells.lookup x=some c->c≠b)/\∀p∈X.pn++pins,p.1≠b) :
  Mt X pins σ H' {s with heap:=h',gens:=g',drawn:=d',toks:=t' }:=by
 obtain⟨m,⟨o,es,ep,ho,r⟩,_⟩:=id I.loc;obtain⟨sl,hL⟩:=u.any ho I.free λz=>(hch _ z).2.1 rfl
 exact I.step (ch:=ch) hch (λb o hL hb hc e n=>u.keep b o e n (λz=>(List.mem_cons.mp (I.stkSub b z)).elim hL hb) hc) (λb o _ _ hc e n=>u.any e n hc) (λb o hc e n=>u.free b o e n hc) (λb o hc e=>u.there b o e hc) u.tups u.frzs u.tbls (λm' hm=>by
  obtain⟨o',es',ep',ho',r'⟩:=hm;rw[ho]at ho';cases ho'
  exact⟨_,es',ep',hL,r'⟩) hok hg
theorem Mt.turned{t':Nat}{it:Addr}(I:Mt X pins σ H s)(k:∀b o,b≠it->s.heap.get? b=some o->h'.get? b=some o)(hn:H it=none)(hL:it≠X.env.locals)
  (h1:it∈X.ex∨X.s₀.heap.objs.size≤it) (h2:∀x c,X.env.cells.lookup x=some c->c≠it) (h3:∀p∈X.pn++pins,p.1≠it):Mt X pins σ H {s with heap:=h',toks:=t' }:=by
 have nit:∀b u,H b=some u->b≠it:=λb u e z=>by rw[z,hn]at e;cases e
 refine I.step (g':=s.gens) (d':=s.drawn) (ch:=[it]) (λb hb=>?_) (λb o _ _ hc e _=>k b o (λz=>hc (by simp[z])) e) (λb o _ _ hc e _=>⟨o.slots,k b o (λz=>hc (by simp[z])) e⟩) (λ_ _ _ _ n=>n)
  (λb o hc e=>⟨o,k b o (λz=>hc (by simp[z])) e⟩) (λ_ _ e=>e) (λ_ _ _ e=>e) (λ_ _ e=>e) (λm hm=>?_) (λb u e=>?_) I.bare
 ·
  have e:b=it:=by simpa using hb
  subst e;exact⟨h1,hL,h2,h3⟩
 · obtain⟨o,es,ep,ho,r⟩:=hm;exact⟨o,es,ep,k _ o (Ne.symm hL) ho,r⟩
 ·
  refine(I.hok b u e).stay (λc v hc q=>k c v ?_ q) (λ_ q=>q) (λ_ _ q=>q) λ_ _ _ _ q=>q;rcases hc with z|z
  · rw[z];exact nit b u e
  · exact nit c _ z
theorem Mt.tok(I:Mt X pins σ H s)(t:Nat):Mt X pins σ H {s with toks:=t}:=I.un (h':=s.heap) (t':=t) Un.refl I.hok
theorem Mt.kept{t':Nat}(I:Mt X pins σ H s)(k:∀b u,s.heap.get? b=some u->h'.get? b=some u):Mt X pins σ H {s with heap:=h',toks:=t' }:=I.un (Un.kept k) (I.hok.kept k)
theorem Mt.laid{a:Addr}{o:HO}{t':Nat}(I:Mt X pins σ H s)(k:∀b u,s.heap.get? b=some u->h'.get? b=some u)(hp:s.heap.objs.size≤a)(new:c8 X.prog X.w (Ml H a o) h' a o) :
  Mt X pins σ (Ml H a o) {s with heap:=h',toks:=t' }:=I.un (Un.laid k hp (I.hok.fresh hp)) (I.hok.laid k hp new)
theorem Mt.write{x e:Addr}{o:HO}{t':Nat}(I:Mt X pins σ H s)(mu:Mn (H x))(he:e=x∨H e=some (.own x))(k:∀b u,b≠e->s.heap.get? b=some u->h'.get? b=some u)(heo:∃u,h'.get? e=some u)
  (new:c8 X.prog X.w (Ml H x o) h' x o):Mt X pins σ (Ml H x o) {s with heap:=h',toks:=t' }:=I.un (Un.write mu he k heo) (I.hok.write mu he k heo new)
theorem Mt.pins_of{pins':List (Addr×Obj)}(I:Mt X pins σ H s)(h:∀p∈pins',s.heap.get? p.1=some p.2/\H p.1=none/\p.1≠X.env.locals/\p.1∉X.fs/\∀v,p.2.data≠.cell v):Mt X pins' σ H s :=
 ⟨I.ok,I.os,I.bare,I.base,I.loc,I.cell,I.free,I.freeC,λp hp=>(List.mem_append.mp hp).elim (λz=>I.pin p (List.mem_append_left _ z)) (h p),I.hok,I.len⟩
theorem qE{N:List Str}(hN:N.Nodup){i j:Nat}{x:Str}(a:N[i]?=some x)(b:N[j]?=some x):i=j:=by obtain⟨h1,e1⟩:=List.getElem?_eq_some_iff.mp a;obtain⟨h2,e2⟩:=List.getElem?_eq_some_iff.mp b;exact(List.getElem_inj hN).mp (e1.trans e2.symm)
theorem zv{M:Model}{A:Around}{E:Value->Shared->Prop}{i:Nat}{x:Str}{v:V}{u:Value}{Q:Unit->Shared->Prop}(I:Mt X pins σ H s)(hN:X.N.Nodup)(hi:X.N[i]?=some x)(hx:Ms X.env.scope x)(r:cq v u)
  (h:∀s',Mt X pins (σ.set i (some v)) H s'->(∃a,Heap.SameBut a s.heap s'.heap/\(a=X.env.locals∨X.env.cells.lookup x=some a))->Q () s') (hf:X.fn x=true∨X.env.scope.names.lookup x=some .local:=by first|exact .inl rfl|exact .inr rfl|assumption):wpAny M A (storeName X.env x u) Q E s:=by
 obtain⟨m,hn,hl⟩:=id I.loc;have hcls:(X.env.scope.kind == .class ||(X.env.scope.kind == .module && X.env.locals != X.env.globals))=false:=by rw[I.ok.kind];rfl
 have hiσ:i<σ.length:=by rw[I.len];exact(List.getElem?_eq_some_iff.mp hi).1
 have cne:=I.cne
 have tracked:∀{a:Addr}{h':Heap},(∃o,s.heap.get? a=some o/\H a=none)->Heap.SameBut a s.heap h'->Mm X.prog X.w H h':=λ{a h'} ha hs b ob e=>by
  obtain⟨_,_,hfree⟩:=ha;refine(I.hok b ob e).stay (λc w' hc q=>(hs.2 c ?_).trans q) (λ_ q=>q) (λ_ _ q=>q) λ_ _ _ _ q=>q;rintro rfl;rcases hc with rfl|hc
  · rw[hfree]at e;cases e
  · rw[hfree]at hc;cases hc
 rcases hx with hk|hk
 ·
  refine wpAny_storeName_local hk hn (λh' hn' hs=>?_) hcls;obtain⟨oL,_,_,hoL,_⟩:=id hn;refine h _ ⟨I.ok,I.os,I.bare,⟨λb o e n hb hx=>?_,λb o e n hb hx=>?_,I.base.free,λb o e hx=>?_,I.base.tups,I.base.frzs,I.base.tbls⟩,⟨_,hn',λj y v' e1 e2 e3=>?_⟩,λy c e=>?_,I.free,I.freeC,λp hp=>?_,tracked ⟨oL,hoL,I.free⟩ hs,by simpa using I.len⟩ ⟨_,hs,.inl rfl⟩
  · exact(hs.2 b (Nat.ne_of_lt (Nat.lt_of_lt_of_le (Heap.lt_size e) I.ok.above))).trans (I.base.keep b o e n hb hx)
  · obtain⟨sl,e1⟩:=I.base.slot b o e n hb hx;exact⟨sl,(hs.2 b (Nat.ne_of_lt (Nat.lt_of_lt_of_le (Heap.lt_size e) I.ok.above))).trans e1⟩
  · obtain⟨o',e1⟩:=I.base.there b o e hx;exact⟨o',(hs.2 b (Nat.ne_of_lt (Nat.lt_of_lt_of_le (Heap.lt_size e) I.ok.above))).trans e1⟩
  ·
   by_cases hj:j=i
   · subst hj;rw[hi]at e1;cases e1;rw[List.getElem?_set_self hiσ]at e2;cases e2;exact⟨u,r,.inl ⟨hk,by simp⟩⟩
   ·
    rw[List.getElem?_set_ne (Ne.symm hj)]at e2;obtain⟨u',r',q⟩:=hl j y v' e1 e2 e3;refine⟨u',r',?_⟩;rcases q with⟨k,e⟩|⟨k,c,e,z⟩
    · refine .inl ⟨k,?_⟩;have:y≠x:=λe=>hj (qE hN e1 (e ▸ hi));simp[this,e]
    · exact .inr ⟨k,c,e,z.sameBut hs (cne y c e)⟩
  · obtain⟨w',z⟩:=I.cell y c e;exact⟨w',z.sameBut hs (cne y c e)⟩
  · obtain⟨e,n,ne,nf,d⟩:=I.pin p hp;exact⟨(hs.2 p.1 ne).trans e,n,ne,nf,d⟩
 ·
  have hfn:X.fn x=true:=by
   rcases hf with z|z
   · exact z
   · rw[z]at hk;cases hk
  obtain⟨c,hc⟩:=I.ok.has x (.inl hk);obtain⟨w',z⟩:=I.cell x c hc;refine wpAny_storeName_cell I.ok.kind hk hc z (λh' hc' hs=>?_);obtain⟨oc,hoc,hocd⟩:=id z;refine h {s with heap:=h' } ⟨I.ok,I.os,I.bare,⟨λb o e n hb hx=>?_,λb o e n hb hx=>?_,I.base.free,λb o e hx=>?_,I.base.tups,I.base.frzs,I.base.tbls⟩,⟨m,hn.sameBut hs (Ne.symm (cne x c hc)),λj y v' e1 e2 e3=>?_⟩,λy c' e=>?_,I.free,I.freeC,λp hp=>?_,tracked ⟨oc,hoc,(I.freeC x c hc).resolve_right λz=>by rw[hfn]at z;exact absurd z.1 (by decide)⟩ hs,by simpa using I.len⟩ ⟨c,hs,.inr hc⟩
  · exact(hs.2 b (Nat.ne_of_lt (Nat.lt_of_lt_of_le (Heap.lt_size e) (I.ok.cab x c hfn hc)))).trans (I.base.keep b o e n hb hx)
  · obtain⟨sl,e1⟩:=I.base.slot b o e n hb hx;exact⟨sl,(hs.2 b (Nat.ne_of_lt (Nat.lt_of_lt_of_le (Heap.lt_size e) (I.ok.cab x c hfn hc)))).trans e1⟩
  · obtain⟨o',e1⟩:=I.base.there b o e hx;exact⟨o',(hs.2 b (Nat.ne_of_lt (Nat.lt_of_lt_of_le (Heap.lt_size e) (I.ok.cab x c hfn hc)))).trans e1⟩
  ·
   by_cases hj:j=i
   · subst hj;rw[hi]at e1;cases e1;rw[List.getElem?_set_self hiσ]at e2;cases e2;exact⟨u,r,.inr ⟨.inl hk,c,hc,hc'⟩⟩
   ·
    rw[List.getElem?_set_ne (Ne.symm hj)]at e2;obtain⟨u',r',q⟩:=hl j y v' e1 e2 e3;refine⟨u',r',?_⟩;rcases q with q|⟨k,c',e,z'⟩
    · exact .inl q
    · refine .inr ⟨k,c',e,z'.sameBut hs ?_⟩;rintro rfl;exact hj (qE hN e1 (I.ok.inj _ _ _ e hc ▸ hi))
  ·
   by_cases hcc:c'=c
   · subst hcc;exact⟨_,hc'⟩
   · obtain⟨w2,z2⟩:=I.cell y c' e;exact⟨w2,z2.sameBut hs hcc⟩
  · obtain⟨e,n,ne,nf,d⟩:=I.pin p hp;refine⟨(hs.2 p.1 ?_).trans e,n,ne,nf,d⟩;intro q;rw[q,hoc]at e;have q':oc=p.2:=Option.some.inj e;exact d w' (by rw[← q'];exact hocd)
theorem gv{M:Model}{A:Around}{E:Value->Shared->Prop}{i:Nat}{x:Str}{v:V}{u:Value}{Q:Unit->Shared->Prop}(I:Mt X pins σ H s)(hN:X.N.Nodup)(hi:X.N[i]?=some x)(hx:Ms X.env.scope x)(r:cq v u)
  (h:∀s',Mt X pins (σ.set i (some v)) H s'->Q () s') (hf:X.fn x=true∨X.env.scope.names.lookup x=some .local:=by first|exact .inl rfl|exact .inr rfl|assumption):wpAny M A (storeName X.env x u) Q E s :=
 zv I hN hi hx r (λs' I' _=>h s' I') hf
theorem Mt.call'{s':Shared}{ch:List Addr}(I:Mt X pins σ H s)(ho:s'.os=s.os)(u:Un (Mq X.stack) ch H H' s.heap s'.heap)(hok:Mm X.prog X.w H' s'.heap)(hg:AllBare s'.gens)
  (hch:∀b∈ch,(b∈X.ex∨X.s₀.heap.objs.size≤b)/\b≠X.env.locals/\(∀x c,X.env.cells.lookup x=some c->c≠b)/\∀p∈X.pn++pins,p.1≠b):Mt X pins σ H' s':=by
 obtain⟨h',g',d',t',o'⟩:=s';have e:o'=s.os:=ho;subst e;exact I.call (g':=g') (t':=t') (d':=d') u hok hg hch
end
noncomputable abbrev XK:=Value->Option Addr->Hp->Prop
noncomputable abbrev St:=List (Option V)
noncomputable abbrev VK:=V->Hp->Prop
abbrev TE:=St->Hp->VK->Prop
noncomputable abbrev TT:=St->Hp->(Bool->Hp->Prop)->Prop
noncomputable abbrev TA:=St->Hp->(List V->Hp->Prop)->Prop
structure G6 where
 nx:St->Hp->Prop
 rt:VK
 bk:St->Hp->Prop:=λ_ _=>False
 ct:St->Hp->Prop:=λ_ _=>False
abbrev TS:=G6->St->Hp->Prop
def EP(X:Cx)(pins:List (Addr×Obj))(σ:St)(Q:VK)(u:Value)(s':Shared):Prop:=∃v H',Mt X pins σ H' s'/\cq v u/\Q v H'
def TP(X:Cx)(pins:List (Addr×Obj))(σ:St)(Q:Bool->Hp->Prop)(b:Bool)(s':Shared):Prop:=∃H',Mt X pins σ H' s'/\Q b H'
def AP(X:Cx)(pins:List (Addr×Obj))(σ:St)(Q:List V->Hp->Prop)(us:List Value)(s':Shared):Prop:=∃vs H',Mt X pins σ H' s'/\cB vs us/\Q vs H'
def SP(X:Cx)(pins:List (Addr×Obj))(D:G6)(f:Flow)(s':Shared):Prop :=
 match f with
 |.next=>∃σ' H',Mt X pins σ' H' s'/\D.nx σ' H'
 |.brk=>∃σ' H',Mt X pins σ' H' s'/\D.bk σ' H'
 |.cont=>∃σ' H',Mt X pins σ' H' s'/\D.ct σ' H'
 |.ret u=>∃v σ' H',Mt X pins σ' H' s'/\cq v u/\D.rt v H'
def PE(X:Cx)(e:Expr)(t:TE):Prop :=
 ∀(pins:List (Addr×Obj))(s:Shared)(σ:St)(H:Hp)(Q:VK),Mt X pins σ H s->t σ H Q->wpAny (model X.prog X.w) X.A (eval e X.env) (EP X pins σ Q) X.xe s
def PT(X:Cx)(e:Expr)(t:TT):Prop :=
 ∀(pins:List (Addr×Obj))(s:Shared)(σ:St)(H:Hp)(Q:Bool->Hp->Prop),Mt X pins σ H s->t σ H Q->wpAny (model X.prog X.w) X.A (isTrue e X.env (eval e X.env)) (TP X pins σ Q) X.xe s
def PA(X:Cx)(es:List Expr)(t:TA):Prop :=
 ∀(pos:Pos)(pins:List (Addr×Obj))(s:Shared)(σ:St)(H:Hp)(Q:List V->Hp->Prop),Mt X pins σ H s->t σ H Q->wpAny (model X.prog X.w) X.A (spliced (backTo pos (starEach es X.env))) (AP X pins σ Q) X.xe s
def PS(X:Cx)(st:Stmt)(t:TS):Prop :=
 ∀(pins:List (Addr×Obj))(s:Shared)(σ:St)(H:Hp)(D:G6),Mt X pins σ H s->t D σ H->wpAny (model X.prog X.w) X.A (exec st X.env) (SP X pins D) X.xe s
def Mu(X:Cx)(st:List Stmt)(t:TS):Prop :=
 ∀(pins:List (Addr×Obj))(s:Shared)(σ:St)(H:Hp)(D:G6),Mt X pins σ H s->t D σ H->wpAny (model X.prog X.w) X.A (execs st X.env) (SP X pins D) X.xe s
theorem Mv{α:Type}{t:Sem α}{Q Q':α->Shared->Prop}{M:Model}{A:Around}{E:Value->Shared->Prop}{s:Shared}(h:wpAny M A t Q E s)(hQ:∀a s,Q a s->Q' a s):wpAny M A t Q' E s:=wpAny_mono h hQ λ_ _ x=>x
section
variable{X:Cx}
theorem Mw{a b:Expr}{ta tb:TE}(ha:PE X a ta)(hb:PE X b tb){pins:List (Addr×Obj)}{s:Shared}{σ:St}{H:Hp}{R:V->V->Hp->Prop}(I:Mt X pins σ H s)(h:ta σ H λx H1=>tb σ H1 λy H2=>R x y H2)
  {α:Type} {Q:α->Shared->Prop} {f:Value->Value->Sem α}
  (hf:∀v u s2 x y H2,Mt X pins σ H2 s2->cq x v->cq y u->R x y H2->wpAny (model X.prog X.w) X.A (f v u) Q X.xe s2) :
  wpAny (model X.prog X.w) X.A (eval a X.env) (λv s₁=>wpAny (model X.prog X.w) X.A (eval b X.env) (λu s₂=>wpAny (model X.prog X.w) X.A (f v u) Q X.xe s₂) X.xe s₁) X.xe s:=by
 refine Mv (ha pins s σ H _ I h) λv s1 ⟨x,H1,I1,r1,q1⟩=>?_;refine Mv (hb pins s1 σ H1 _ I1 q1) λu s2 ⟨y,H2,I2,r2,q2⟩=>?_;exact hf v u s2 x y H2 I2 r1 r2 q2
def EM(i:Nat):TE:=λσ H Q=>∃v,σ[i]?=some (some v)/\Q v H
def tC(v:V):TE:=λ_ H Q=>Q v H
theorem ib{i:Nat}{x:Str}{pos:Pos}(hN:X.N[i]?=some x)(hv:Mr X.env.scope x) (hd:(x == ("__debug__" : Str))=false:=by decide) (hcd:(x == ("__classdict__" : Str))=false:=by decide):PE X (.Name x pos) (EM i):=by
 intro pins s σ H Q I h;obtain⟨v,e,h⟩:=h;obtain⟨m,hn,hl⟩:=I.loc;obtain⟨u,r,l⟩:=hl i x v hN e hv;have Mx:EP X pins σ Q u s:=⟨v,H,I,r,h⟩;rcases l with⟨hk,hm⟩|⟨hk,c,hc,hcell⟩
 · exact wpAny_Name (wpAny_loadName_local I.ok.kind hk hn hm Mx) hd
 ·
  rcases hk with hk|hk
  · exact wpAny_Name (wpAny_loadName_cell I.ok.kind hk hc hcell Mx) hd
  · exact wpAny_Name (wpAny_loadName_free I.ok.kind hk hc hcell Mx hcd) hd
theorem Hj {i j pos}:PE X (.Constant (.int i) j pos) (tC (.int i)):=λ_ _ _ H _ I h=>wpAny_Constant_int ⟨.int i,H,I.tok _,⟨_,rfl⟩,h⟩
theorem JP {b j pos}:PE X (.Constant (.bool b) j pos) (tC (.bl b)):=λ_ _ _ H _ I h=>Constant_bool ⟨.bl b,H,I,rfl,h⟩
theorem Hl {j pos}:PE X (.Constant .none j pos) (tC .non):=λ_ _ _ H _ I h=>Constant_none ⟨.non,H,I,rfl,h⟩
theorem zw {x j pos}:PE X (.Constant (.str x) j pos) (tC (.str x)):=λ_ _ _ H _ I h=>Calls.Constant_str ⟨.str x,H,I.tok _,⟨_,rfl⟩,h⟩
def Gl(X:Cx)(x:Str):Prop:=X.env.kindOf x=some .globalImplicit
theorem iH{E:Value->Shared->Prop}{pins:List (Addr×Obj)}{s:Shared}{σ:St}{H:Hp}{x:Str}{u:Value}{pos:Pos}{Q:Value->Shared->Prop}(I:Mt X pins σ H s)(hg:Gl X x)(hm:X.mg x=some u)(h:Q u s)
  (hd:(x == ("__debug__" : Str))=false:=by decide):wpAny (model X.prog X.w) X.A (eval (.Name x pos) X.env) Q E s :=
 Calls.Name_function_global I.ok.kind hg (Calls.loadGlobal_global (by rw[I.ok.glob];exact I.mod.glob.keeps I.bk) hm h) hd
theorem m5{E:Value->Shared->Prop}{pins:List (Addr×Obj)}{s:Shared}{σ:St}{H:Hp}{x:Str}{u:Value}{pos:Pos}{Q:Value->Shared->Prop}(I:Mt X pins σ H s)(hg:Gl X x)(hm:X.mg x=none)(hv:bootBuiltins x=some u)(h:Q u s)
  (hn:x≠"__name__":=by decide) (hd:(x == ("__debug__" : Str))=false:=by decide):wpAny (model X.prog X.w) X.A (eval (.Name x pos) X.env) Q E s:=by
 obtain⟨mb,h1,h2⟩:=I.mod.blt;exact Calls.Name_function_global I.ok.kind hg (Calls.loadGlobal_builtin (by rw[I.ok.glob];exact I.mod.glob.keeps I.bk) hm (by rw[I.ok.blt];exact h1.keeps I.bk) ((h2 x hn).trans hv) h) hd
theorem vi{x:Str}{v:V}{u:Value}{pos:Pos}(hg:Gl X x)(hm:X.mg x=some u)(r:cq v u) (hd:(x == ("__debug__" : Str))=false:=by decide):PE X (.Name x pos) (tC v) :=
 λ_ _ _ H _ I h=>iH I hg hm ⟨v,H,I,r,h⟩ hd
theorem EN{x:Str}{v:V}{u:Value}{pos:Pos}(hg:Gl X x)(hm:X.mg x=none)(hv:bootBuiltins x=some u)(r:cq v u) (hn:x≠"__name__":=by decide) (hd:(x == ("__debug__" : Str))=false:=by decide):PE X (.Name x pos) (tC v) :=
 λ_ _ _ H _ I h=>m5 I hg hm hv ⟨v,H,I,r,h⟩ hn hd
variable{a b:Expr}{ta tb:TE}{pos:Pos}
noncomputable def tB(t:TE):TT:=λσ H Q=>t σ H λx H1=>∃c,x=.bl c/\Q c H1
end
def Mz(K:PySem.W.Frag)(H:Hp)(a:Addr)(xs:List V):Prop :=
 Rd H a (.lst xs) ∨
  ∃(o:Obj)(its:Array Value)(n:Nat),K.lookup a=some o/\o.cls=.type "list"/\o.dict=none/\o.data=.seq its n/\its.size≤sizeLine/\cB xs its.toList
def MA(K:PySem.W.Frag)(H:Hp)(a:Addr)(xs:List V):Prop :=
 Rd H a (.tup xs) ∨
  ∃(o:Obj)(its:Array Value)(n:Nat),K.lookup a=some o/\o.cls=.type "tuple"/\o.data=.seq its n/\its.size≤sizeLine/\cB xs its.toList
noncomputable def Lq:Value->Option V
 |.none=>some .non
 |.bool b=>some (.bl b)
 |.int i _=>some (.int i)
 |.str x _=>some (.str x)
 |.bytes b _=>some (.byt b)
 |.float b _=>some (.flt b)
 |.ref a=>some (.ref a)
 |.type n=>some (.ty n)
 |_=>none
theorem cq.abs{x:V}{u:Value}(r:cq x u):Lq u=some x:=by
 cases x with
 |non=>cases r;rfl
 |bl _=>cases r;rfl
 |int _=>obtain⟨t,rfl⟩:=r;rfl
 |str _=>obtain⟨t,rfl⟩:=r;rfl
 |byt _=>obtain⟨t,rfl⟩:=r;rfl
 |flt _=>obtain⟨t,rfl⟩:=r;rfl
 |ref _=>cases r;rfl
 |ty _=>cases r;rfl
theorem cq.inj{x y:V}{u:Value}(r:cq x u)(q:cq y u):x=y:=Option.some.inj (r.abs.symm.trans q.abs)
theorem cB.inj:∀{xs ys:List V}{us:List Value},cB xs us->cB ys us->xs=ys
 |_,_,_,.nil,.nil=>rfl
 |_,_,_,.cons r t,.cons r' t'=>by rw[r.inj r',cB.inj t t']
section
variable{X:Cx}{pins:List (Addr×Obj)}{σ:St}{H:Hp}{s:Shared}{a:Addr}{xs ys:List V}
theorem Mz.of{K:PySem.W.Frag}(h:H a=some (.lst xs)):Mz K H a xs:=.inl (.inl h)
theorem MA.of{K:PySem.W.Frag}(h:H a=some (.tup xs)):MA K H a xs:=.inl (.inl h)
theorem Mt.list(I:Mt X pins σ H s)(h:Mz X.K H a xs):∃its:List Value,cB xs its/\PlainL s.heap a its.toArray/\xs.length≤sizeLine:=by
 rcases h with h|⟨o,its,n,hk,hc,hd,hs,hz,r⟩
 · obtain⟨z,its,n,r,e⟩:=h.ok I.hok;exact⟨its,r,⟨_,n,e,rfl,rfl,rfl⟩,z⟩
 · refine⟨its.toList,r,⟨o,n,I.kIn a o hk,hc,hd,by simpa using hs⟩,?_⟩;have e:=r.length;simp only[Array.length_toList]at e;omega
theorem Mt.tuple(I:Mt X pins σ H s)(h:MA X.K H a xs):∃its:List Value,cB xs its/\IsTup s.heap a its.toArray/\xs.length≤sizeLine:=by
 rcases h with h|⟨o,its,n,hk,hc,hs,hz,r⟩
 · obtain⟨z,its,r,p⟩:=h.ok I.hok;exact⟨its,r,p,z⟩
 · refine⟨its.toList,r,⟨o,I.kIn a o hk,hc,n,by simpa using hs⟩,?_⟩;have e:=r.length;simp only[Array.length_toList]at e;omega
theorem Mt.list_inj(I:Mt X pins σ H s)(h:Mz X.K H a xs)(h':Mz X.K H a ys):xs=ys:=by
 obtain⟨its,r,⟨o,n,e,_,_,d⟩,_⟩:=I.list h;obtain⟨its',r',⟨o',n',e',_,_,d'⟩,_⟩:=I.list h';rw[e]at e';cases e';rw[d]at d';injection d' with d1 _;have:its=its':=by simpa using congrArg Array.toList d1
 subst this;exact r.inj r'
theorem Mt.tuple_inj(I:Mt X pins σ H s)(h:MA X.K H a xs)(h':MA X.K H a ys):xs=ys:=by
 obtain⟨its,r,⟨o,e,_,n,d⟩,_⟩:=I.tuple h;obtain⟨its',r',⟨o',e',_,n',d'⟩,_⟩:=I.tuple h';rw[e]at e';cases e';rw[d]at d';injection d' with d1 _;have:its=its':=by simpa using congrArg Array.toList d1
 subst this;exact r.inj r'
end
noncomputable abbrev Cx.wish(X:Cx)(E:Value->Shared->Prop):Cx:={X with xe:=E}
noncomputable abbrev Cx.nox(X:Cx):Cx:=X.wish λ_ _=>False
theorem Cx.Ok.wish{X:Cx}(ok:X.Ok)(E:Value->Shared->Prop):(X.wish E).Ok :=
 ⟨ok.mod,ok.kind,ok.glob,ok.blt,ok.above,ok.inj,ok.has,ok.cab,ok.hd,ok.frames,ok.stk,ok.exf,ok.bs,ok.bsz,ok.noex,ok.exfs,ok.funs,ok.frf,ok.tbs⟩
theorem Cx.Ok.unwish{X:Cx}{E:Value->Shared->Prop}(ok:(X.wish E).Ok):X.Ok :=
 ⟨ok.mod,ok.kind,ok.glob,ok.blt,ok.above,ok.inj,ok.has,ok.cab,ok.hd,ok.frames,ok.stk,ok.exf,ok.bs,ok.bsz,ok.noex,ok.exfs,ok.funs,ok.frf,ok.tbs⟩
section
variable{X:Cx}{pins:List (Addr×Obj)}{σ:St}{H:Hp}{s:Shared}{E:Value->Shared->Prop}
theorem Mt.wish(I:Mt X pins σ H s)(E:Value->Shared->Prop):Mt (X.wish E) pins σ H s:=⟨I.ok.wish E,I.os,I.bare,I.base,I.loc,I.cell,I.free,I.freeC,I.pin,I.hok,I.len⟩
theorem Mt.unwish(I:Mt (X.wish E) pins σ H s):Mt X pins σ H s:=⟨I.ok.unwish,I.os,I.bare,I.base,I.loc,I.cell,I.free,I.freeC,I.pin,I.hok,I.len⟩
theorem SP.unwish{D:G6}{f:Flow}{s':Shared}(h:SP (X.wish E) pins D f s'):SP X pins D f s':=by
 cases f with
 |next=>obtain⟨σ',H',I,q⟩:=h;exact⟨σ',H',I.unwish,q⟩
 |brk=>obtain⟨σ',H',I,q⟩:=h;exact⟨σ',H',I.unwish,q⟩
 |cont=>obtain⟨σ',H',I,q⟩:=h;exact⟨σ',H',I.unwish,q⟩
 |ret u=>obtain⟨v,σ',H',I,r,q⟩:=h;exact⟨v,σ',H',I.unwish,r,q⟩
theorem Mu.nox{st:List Stmt}{t:TS}(h:Mu X.nox st t):Mu X st t:=λpins s σ H D I hw =>
 wpAny_mono (h pins s σ H D (I.wish _) hw) (λ_ _ q=>q.unwish) λ_ _ z=>False.elim z
end
section
variable{X:Cx}{st:Stmt}{eh:List Stmt}{t u:TS}{e:Expr}{te:TE}{pos:Pos}
def KU(t u:TS):TS:=λD σ H=>t {D with nx:=u D} σ H
theorem Cb(h1:PS X st t)(h2:Mu X eh u):Mu X (st::eh) (KU t u):=by
 intro pins s σ H D I h;refine wpAny_execs_cons (Mv (h1 pins s σ H {D with nx:=u D} I h) λf s1 q=>?_)
 cases f with
 | next =>
  obtain⟨σ',H',I',q⟩:=q;exact h2 pins s1 σ' H' D I' q
 |ret v=>exact q
 |brk=>exact q
 |cont=>exact q
theorem zx(h1:PS X st t):Mu X [st] t:=by
 intro pins s σ H D I h;refine wpAny_execs_cons (Mv (h1 pins s σ H D I h) λf s1 q=>?_)
 cases f with
 |next=>exact wpAny_execs_nil q
 |ret v=>exact q
 |brk=>exact q
 |cont=>exact q
theorem Mt.quiet{pins:List (Addr×Obj)}{σ:St}{H:Hp}{s:Shared}(I:Mt X pins σ H s):interactive X.env=false:=by simp[interactive,I.ok.kind]
def EO(te:TE):TS:=λD σ H=>te σ H λ_ H1=>D.nx σ H1
theorem zy(he:PE X e te)(hs:swapsWith e none pos.line X.env=pure false:=by rfl):PS X (.Expr e pos) (EO te):=by intro pins s σ H D I h;exact wpAny_Expr_any (Mv (he pins s σ H _ I h) λv s1 ⟨x,H1,I1,r1,q1⟩=>⟨σ,H1,I1,q1⟩) I.quiet hs
end
noncomputable abbrev TG:=V->St->Hp->(St->Hp->Prop)->Prop
noncomputable abbrev MB:=List V->St->Hp->(St->Hp->Prop)->Prop
def PG(X:Cx)(target:Expr)(t:TG):Prop :=
 ∀(pins:List (Addr×Obj))(s:Shared)(σ:St)(H:Hp)(v:V)(u:Value)(Q:St->Hp->Prop),Mt X pins σ H s->cq v u->t v σ H Q ->
  wpAny (model X.prog X.w) X.A (assign target X.env u) (λ_ s'=>∃σ' H',Mt X pins σ' H' s'/\Q σ' H') X.xe s
def MC(X:Cx)(ts:List Expr)(t:MB):Prop :=
 ∀(pins:List (Addr×Obj))(s:Shared)(σ:St)(H:Hp)(vs:List V)(us:List Value)(Q:St->Hp->Prop),Mt X pins σ H s->cB vs us->t vs σ H Q ->
  wpAny (model X.prog X.w) X.A (assignInOrder ((assignEach ts X.env).map (·.2)) us) (λ_ s'=>∃σ' H',Mt X pins σ' H' s'/\Q σ' H') X.xe s
noncomputable abbrev JQ:=V->V->V->Hp->(Hp->Prop)->Prop
def KW(X:Cx)(t:JQ):Prop :=
 ∀(pins:List (Addr×Obj))(s:Shared)(σ:St)(H:Hp)(o i v:V)(ov iv u:Value)(Q:Hp->Prop),Mt X pins σ H s->cq o ov->cq i iv->cq v u->t o i v H Q ->
  wpAny (model X.prog X.w) X.A (setItem ov iv u) (λ_ s'=>∃H',Mt X pins σ H' s'/\Q H') X.xe s
section
variable{X:Cx}{pos:Pos}
noncomputable def JR(i:Nat):TG:=λv σ H Q=>Q (σ.set i (some v)) H
theorem qF{i:Nat}{x:Str}(hN:X.N.Nodup)(hi:X.N[i]?=some x)(hx:Ms X.env.scope x)(hf:X.fn x=true∨X.env.scope.names.lookup x=some .local:=by first|exact .inl rfl|exact .inr rfl|assumption):PG X (.Name x pos) (JR i):=by intro pins s σ H v u Q I r h;exact wpAny_assign_Name (gv I hN hi hx r (λs' I'=>⟨_,H,I',h⟩) hf)
noncomputable def Lr:MB:=λvs σ H Q=>vs=[]/\Q σ H
noncomputable def JS(t:TG)(u:MB):MB:=λvs σ H Q=>∃v r,vs=v::r/\t v σ H λσ' H'=>u r σ' H' Q
theorem zz:MC X [] Lr:=by intro pins s σ H vs us Q I r h;obtain⟨e,h⟩:=h;subst e;cases r;exact assignInOrder_nil ⟨σ,H,I,h⟩
theorem wV{e:Expr}{es:List Expr}{t:TG}{u:MB}(h1:PG X e t)(h2:MC X es u)
  (hs:(assignEach (e::es) X.env).map (·.2)=assign e X.env::(assignEach es X.env).map (·.2):=by rfl):MC X (e::es) (JS t u):=by
 intro pins s σ H vs us Q I r h;obtain⟨v,vr,e1,h⟩:=h;subst e1
 cases r with
 | cons r rr =>
  rw[hs];refine assignInOrder_cons (Mv (h1 pins s σ H _ _ _ I r h) λ_ s1 ⟨σ1,H1,I1,q1⟩=>?_);exact h2 pins s1 σ1 H1 _ _ Q I1 rr q1
noncomputable def Ls(K:PySem.W.Frag)(n:Nat)(t:MB):TG:=λv σ H Q=>∃a xs,v=.ref a/\MA K H a xs/\xs.length=n/\t xs σ H Q
theorem DY{es:List Expr}{k:Nat}{t:MB}{n:Nat}(hc:X.calm=true)(h:MC X es t)
  (hn:(assignEach es X.env).length=n:=by rfl) (hst:(assignEach es X.env).findIdx? (·.1)=none:=by rfl):PG X (.Tuple es k pos) (Ls X.K n t):=by
 intro pins s σ H v u Q I r hw;obtain⟨a,xs,e1,hq,hl,hw⟩:=hw;subst e1;cases r;obtain⟨its,rv,ht,hz⟩:=I.tuple hq;refine assign_Tuple_tuple (I.ok.hd hc) ht (by simp[hn,← hl,rv.length]) hst λh' hx=>?_;have I1:Mt X pins σ H {s with heap:=h' }:=I.kept (t':=s.toks) λb o e=>hx b o (Nat.ne_of_lt (Heap.lt_size e)) e;exact h pins _ σ H xs _ Q I1 (by simpa using rv) hw
noncomputable def Lu(to ti:TE)(t:JQ):TG:=λv σ H Q=>to σ H λo H1=>ti σ H1 λi H2=>t o i v H2 λH3=>Q σ H3
theorem Hm{o i:Expr}{to ti:TE}{t:JQ}(ho:PE X o to)(hi:PE X i ti)(hs:KW X t)
  (ha:∀v,assign (.Subscript o i pos) X.env v=(do
   let ov ← holding [v] (eval o X.env)
   let iv ← holding [v,ov] (eval i X.env)
   standAt pos
   holding [v,ov,iv] (setItem ov iv v)
   release [v,ov,iv] []):=by intro _;rfl):PG X (.Subscript o i pos) (Lu to ti t):=by
 intro pins s σ H v u Q I r h;rw[ha];refine wpAny_bind (wpAny_holding (Mv (ho pins s σ H _ I h) λov s1 ⟨x,H1,I1,r1,q1⟩=>?_));refine wpAny_bind (wpAny_holding (Mv (hi pins s1 σ H1 _ I1 q1) λiv s2 ⟨y,H2,I2,r2,q2⟩=>?_));refine wpAny_bind (wpAny_standAt (wpAny_bind (wpAny_holding (Mv (hs pins s2 σ H2 x y v ov iv u _ I2 r1 r2 r q2) λ_ s3 ⟨H3,I3,q3⟩=>?_))));exact wpAny_release ⟨σ,H3,I3,q3⟩
def Lv(te:TE)(g:TG):TS:=λD σ H=>te σ H λx H1=>g x σ H1 D.nx
theorem Hn{tg e:Expr}{te:TE}{g:TG}(he:PE X e te)(hg:PG X tg g)(hs:swapsWithSole [tg] e pos.line X.env=pure false:=by rfl)(hw:swappedStores [tg] e X.env=pure none:=by rfl)
  (h1:(assignEach [tg] X.env).map (·.2)=[assign tg X.env]:=by rfl):PS X (.Assign [tg] e pos) (Lv te g):=by
 intro pins s σ H D I h;refine wpAny_Assign_stores (Mv (he pins s σ H _ I h) λv s1 ⟨x,H1,I1,r1,q1⟩=>?_) hs hw;rw[h1];exact Mv (hg pins s1 σ H1 x v _ I1 r1 q1) λ_ s2 q=>q
def Lw(i j:Nat)(ta:TA):TS:=λD σ H=>ta σ H λvs H1=>∃v w,vs=[v,w]/\D.nx ((σ.set i (some v)).set j (some w)) H1
theorem Ho{i j:Nat}{x y:Str}{a b:Expr}{ta:TA}{px py pt:Pos} {kt k2 pt2} (hc:X.calm=true) (hN:X.N.Nodup) (hi:X.N[i]?=some x) (hj:X.N[j]?=some y) (hij:i≠j)
  (hx:X.env.scope.names.lookup x=some .local) (hy:X.env.scope.names.lookup y=some .local) (ha:PA X [a,b] ta)
  (hw:swappedStores [.Tuple [.Name x px,.Name y py] kt pt] (.Tuple [a,b] k2 pt2) X.env=pure (some [x,y]))
  (hs:swapsWithSole [.Tuple [.Name x px,.Name y py] kt pt] (.Tuple [a,b] k2 pt2) pos.line X.env=pure false:=by rfl) :
  PS X (.Assign [.Tuple [.Name x px,.Name y py] kt pt] (.Tuple [a,b] k2 pt2) pos) (Lw i j ta):=by
 intro pins s σ H D I h;rw[exec_Assign_arm];refine wpAny_bind (wpAny_standAt ?_);rw[hs];refine wpAny_bind (wpAny_pure ?_);rw[if_neg (by decide)];refine wpAny_bind (Tuple_ (Mv (ha _ pins s σ H _ I h) λus s1 ⟨vs,H1,I1,r1,q1⟩=>?_));obtain⟨v,w,e1,q1⟩:=q1;subst e1
 obtain⟨u1,u2,rfl,rv,rw'⟩:∃u1 u2,us=[u1,u2]/\cq v u1/\cq w u2:=by
  cases r1 with
  | cons p q =>
   cases q with
   | cons p' q' =>
    cases q';exact⟨_,_,rfl,p,p'⟩
 refine wpAny_newObj_type ?_ (by show 2≤sizeLine;decide);have I2:Mt X pins σ H1 {s1 with heap:=s1.heap.push {cls:=.type "tuple",data:=.seq [u1,u2].toArray} }:=I1.kept (t':=s1.toks) λb o e=>Heap.get?_push_of_some _ e;rw[hw];refine wpAny_bind (wpAny_pure ?_)
 show wpAny (model X.prog X.w) X.A (do rule "assign.swapped-stores"; let items ← unpackItems (.ref s1.heap.objs.size) 2 none; assignInOrder [λv=>bindName X.env y v,λv=>bindName X.env x v] items.reverse; pure Flow.next) _ _ _
 refine wpAny_bind (wpAny_rule (wpAny_bind (unpackItems_tuple (items:=#[u1,u2]) (I.ok.hd hc) (IsTup.new s1.heap _) λh' hx'=>?_)));have I3:=I2.kept (h':=h') (t':=s1.toks) λb o e=>hx' b o (Nat.ne_of_lt (Heap.lt_size e)) e
 show wpAny _ _ (assignInOrder [λv=>bindName X.env y v,λv=>bindName X.env x v] [u2,u1] >>= λ_=>pure Flow.next) _ _ _
 refine wpAny_bind (assignInOrder_cons (wpAny_bindName (gv I3 hN hj (.inl hy) rw' (λs2 I4=>?_) (.inr hy))));refine assignInOrder_cons (wpAny_bindName (gv I4 hN hi (.inl hx) rv (λs3 I5=>assignInOrder_nil (wpAny_pure ?_)) (.inr hx)));rw[List.set_comm _ _ (Ne.symm hij)]at I5;exact⟨_,H1,I5,q1⟩
end
section
variable{X:Cx}{pos:Pos}
def Hq(c:TT)(tb:TS):TS:=λD σ H=>∃W:Nat->St->Hp->Prop,(∃m,W m σ H)/\∀m σ H,W m σ H ->
 c σ H λb H1=>if b=true then ∃N:St->Hp->Prop,(∀σ' H',N σ' H'->∃m',m' < m/\W m' σ' H')/\tb {D with nx:=N,ct:=N,bk:=D.nx} σ H1 else D.nx σ H1
theorem Cc{c:Expr}{body:List Stmt}{tc:TT}{tb:TS}(hp:PassesOwn (model X.prog X.w) X.A X.env X.xe)(hc:PT X c tc)(hb:Mu X body tb):PS X (.While c body [] pos) (Hq tc tb):=by
 intro pins s σ H D I h;obtain⟨W,⟨m0,w0⟩,turn⟩:=h;refine wpAny_While (codeAny_whileLoop (λn s'=>∃σ' H',Mt X pins σ' H' s'/\W n σ' H') ?_ m0 ⟨σ,H,I,w0⟩);rintro n s1 ⟨σ1,H1,I1,w1⟩;refine wpAny_passesOwn hp (Mv (hc pins s1 σ1 H1 _ I1 (turn n σ1 H1 w1)) λb s2 ⟨H2,I2,q2⟩=>?_)
 cases b with
 | true =>
  obtain⟨N,hN,q2⟩:=q2;rw[if_pos rfl];refine wpAny_passesOwn hp (Mv (hb pins s2 σ1 H2 _ I2 q2) λf s3 q3=>?_)
  cases f with
  | next =>
   obtain⟨σ3,H3,I3,n3⟩:=q3;obtain⟨m',hm,w3⟩:=hN σ3 H3 n3;exact⟨m',hm,σ3,H3,I3,w3⟩
  | cont =>
   obtain⟨σ3,H3,I3,n3⟩:=q3;obtain⟨m',hm,w3⟩:=hN σ3 H3 n3;exact⟨m',hm,σ3,H3,I3,w3⟩
  |brk=>exact q3
  |ret v=>exact q3
 | false =>
  rw[if_neg Bool.false_ne_true];exact wpAny_execs_nil ⟨σ1,H2,I2,q2⟩
end
structure It where
 go:Nat->Hp->Prop
 yld:Nat->Hp->V->Hp->Prop
 stop:Nat->Hp->Prop
def B4(X:Cx)(pins:List (Addr×Obj))(H:Hp)(b:Addr):Prop :=
 H b=none/\b≠X.env.locals/\b∉X.fs/\(b∈X.ex∨X.s₀.heap.objs.size≤b)/\(∀x c,X.env.cells.lookup x=some c->c≠b)/\∀p∈X.pn++pins,p.1≠b
theorem Mt.fpOk{X:Cx}{pins:List (Addr×Obj)}{σ:St}{H H':Hp}{s:Shared}{b:Addr}(I:Mt X pins σ H s)(hb:s.heap.objs.size≤b)(hn:H' b=none):B4 X pins H' b:=by
 refine⟨hn,Nat.ne_of_gt (Nat.lt_of_lt_of_le I.lt hb),I.nofs hb,.inr (Nat.le_trans I.sz hb),λx c e z=>?_,λp hp z=>?_⟩
 · obtain⟨v,q⟩:=I.cell x c e;exact absurd (Nat.lt_of_lt_of_le q.lt (by rw[z];exact hb)) (Nat.lt_irrefl _)
 · exact absurd (Nat.lt_of_lt_of_le (Heap.lt_size (I.pin p hp).1) (by rw[z];exact hb)) (Nat.lt_irrefl _)
structure G7 (P:Program) (w:World) (K:PySem.W.Frag) (tg:Expr) (J:It) (fp:List Addr) (it:Addr) (tn:Nat->Heap->Prop):Prop where
 mem:it∈fp
 obj:∀i h,tn i h->∀b∈fp,∃o,h.get? b=some o/\∀v,o.data≠.cell v
 keep:∀i h h',tn i h->(∀b∈fp,∀o,h.get? b=some o->h'.get? b=some o)->tn i h'
 item:∀(X:Cx),X.prog=P->X.w=w->X.K=K->X.calm=true->∀(i:Nat)(pins:List (Addr×Obj))(s:Shared)(σ:St)(H:Hp)(E:Value->Shared->Prop),Mt X pins σ H s->(∀b∈fp,B4 X pins H b)->tn i s.heap->J.go i H ->
  wpAny (model P w) X.A (pyNext (.ref it)) (λr s1=>∃u,r=some u /\
   wpAny (model P w) X.A (letOwnedTupleGo tg (.ref it) u) (λ_ s2=>∃x H',Mt X pins σ H' s2/\cq x u/\J.yld i H x H'/\tn (i+1) s2.heap/\∀b∈fp,H' b=none) E s1) E s
 done:∀(X:Cx),X.prog=P->X.w=w->X.K=K->X.calm=true->∀(i:Nat)(pins:List (Addr×Obj))(s:Shared)(σ:St)(H:Hp)(E:Value->Shared->Prop),Mt X pins σ H s->(∀b∈fp,B4 X pins H b)->tn i s.heap->J.stop i H ->
  wpAny (model P w) X.A (pyNext (.ref it)) (λr s1=>r=none/\Mt X pins σ H s1) E s
 self:∀(A:Around)(i:Nat)(s:Shared)(Q:Value->Shared->Prop)(E:Value->Shared->Prop),tn i s.heap->Q (.ref it) s->wpAny (model P w) A (pyIter (.ref it)) Q E s
noncomputable abbrev TI:=St->Hp->(It->Hp->Prop)->Prop
def MD(X:Cx)(pins:List (Addr×Obj))(σ:St)(tg:Expr)(R:It->Hp->Prop)(itv:Value)(s2:Shared):Prop :=
 ∃(it:Addr)(fp:List Addr)(tn:Nat->Heap->Prop)(J:It)(H':Hp),itv=.ref it/\Mt X pins σ H' s2/\G7 X.prog X.w X.K tg J fp it tn/\tn 0 s2.heap/\(∀b∈fp,B4 X pins H' b)/\R J H'
def PI(X:Cx)(tg iter:Expr)(wi:TI):Prop :=
 ∀(pins:List (Addr×Obj))(s:Shared)(σ:St)(H:Hp)(R:It->Hp->Prop),Mt X pins σ H s->wi σ H R ->
  wpAny (model X.prog X.w) X.A (eval iter X.env) (λv s1=>wpAny (model X.prog X.w) X.A (pyIter v) (MD X pins σ tg R) X.xe s1) X.xe s
theorem ER {M : Model} {A : Around} {E : Value → Shared → Prop} {s : Shared} {tg : Expr} {it : Addr} {u : Value} {o : Obj} {n : String} {vs : Array Value} {Q : Unit → Shared → Prop} (ho : s.heap.get? it = some o) (hc : o.cls = .type n) (hd : o.data = .fields vs)
    (hn : ["enumerate", "zip", "dict_itemiterator", "dict_reverseitemiterator", "odict_iterator", "itertools.zip_longest", "itertools.pairwise"].contains n = false) (hQ : Q () s) : wpAny M A (letOwnedTupleGo tg (.ref it) u) Q E s := by
  unfold letOwnedTupleGo
  cases tg<;>first
    |exact wpAny_pure hQ
    | (cases u<;>first
        |exact wpAny_pure hQ
        | (refine wpAny_bind (wpAny_load ho ?_)
           rw[hc, hd]
           show wpAny M A (if(["enumerate", "zip", "dict_itemiterator", "dict_reverseitemiterator", "odict_iterator", "itertools.zip_longest", "itertools.pairwise"].contains n && vs[0]? == some (rawInt _)) = true then _ else _) Q E s
           rw[if_neg (by intro h;rw[hn, Bool.false_and]at h;cases h)]
           exact wpAny_pure hQ))
noncomputable def ME(K:PySem.W.Frag)(a:Addr):It :=
 ⟨λi H=>∃xs x,Mz K H a xs/\xs[i]?=some x,λi H x H'=>H'=H/\∀xs,Mz K H a xs->xs[i]?=some x,λi H=>∃xs,Mz K H a xs/\xs.length≤i⟩
noncomputable def MF(K:PySem.W.Frag)(a:Addr):It :=
 ⟨λi H=>∃xs x,MA K H a xs/\xs[i]?=some x,λi H x H'=>H'=H/\∀xs,MA K H a xs->xs[i]?=some x,λi H=>∃xs,MA K H a xs/\xs.length≤i⟩
noncomputable def MG(lo:Int)(n:Nat):It:=⟨λi _=>i<n,λi H x H'=>H'=H/\x=.int (lo+i),λi _=>n≤i⟩
theorem zA{P:Program}{w:World}{K:PySem.W.Frag}{tg:Expr}(a it:Addr):G7 P w K tg (ME K a) [it] it (λi h=>h.IsListIter it a i) where
 mem:=by simp
 obj:=λi h st b hb=>by
  have e:b=it:=by simpa using hb
  subst e;obtain⟨o,e,c,d⟩:=st;exact⟨o,e,λv z=>by rw[d]at z;cases z⟩
 keep:=λi h h' st k=>st.at λo e=>k it (by simp) o e
 item:=by intro X hP hw hK hc i pins s σ H E I hf st hg;subst hP hw hK;obtain⟨xs,x,hq,hx⟩:=hg;obtain⟨its,rv,p,hz⟩:=I.list hq;obtain⟨u,hu,ru⟩:=rv.get hx;obtain⟨f0,f1,f2,f3,f4,f5⟩:=hf it (by simp);refine wpAny_pyNext_list_item st p.isList (x:=u) (by simpa using hu) λh' st' sb=>?_;have I1:Mt X pins σ H {s with heap:=h' }:=I.turned (t':=s.toks) (λb o hb e=>(sb.2 b hb).trans e) f0 f1 f3 f4 f5;obtain⟨o,e,c,d⟩:=id st';exact⟨u,rfl,ER (s:={s with heap:=h' }) e c d (by decide) ⟨x,H,I1,ru,⟨rfl,λys hy=>by rw[I.list_inj hy hq];exact hx⟩,st',λb hb=>(hf b hb).1⟩⟩
 done:=by intro X hP hw hK hc i pins s σ H E I hf st hg;subst hP hw hK;obtain⟨xs,hq,hx⟩:=hg;obtain⟨its,rv,p,hz⟩:=I.list hq;obtain⟨f0,f1,f2,f3,f4,f5⟩:=hf it (by simp);have hl:=rv.length;exact wpAny_pyNext_list_end (I.ok.hd hc) st p.isList (by simp;omega) λh' eb=>⟨rfl,I.turned (t':=s.toks) (λb o hb e=>eb b o hb e) f0 f1 f3 f4 f5⟩
 self:=λ_ _ _ _ _ st h=>wpAny_pyIter_listiter st h
theorem ym{P:Program}{w:World}{K:PySem.W.Frag}{tg:Expr}(a it:Addr):G7 P w K tg (MF K a) [it] it (λi h=>h.IsTupleIter it a i) where
 mem:=by simp
 obj:=λi h st b hb=>by
  have e:b=it:=by simpa using hb
  subst e;obtain⟨o,e,c,d⟩:=st;exact⟨o,e,λv z=>by rw[d]at z;cases z⟩
 keep:=λi h h' st k=>st.at λo e=>k it (by simp) o e
 item:=by intro X hP hw hK hc i pins s σ H E I hf st hg;subst hP hw hK;obtain⟨xs,x,hq,hx⟩:=hg;obtain⟨its,rv,p,hz⟩:=I.tuple hq;obtain⟨u,hu,ru⟩:=rv.get hx;obtain⟨f0,f1,f2,f3,f4,f5⟩:=hf it (by simp);refine wpAny_pyNext_tuple_item st (show s.heap.IsTuple a its.toArray from p) (x:=u) (by simpa using hu) λh' st' sb=>?_;have I1:Mt X pins σ H {s with heap:=h' }:=I.turned (t':=s.toks) (λb o hb e=>(sb.2 b hb).trans e) f0 f1 f3 f4 f5;obtain⟨o,e,c,d⟩:=id st';exact⟨u,rfl,ER (s:={s with heap:=h' }) e c d (by decide) ⟨x,H,I1,ru,⟨rfl,λys hy=>by rw[I.tuple_inj hy hq];exact hx⟩,st',λb hb=>(hf b hb).1⟩⟩
 done:=by intro X hP hw hK hc i pins s σ H E I hf st hg;subst hP hw hK;obtain⟨xs,hq,hx⟩:=hg;obtain⟨its,rv,p,hz⟩:=I.tuple hq;obtain⟨f0,f1,f2,f3,f4,f5⟩:=hf it (by simp);have hl:=rv.length;exact wpAny_pyNext_tuple_end (I.ok.hd hc) st (show s.heap.IsTuple a its.toArray from p) (by simp;omega) λh' eb=>⟨rfl,I.turned (t':=s.toks) (λb o hb e=>eb b o hb e) f0 f1 f3 f4 f5⟩
 self:=λ_ _ _ _ _ st h=>wpAny_pyIter_tupleiter st h
theorem yn{P:Program}{w:World}{K:PySem.W.Frag}{tg:Expr}(it:Addr)(lo:Int)(n:Nat):G7 P w K tg (MG lo n) [it] it (λi h=>IsRangeIter h it (lo+(i:Nat)*1) ((n:Int)-(i:Nat)) 1) where
 mem:=by simp
 obj:=λi h st b hb=>by
  have e:b=it:=by simpa using hb
  subst e
  exact⟨_,st,λv z=>by
   have z':Data.fields _=Data.cell v:=z
   cases z'⟩
 keep:=λi h h' st k=>k it (by simp) _ st
 item:=by intro X hP hw hK hc i pins s σ H E I hf st hg;subst hP hw hK;obtain⟨f0,f1,f2,f3,f4,f5⟩:=hf it (by simp);have W:=Walks.range (prog:=X.prog) (w:=X.w) (I.ok.hd hc) it lo 1 n;refine W.item i s _ _ hg st λv h' tk hv st' kk=>?_;obtain⟨t,rfl⟩:=hv;have I1:Mt X pins σ H {s with heap:=h',toks:=tk}:=I.turned (λb o hb e=>kk b o (by simpa using hb) e) f0 f1 f3 f4 f5;refine⟨_,rfl,ER (s:={s with heap:=h',toks:=tk}) (n:="range_iterator") st' rfl rfl (by decide) ⟨.int (lo+i),H,I1,⟨t,?_⟩,⟨rfl,rfl⟩,st',λb hb=>(hf b hb).1⟩⟩;rw[Int.mul_one]
 done:=by intro X hP hw hK hc i pins s σ H E I hf st hg;subst hP hw hK;obtain⟨f0,f1,f2,f3,f4,f5⟩:=hf it (by simp);exact wpAny_pyNext_range_end (I.ok.hd hc) st (by have:n≤i:=hg;omega) λh' eb=>⟨rfl,I.turned (t':=s.toks) (λb o hb e=>eb b o hb e) f0 f1 f3 f4 f5⟩
 self:=λ_ _ _ _ _ st h=>wpAny_pyIter_rangeiter st h
section
variable{X:Cx}{tg:Expr}
theorem wW{pins:List (Addr×Obj)}{σ:St}{H:Hp}{s:Shared}{R:It->Hp->Prop}{E:Value->Shared->Prop}{lo hi:Int}{t u v:Tok}{tk:Nat}(I:Mt X pins σ H s)(h1 : -(2^62)≤lo)(h2:lo<2^62)(h3 : -(2^62)≤hi)(h4:hi<2^62)
  (q:R (MG lo (hi-lo).toNat) H):wpAny (model X.prog X.w) X.A (pyIter (.ref s.heap.objs.size)) (MD X pins σ tg R) E {s with heap:=s.heap.push {cls:=.type "range",data:=.fields #[.int lo t,.int hi u,.int 1 v] },toks:=tk}:=by
 refine wpAny_pyIter_range (IsRange.new ..) (small_one h1 h2 h3 h4) ?_;have I1:Mt X pins σ H {s with heap:=s.heap.push {cls:=.type "range",data:=.fields #[.int lo t,.int hi u,.int 1 v] },toks:=tk}:=I.kept λb o e=>Heap.get?_push_of_some _ e
 refine⟨(s.heap.push {cls:=.type "range",data:=.fields #[.int lo t,.int hi u,.int 1 v] }).objs.size,[(s.heap.push {cls:=.type "range",data:=.fields #[.int lo t,.int hi u,.int 1 v] }).objs.size],_,_,H,rfl,
  I1.kept (t':=tk) λb o e=>Heap.get?_push_of_some _ e,yn _ lo (hi-lo).toNat,?_,λb hb=>?_,q⟩
 ·
  have e1:lo+((0:Nat):Int)*1=lo:=by simp
  have e2:(((hi-lo).toNat:Nat):Int)-((0:Nat):Int)=Builtin.Range.rangeSize lo hi 1:=by rw[rangeSize_one];split<;>omega
  show IsRangeIter _ _ (lo+((0:Nat):Int)*1) ((((hi-lo).toNat:Nat):Int)-((0:Nat):Int)) 1;rw[e1,e2];exact Heap.get?_push_size _ rfl
 ·
  have e:b=(s.heap.push {cls:=.type "range",data:=.fields #[.int lo t,.int hi u,.int 1 v] }).objs.size:=by simpa using hb
  subst e;exact I1.fpOk (Nat.le_refl _) (I1.hok.fresh (Nat.le_refl _))
noncomputable def JT(ta:TA):TI:=λσ H R=>ta σ H λvs H1=>∃j:Int,vs=[.int j]/\-(2^62)≤j/\j<2^62/\R (MG 0 j.toNat) H1
noncomputable def JU(ta:TA):TI:=λσ H R=>ta σ H λvs H1=>∃i j:Int,vs=[.int i,.int j]/\(-(2^62)≤i/\i<2^62/\-(2^62)≤j/\j<2^62)/\R (MG i (j-i).toNat) H1
theorem zB{a:Expr}{ta:TA}{p pos:Pos} (hg:Gl X "range") (hm:X.mg "range"=none) (ha:PA X [a] ta) (hs:starEach [a] X.env=[(false,eval a X.env)]:=by rfl):PI X tg (.Call (.Name "range" p) [a] [] pos) (JT ta):=by
 intro pins s σ H R I h;refine Call_ (m5 I hg hm boot_range (PyProof.Rows.callWith_type1 (Mv (ha pos pins s σ H _ I h) λus s1 ⟨vs,H1,I1,r1,q1⟩=>?_) hs rfl));obtain⟨j,e,q1,q2,q⟩:=q1;subst e
 cases r1 with
 | cons r rr =>
  cases rr;obtain⟨t,rfl⟩:=r;exact call_range_1 (wW I1 (by omega) (by omega) q1 q2 (by simpa using q))
theorem zC{a b:Expr}{ta:TA}{p pos:Pos} (hg:Gl X "range") (hm:X.mg "range"=none) (ha:PA X [a,b] ta) (hs:starEach [a,b] X.env=[(false,eval a X.env),(false,eval b X.env)]:=by rfl) (hs2:starEach [b] X.env=[(false,eval b X.env)]:=by rfl) :
  PI X tg (.Call (.Name "range" p) [a,b] [] pos) (JU ta):=by
 intro pins s σ H R I h;refine Call_ (m5 I hg hm boot_range (PyProof.Rows.callWith_type1 (Mv (ha pos pins s σ H _ I h) λus s1 ⟨vs,H1,I1,r1,q1⟩=>?_) (by rw[hs,hs2]) (by rw[hs2];rfl)));obtain⟨i,j,e,⟨q1,q2,q3,q4⟩,q⟩:=q1;subst e
 cases r1 with
 | cons r rr =>
  cases rr with
  | cons r' rr =>
   cases rr;obtain⟨t,rfl⟩:=r;obtain⟨t',rfl⟩:=r';exact call_range_2 (wW I1 q1 q2 q3 q4 q)
noncomputable def sQ(fp:List Addr)(h:Heap):List (Addr×Obj):=fp.filterMap λb=>(h.get? b).map λo=>(b,o)
theorem jB{fp:List Addr}{h:Heap}{b:Addr}{o:Obj}(hb:b∈fp)(e:h.get? b=some o):(b,o)∈sQ fp h:=List.mem_filterMap.mpr ⟨b,hb,by rw[e];rfl⟩
theorem zD{fp:List Addr}{h:Heap}{p:Addr×Obj}(hp:p∈sQ fp h):p.1∈fp/\h.get? p.1=some p.2:=by
 obtain⟨b,hb,e⟩:=List.mem_filterMap.mp hp
 cases q:h.get? b with
 |none=>rw[q]at e;cases e
 | some o =>
  rw[q]at e;have e':(b,o)=p:=Option.some.inj e;subst e';exact⟨hb,q⟩
theorem Mt.pinned{pins:List (Addr×Obj)}{σ:St}{H:Hp}{s:Shared}{fp:List Addr}(I:Mt X pins σ H s)(hf:∀b∈fp,B4 X pins H b)(ho:∀b∈fp,∃o,s.heap.get? b=some o/\∀v,o.data≠.cell v):Mt X (pins++sQ fp s.heap) σ H s :=
 I.pins_of λp hp=>(List.mem_append.mp hp).elim (λz=>I.pin p (List.mem_append_right _ z)) λz=>by obtain⟨hb,e⟩:=zD z;obtain⟨f0,f1,f2,_⟩:=hf p.1 hb;obtain⟨o,e',d⟩:=ho p.1 hb;rw[e]at e';cases e';exact⟨e,f0,f1,f2,d⟩
theorem Mt.unpinned{pins pl:List (Addr×Obj)}{σ:St}{H:Hp}{s:Shared}(I:Mt X (pins++pl) σ H s):Mt X pins σ H s:=I.pins_of λp hp=>I.pin p (List.mem_append_right _ (List.mem_append_left _ hp))
end
abbrev R2:=V->V->Hp->VK->Prop
def MH(X:Cx)(f:Value->Value->Sem Value)(r:R2):Prop :=
 ∀(pins:List (Addr×Obj))(s:Shared)(σ:St)(H:Hp)(x y:V)(v u:Value)(Q:VK),Mt X pins σ H s->cq x v->cq y u->r x y H Q ->
  wpAny (model X.prog X.w) X.A (f v u) (EP X pins σ Q) X.xe s
def MI(X:Cx)(f:Value->Sem Value)(r:V->Hp->VK->Prop):Prop :=
 ∀(pins:List (Addr×Obj))(s:Shared)(σ:St)(H:Hp)(x:V)(v:Value)(Q:VK),Mt X pins σ H s->cq x v->r x H Q ->
  wpAny (model X.prog X.w) X.A (f v) (EP X pins σ Q) X.xe s
def iC(X:Cx)(f:Value)(r:List V->Hp->VK->Prop):Prop :=
 ∀(pins:List (Addr×Obj))(s:Shared)(σ:St)(H:Hp)(xs:List V)(us:List Value)(Q:VK),Mt X pins σ H s->cB xs us->r xs H Q ->
  wpAny (model X.prog X.w) X.A (call f us) (EP X pins σ Q) X.xe s
def MJ(r:R2)(ta tb:TE):TE:=λσ H Q=>ta σ H λx H1=>tb σ H1 λy H2=>r x y H2 Q
def rI(C:Int->Int->Prop)(g:Int->Int->V):R2:=λx y H Q=>∃i j,x=.int i/\y=.int j/\C i j/\Q (g i j) H
def MK(g:Int->Int->V):R2:=λx y H Q=>∃i j,x=.int i/\y=.int j/\Q (g i j) H
def rU(g:Int->V):V->Hp->VK->Prop:=λx H Q=>∃i,x=.int i/\Q (g i) H
section
variable{X:Cx}{a b:Expr}{ta tb:TE}
theorem Lx(ha:PE X a ta)(hb:PE X b tb){pins:List (Addr×Obj)}{s:Shared}{σ:St}{H:Hp}{R:V->V->Hp->Prop}(I:Mt X pins σ H s)
  (h:ta σ H λx H1=>tb σ H1 λy H2=>R x y H2) {Q:Value->Shared->Prop} {f:Value->Value->Sem Value}
  (hf:∀v u s2 x y H2,Mt X pins σ H2 s2->cq x v->cq y u->R x y H2->wpAny (model X.prog X.w) X.A (f v u) Q X.xe s2) :
  wpAny (model X.prog X.w) X.A (eval a X.env) (λv s₁=>wpAny (model X.prog X.w) X.A (eval b X.env) (λu s₂=>wpAny (model X.prog X.w) X.A (f v u) Q X.xe s₂) X.xe s₁) X.xe s:=by
 refine Mv (ha pins s σ H _ I h) λv s1 ⟨x,H1,I1,r1,q1⟩=>?_;refine Mv (hb pins s1 σ H1 _ I1 q1) λu s2 ⟨y,H2,I2,r2,q2⟩=>?_;exact hf v u s2 x y H2 I2 r1 r2 q2
theorem ML{f:Value->Value->Sem Value}{C:Int->Int->Prop}{g:Int->Int->Int}
  (rule:∀(i j:Int)(t u:Tok)(s:Shared)(Q:Value->Shared->Prop)(E:Value->Shared->Prop),C i j->Q (.int (g i j) s.toks) {s with toks:=s.toks+1}->wpAny (model X.prog X.w) X.A (f (.int i t) (.int j u)) Q E s) :
  MH X f (rI C λi j=>.int (g i j)):=by
 intro pins s σ H x y v u Q I rx ry h;obtain⟨i,j,rfl,rfl,hc,q⟩:=h;obtain⟨t,rfl⟩:=rx;obtain⟨t',rfl⟩:=ry;exact rule i j t t' s _ _ hc ⟨.int (g i j),H,I.tok _,⟨_,rfl⟩,q⟩
theorem KY{f:Value->Value->Sem Value}{g:Int->Int->Int}
  (rule:∀(i j:Int)(t u:Tok)(s:Shared)(Q:Value->Shared->Prop)(E:Value->Shared->Prop),Q (.int (g i j) s.toks) {s with toks:=s.toks+1}->wpAny (model X.prog X.w) X.A (f (.int i t) (.int j u)) Q E s) :
  MH X f (MK λi j=>.int (g i j)):=by
 intro pins s σ H x y v u Q I rx ry h;obtain⟨i,j,rfl,rfl,q⟩:=h;obtain⟨t,rfl⟩:=rx;obtain⟨t',rfl⟩:=ry;exact rule i j t t' s _ _ ⟨.int (g i j),H,I.tok _,⟨_,rfl⟩,q⟩
theorem JE{f:Value->Value->Sem Value}{g:Int->Int->Bool}
  (rule:∀(i j:Int)(t u:Tok)(s:Shared)(Q:Value->Shared->Prop)(E:Value->Shared->Prop),Q (.bool (g i j)) s->wpAny (model X.prog X.w) X.A (f (.int i t) (.int j u)) Q E s) :
  MH X f (MK λi j=>.bl (g i j)):=by
 intro pins s σ H x y v u Q I rx ry h;obtain⟨i,j,rfl,rfl,q⟩:=h;obtain⟨t,rfl⟩:=rx;obtain⟨t',rfl⟩:=ry;exact rule i j t t' s _ _ ⟨.bl (g i j),H,I,rfl,q⟩
def Ly(i j:Int):Prop:=0≤j/\j≤1000000/\i.natAbs<2^64
def KZ(i j:Int):Prop:=(-(2^64)<i/\i<2^64)∨(-(2^64)<j/\j<2^64)
theorem KZ.ok{i j:Int}(h:KZ i j):IntMulOk i j:=by
 rcases h with⟨h1,h2⟩|⟨h1,h2⟩
 · exact .of_left (intBits_le_64 h1 h2)
 · exact .of_right (intBits_le_64 h1 h2)
theorem Hr:MH X (binaryOp .Add) (MK λi j=>.int (i+j)):=KY λ_ _ _ _ _ _ _ q=>add_int q
theorem Hs:MH X (binaryOp .Sub) (MK λi j=>.int (i-j)):=KY λ_ _ _ _ _ _ _ q=>sub_int q
theorem ES:MH X (binaryOp .Mod) (rI (λ_ j=>j≠0) λi j=>.int (i.fmod j)):=ML λ_ _ _ _ _ _ _ hc q=>mod_int' hc q
theorem Ht:MH X (binaryOp .Pow) (rI Ly λi j=>.int (i^j.toNat)):=ML λ_ _ _ _ _ _ _ hc q=>pow_int_small hc.1 hc.2.1 hc.2.2 q
theorem MM{f:Value->Sem Value}{g:Int->Int}
  (rule:∀(i:Int)(t:Tok)(s:Shared)(Q:Value->Shared->Prop)(E:Value->Shared->Prop),Q (.int (g i) s.toks) {s with toks:=s.toks+1}->wpAny (model X.prog X.w) X.A (f (.int i t)) Q E s) :
  MI X f (rU λi=>.int (g i)):=by
 intro pins s σ H x v Q I rx h;obtain⟨i,rfl,q⟩:=h;obtain⟨t,rfl⟩:=rx;exact rule i t s _ _ ⟨.int (g i),H,I.tok _,⟨_,rfl⟩,q⟩
theorem Hu:MI X (unaryOp .USub) (rU λi=>.int (-i)):=MM λ_ _ _ _ _ q=>neg_int q
end
noncomputable def Lz:V->V->Bool
 |.non,.non=>true | .non,.int _=>true | .int _,.non=>true | .non,.bl _=>true | .bl _,.non=>true | .non,.str _=>true | .str _,.non=>true
 |.int _,.int _=>true | .bl _,.bl _=>true | .str _,.str _=>true | .byt _,.byt _=>true
 |.int _,.str _=>true | .str _,.int _=>true | .bl _,.str _=>true | .str _,.bl _=>true
 |_,_=>false
def MN:R2:=λx y H Q=>Lz x y=true/\Q (.bl (!decide (x=y))) H
theorem ET{i j:Int}:decide (V.int i=V.int j)=(i == j):=by rw[Bool.eq_iff_iff];simp
theorem Hv{i j:Bool}:decide (V.bl i=V.bl j)=(i == j):=by rw[Bool.eq_iff_iff];simp
theorem EU{i j:Str}:decide (V.str i=V.str j)=(i == j):=by rw[Bool.eq_iff_iff];simp
theorem EV{i j:Array UInt8}:decide (V.byt i=V.byt j)=(i.toList == j.toList):=by rw[Bool.eq_iff_iff];cases i;cases j;simp
section
variable{X:Cx}{a b c:Expr}{ta tb tc:TE}{pos:Pos}
theorem dM{pins:List (Addr×Obj)}{σ:St}{H:Hp}{s:Shared}{Q:VK}{k k':Bool}(I:Mt X pins σ H s)(q:Q (.bl k) H)(e:k=k'):EP X pins σ Q (.bool k') s:=by subst e;exact⟨.bl k,H,I,rfl,q⟩
theorem JV:MH X (compareOp .NotEq) MN:=by
 intro pins s σ H x y v u Q I rx ry h;obtain⟨hs,q⟩:=h
 cases x with
 | non =>
  cases rx
  cases y with
  |non=>cases ry;exact PySem.EqNone.ne_none_none (dM I q (by simp))
  |bl j=>cases ry;exact PySem.EqNone.ne_none_bool (dM I q (by simp))
  |int j=>obtain⟨t',rfl⟩:=ry;exact PySem.EqNone.ne_none_int (dM I q (by simp))
  |str j=>obtain⟨t',rfl⟩:=ry;exact PySem.EqNone.ne_none_str (dM I q (by simp))
  |_=>exact absurd (show false=true from hs) Bool.false_ne_true
 | bl i =>
  cases rx
  cases y with
  |non=>cases ry;exact PySem.EqNone.ne_bool_none (dM I q (by simp))
  |bl j=>cases ry;exact ne_bool (dM I q (congrArg not Hv))
  |str j=>obtain⟨t',rfl⟩:=ry;exact PySem.EqMixed.ne_bool_str (dM I q (by simp))
  |_=>exact absurd (show false=true from hs) Bool.false_ne_true
 | int i =>
  obtain⟨t,rfl⟩:=rx
  cases y with
  |non=>cases ry;exact PySem.EqNone.ne_int_none (dM I q (by simp))
  |int j=>obtain⟨t',rfl⟩:=ry;exact ne_int (dM I q (congrArg not ET))
  |str j=>obtain⟨t',rfl⟩:=ry;exact PySem.EqMixed.ne_int_str (dM I q (by simp))
  |_=>exact absurd (show false=true from hs) Bool.false_ne_true
 | str i =>
  obtain⟨t,rfl⟩:=rx
  cases y with
  |non=>cases ry;exact PySem.EqNone.ne_str_none (dM I q (by simp))
  |bl j=>cases ry;exact PySem.EqMixed.ne_str_bool (dM I q (by simp))
  |int j=>obtain⟨t',rfl⟩:=ry;exact PySem.EqMixed.ne_str_int (dM I q (by simp))
  |str j=>obtain⟨t',rfl⟩:=ry;exact ne_str (dM I q (congrArg not EU))
  |_=>exact absurd (show false=true from hs) Bool.false_ne_true
 | byt i =>
  obtain⟨t,rfl⟩:=rx
  cases y with
  |byt j=>obtain⟨t',rfl⟩:=ry;exact PySem.W.ne_bytes (dM I q (congrArg not EV))
  |_=>exact absurd (show false=true from hs) Bool.false_ne_true
 |_=>cases y<;>exact absurd (show false=true from hs) Bool.false_ne_true
theorem Hw:MH X (compareOp .Lt) (MK λi j=>.bl (decide (i<j))):=JE λ_ _ _ _ _ _ _ q=>lt_int q
theorem Hx:MH X (compareOp .LtE) (MK λi j=>.bl (decide (i≤j))):=JE λ_ _ _ _ _ _ _ q=>le_int q
theorem JW:MH X (compareOp .Gt) (MK λi j=>.bl (decide (j<i))):=JE λ_ _ _ _ _ _ _ q=>gt_int q
theorem JX:MH X (compareOp .GtE) (MK λi j=>.bl (decide (j≤i))):=JE λ_ _ _ _ _ _ _ q=>ge_int q
theorem Hy:MH X (compareOp .Is) (λx y H Q=>y=.non/\Q (.bl (decide (x=.non))) H):=by
 intro pins s σ H x y v u Q I rx ry h;obtain⟨rfl,q⟩:=h;cases ry;refine is_none_gen (dM I q ?_)
 cases x<;>first
  |(cases rx;rfl)
  |(obtain⟨t,rfl⟩:=rx;rfl)
theorem EW:MH X (compareOp .IsNot) (λx y H Q=>y=.non/\Q (.bl (!decide (x=.non))) H):=by
 intro pins s σ H x y v u Q I rx ry h;obtain⟨rfl,q⟩:=h;cases ry;refine isnot_none_gen (dM I q ?_)
 cases x<;>first
  |(cases rx;rfl)
  |(obtain⟨t,rfl⟩:=rx;rfl)
theorem aW(b:Expr){op:CmpOp}(h:op≠.In:=by decide)(h2:op≠.NotIn:=by decide):behindInMarks op b=false:=by
 have e1:(op == CmpOp.In)=false:=by cases op<;>first|rfl|exact absurd rfl h
 have e2:(op == CmpOp.NotIn)=false:=by cases op<;>first|rfl|exact absurd rfl h2
 cases b<;>simp[behindInMarks,e1,e2]
noncomputable def Hz(t:TE):TT:=λσ H Q=>t σ H λx H'=>∃k,x=.bl k/\Q k H'
theorem JY{op:CmpOp}{r:R2}(ho:MH X (compareOp op) r)(ha:PE X a ta)(hb:PE X b tb)(hm:behindInMarks op b=false):PT X (.Compare a [op] [b] pos) (Hz (MJ r ta tb)):=by
 intro pins s σ H Q I h
 refine wpAny_isTrue_Compare1 (Mv (ha pins s σ H _ I h) λv s1 ⟨x,H1,I1,r1,q1⟩=>Mv (hb pins s1 σ H1 _ I1 q1) λu s2 ⟨y,H2,I2,r2,q2⟩ =>
  Mv (ho pins s2 σ H2 x y v u _ I2 r1 r2 q2) λc s3 ⟨z,H3,I3,r3,k,e,q3⟩=>?_) hm
 subst e;cases r3;exact wpAny_truthy_bool ⟨H3,I3,q3⟩
def zE(r r':R2)(ta tb tc:TE):TE:=λσ H Q=>ta σ H λx H1=>tb σ H1 λy H2=>r x y H2 λz H3=>∃k,z=.bl k /\
 (if k=true then tc σ H3 λw' H4=>r' y w' H4 Q else Q (.bl false) H3)
theorem Cd{op op':CmpOp}{r r':R2}(ho:MH X (compareOp op) r)(ho':MH X (compareOp op') r')(ha:PE X a ta)(hb:PE X b tb)(hc:PE X c tc)
  (hm:lastMarks [op,op'] [b,c]=false:=by with_unfolding_all rfl):PE X (.Compare a [op,op'] [b,c] pos) (zE r r' ta tb tc):=by
 intro pins s σ H Q I h
 refine Compare_chain (Mv (ha pins s σ H _ I h) λv s1 ⟨x,H1,I1,r1,q1⟩=>chain_link (Mv (hb pins s1 σ H1 _ I1 q1) λu s2 ⟨y,H2,I2,r2,q2⟩ =>
  Mv (ho pins s2 σ H2 x y v u _ I2 r1 r2 q2) λd s3 ⟨z,H3,I3,r3,k,e,q3⟩=>?_)) hm
 subst e;cases r3;refine wpAny_truthy_bool ?_
 cases k with
 |false=>exact ite_ff ⟨.bl false,H3,I3,rfl,q3⟩
 |true=>exact ite_tt (chain_last (Mv (hc pins s3 σ H3 _ I3 q3) λw' s4 ⟨z',H4,I4,r4,q4⟩=>ho' pins s4 σ H4 y z' u w' Q I4 r2 r4 q4))
theorem Ce{op op':CmpOp}{r r':R2}(ho:MH X (compareOp op) r)(ho':MH X (compareOp op') r')(ha:PE X a ta)(hb:PE X b tb)(hc:PE X c tc)
  (hm:lastMarks [op,op'] [b,c]=false:=by with_unfolding_all rfl):PT X (.Compare a [op,op'] [b,c] pos) (Hz (zE r r' ta tb tc)):=by
 intro pins s σ H Q I h
 refine isTrue_chain (Mv (ha pins s σ H _ I h) λv s1 ⟨x,H1,I1,r1,q1⟩=>test_link (Mv (hb pins s1 σ H1 _ I1 q1) λu s2 ⟨y,H2,I2,r2,q2⟩ =>
  Mv (ho pins s2 σ H2 x y v u _ I2 r1 r2 q2) λd s3 ⟨z,H3,I3,r3,k,e,q3⟩=>?_)) hm
 subst e;cases r3;refine wpAny_truthy_bool ?_
 cases k with
 | false =>
  obtain⟨k',e',q'⟩:=q3;cases e';exact ite_ff ⟨H3,I3,q'⟩
 | true =>
  refine ite_tt (test_last (Mv (hc pins s3 σ H3 _ I3 q3) λw' s4 ⟨z',H4,I4,r4,q4⟩=>Mv (ho' pins s4 σ H4 y z' u w' _ I4 r2 r4 q4) λd' s5 ⟨z2,H5,I5,r5,k2,e2,q5⟩=>?_));subst e2;cases r5;exact wpAny_truthy_bool ⟨H5,I5,q5⟩
theorem qa:(sizeLine:Nat)<2^63:=by rw[sizeLine_eq];decide
theorem yo:MH X (binaryOp .Add) (λx y H Q=>∃i j,x=.str i/\y=.str j/\i.length+j.length≤sizeLine/\Q (.str (i++j)) H):=by intro pins s σ H x y v u Q I rx ry h;obtain⟨i,j,rfl,rfl,hz,q⟩:=h;obtain⟨t,rfl⟩:=rx;obtain⟨t',rfl⟩:=ry;exact add_str (λt' tk=>⟨.str (i++j),H,I.tok _,⟨_,rfl⟩,q⟩) hz
theorem qG{x:V}{us:List Value}(r:cB [x] us):∃u,us=[u]/\cq x u:=by
 cases r with
 |cons r1 r2=>cases r2;exact⟨_,rfl,r1⟩
theorem yp{x y:V}{us:List Value}(r:cB [x,y] us):∃u w',us=[u,w']/\cq x u/\cq y w':=by
 cases r with
 | cons r1 r2 =>
  cases r2 with
  |cons r3 r4=>cases r4;exact⟨_,_,rfl,r1,r3⟩
theorem Cf:iC X (.builtin "abs") (λxs H Q=>∃ i,xs=[.int i]/\Q (.int (if i < 0 then -i else i)) H):=by
 intro pins s σ H xs us Q I r h;obtain⟨i,rfl,q⟩:=h;obtain⟨u,rfl,t,rfl⟩:=qG r
 exact call_abs_int λu tk=>⟨.int (if i<0 then -i else i),H,I.tok _,⟨_,rfl⟩,q⟩
theorem zF(hc:X.calm=true):iC X (.builtin "max") (λxs H Q=>∃ i j,xs=[.int i,.int j]/\Q (.int (if j > i then j else i)) H):=by
 intro pins s σ H xs us Q I r h;obtain⟨i,j,rfl,q⟩:=h;obtain⟨u,w',rfl,⟨t,rfl⟩,⟨t',rfl⟩⟩:=yp r;refine max_two_ints (I.ok.hd hc) λh' tk k=>⟨_,H,I.kept k,?_,q⟩;by_cases hj:j > i
 · rw[if_pos hj,if_pos hj];exact⟨_,rfl⟩
 · rw[if_neg hj,if_neg hj];exact⟨_,rfl⟩
theorem zG(hc:X.calm=true):iC X (.builtin "min") (λxs H Q=>∃ i j,xs=[.int i,.int j]/\Q (.int (if j < i then j else i)) H):=by
 intro pins s σ H xs us Q I r h;obtain⟨i,j,rfl,q⟩:=h;obtain⟨u,w',rfl,⟨t,rfl⟩,⟨t',rfl⟩⟩:=yp r;refine min_two_ints (I.ok.hd hc) λh' tk k=>⟨_,H,I.kept k,?_,q⟩;by_cases hj:j<i
 · rw[if_pos hj,if_pos hj];exact⟨_,rfl⟩
 · rw[if_neg hj,if_neg hj];exact⟨_,rfl⟩
theorem zH:iC X (.type "int") (λxs H Q=>(∃ i,xs=[.int i]/\Q (.int i) H)∨∃ k,xs=[.bl k]/\Q (.int (if k then 1 else 0)) H):=by
 intro pins s σ H xs us Q I r h;rcases h with⟨i,rfl,q⟩|⟨k,rfl,q⟩
 · obtain⟨u,rfl,t,rfl⟩:=qG r;exact call_int_int ⟨.int i,H,I,⟨_,rfl⟩,q⟩
 ·
  obtain⟨u,rfl,r1⟩:=qG r;cases r1
  exact call_int_bool ⟨.int (if k then 1 else 0),H,I.tok _,⟨_,rfl⟩,q⟩
end
theorem zJ{h:Heap}{dx:Addr}{mA:Str->Option Value}(n:h.Ns1 dx mA):∃od,h.get? dx=some od/\∀name,PySem.W.lookIn name od=some (mA name):=by
 obtain⟨o,es,ep,ho,hd,hk,_,hm⟩:=n;refine⟨o,ho,λname=>?_⟩;have e:=hm name;unfold nsFind findBy at e;rw[← Array.find?_toList]at e;unfold PySem.W.lookIn;rw[hd];dsimp only;split
 · rename_i y q;rw[q]at e;exact congrArg some e
 ·
  rename_i q;rw[q]at e;have a:es.toList.any (·.refKey)=false:=by rw[List.any_eq_false];intro y hy;obtain⟨z,t,hkey⟩:=hk y (Array.mem_toList_iff.mp hy);simp[DictEntry.refKey,hkey]
  have a':¬es.toList.any (·.refKey)=true:=by rw[a];exact Bool.false_ne_true
  rw[if_neg a'];exact congrArg some e
section
variable{s:Shared}{f:Str}{A:Around}{E:Value->Shared->Prop}
theorem EX{prog:Program}{w:World}{env:Env}{e:Expr}{f:Str}{pos:Pos}{s:Shared}{Q:Value->Shared->Prop}(hb:attributeBase e f env (eval e env)=eval e env)
  (h:wpAny (model prog w) A (eval e env) (λo s₁=>wpAny (model prog w) A (getAttr o f true) Q E s₁) E s):wpAny (model prog w) A (eval (.Attribute e f pos) env) Q E s :=
 Attribute_any_ h (by rw[arm_eval_Attribute,hb])
end
structure iI (k:Nat) (A:Around):Prop where
 hd:A.handled=none
 dp:A.depth+3*k+5<recursionLimit
 un:A.units+16*k+200<cLine
 gd:A.guards=some []
theorem iI.mono{j k:Nat}{A:Around}(r:iI k A)(h:j≤k):iI j A:=⟨r.hd,by have:=r.dp;omega,by have:=r.un;omega,r.gd⟩
theorem iI.deeper{k:Nat}{A:Around}(r:iI (k+1) A)(env:Env):iI k (A.deeper env) :=
 ⟨r.hd,by have:=r.dp;show A.depth+1+3*k+5<_;omega,by have:=r.un;show A.units+3+16*k+200<_;omega,r.gd⟩
theorem yq{A:Around}{C:Addr}{us:List Value}{kw:List (Str×Value)}:(A.under (.builtin "type.__call__" ⟨.ref C::us,kw⟩)).depth=A.depth+1:=by
 first|rfl|simp[Around.under,Code.weight,Code.isCreation,Code.isGuard,Code.isCaller,Code.frames,Code.isFrame,guardIds]
theorem yr{A:Around}{C:Addr}{us:List Value}{kw:List (Str×Value)}:(A.under (.builtin "type.__call__" ⟨.ref C::us,kw⟩)).units=A.units+1:=by
 first|rfl|simp[Around.under,Code.cUnits,Code.frames,Code.isFrame]
theorem iI.make{k:Nat}{A:Around}(r:iI (k+1) A)(C:Addr)(us:List Value)(kw:List (Str×Value)):iI k (A.under (.builtin "type.__call__" ⟨.ref C::us,kw⟩)) :=
 ⟨r.hd,by have:=r.dp;rw[yq];omega,by have:=r.un;rw[yr];omega,by rw[← r.gd];first|rfl|simp[Around.under,Code.guards,Code.isGuard,pushGuards,guardIds]⟩
theorem iI.depth{k:Nat}{A:Around}(r:iI k A):A.depth<recursionLimit:=by have:=r.dp;omega
theorem iI.units{k:Nat}{A:Around}(r:iI k A):A.units+64<cLine:=by have:=r.un;omega
noncomputable def JZ:TA:=λ_ H Q=>Q [] H
noncomputable def zK(ta:TE)(tr:TA):TA:=λσ H Q=>ta σ H λx H1=>tr σ H1 λxs H2=>Q (x::xs) H2
section
variable{X:Cx}{e:Expr}{es:List Expr}{te:TE}{t:TA}{pos:Pos}
theorem ic:PA X [] JZ:=λ_ _ _ _ H Q I h=>Calls.spliced_nil ⟨[],H,I,.nil,h⟩
theorem bV(ha:PE X e te)(hr:PA X es t)(hs:starEach (e::es) X.env=(false,eval e X.env)::starEach es X.env:=by rfl):PA X (e::es) (zK te t):=by intro pos pins s σ H Q I h;rw[hs];show wpAny _ _ (spliced ((false,eval e X.env)::backTo pos (starEach es X.env))) _ _ s;refine Calls.spliced_cons (Mv (ha pins s σ H _ I h) λu s1 ⟨x,H1,I1,r1,q1⟩=>?_);exact Mv (hr pos pins s1 σ H1 _ I1 q1) λus s2 ⟨xs,H2,I2,r2,q2⟩=>⟨x::xs,H2,I2,.cons r1 r2,q2⟩
def LA(t:TA):TE:=λσ H Q=>t σ H λxs H1=>xs.length≤sizeLine/\∀p,H1 p=none->Q (.ref p) (Ml H1 p (.tup xs))
theorem HD {x1} (h:PA X es t):PE X (.Tuple es x1 pos) (LA t):=by intro pins s σ H Q I hq;refine wpAny_Tuple_spliced (Mv (h pos pins s σ H _ I hq) λus s1 ⟨xs,H1,I1,r,z,q⟩=>⟨by rw[← r.length];exact z,?_⟩);have hf:H1 s1.heap.objs.size=none:=I1.hok.fresh (Nat.le_refl _);refine⟨.ref s1.heap.objs.size,Ml H1 s1.heap.objs.size (.tup xs),I1.laid (t':=s1.toks) (λb u e=>Heap.get?_push_of_some _ e) (Nat.le_refl _) ?_,rfl,q _ hf⟩;exact⟨z,us,r,⟨_,Heap.get?_push_size _ rfl,rfl,_,rfl⟩⟩
end
noncomputable abbrev Sp:=List V->Hp->VK->XK->Prop
noncomputable abbrev MO:=List Env->Hp->Shared->XK->Value->Shared->Prop
structure DZ (P:Program) (w:World) (K:PySem.W.Frag) (mg:Str->Option Value) (base:Heap) (A:Around) (outer:List Env) (s:Shared) (H:Hp):Prop where
 frames:A.frames=some outer
 mod:Mod K mg base
 bs:∀b o,base.get? b=some o->s.heap.get? b=some o/\H b=none
 bsz:base.objs.size≤s.heap.objs.size
 funs:s.heap.FunFrames base outer
 frf:∀b∈Mq outer,H b=none
 hok:Mm P w H s.heap
 bare:AllBare s.gens
 tbs:Mp K H
def CE(outer:List Env)(P:Program)(w:World)(H:Hp)(s:Shared)(Q:VK)(u:Value)(s':Shared):Prop :=
 ∃v H',s'.os=s.os/\AllBare s'.gens/\Un (Mq outer) [] H H' s.heap s'.heap/\Mm P w H' s'.heap/\cq v u/\Q v H'
def CR(CX:MO)(outer:List Env)(P:Program)(w:World)(H:Hp)(s:Shared)(Q:VK)(E:XK)(r:Result)(s':Shared):Prop :=
 match r with
 |.ok (.ret u)=>CE outer P w H s Q u s'
 |.ok _=>False
 |.error e=>CX outer H s E e s'
structure FnOk (P:Program) (w:World) (K:PySem.W.Frag) (mg:Str->Option Value) (base:Heap) (CX:MO) (k:Nat) (f:Addr) (fd:FuncData) (ps:List Str) (sp:Sp):Prop where
 len:∀vs H Q E,sp vs H Q E->vs.length=ps.length
 run:∀(A:Around)(outer:List Env)(s:Shared)(H:Hp)(args:Args)(us:List Value)(vs:List V)(Q:VK)(E:XK),iI k A->DZ P w K mg base A outer s H->BindsTo s fd args (ps.zip us)->cB vs us->sp vs H Q E ->
  codeAny (model P w) A (.call (.ref f) args) (CR CX outer P w H s Q E) s
theorem FnOk.mono{P:Program}{w:World}{K:PySem.W.Frag}{mg:Str->Option Value}{base:Heap}{CX:MO}{j k:Nat}{f:Addr}{fd:FuncData}{ps:List Str}{sp:Sp}(F:FnOk P w K mg base CX j f fd ps sp)(h:j≤k) :
  FnOk P w K mg base CX k f fd ps sp:=⟨F.len,λA outer s H args us vs Q E hr=>F.run A outer s H args us vs Q E (hr.mono h)⟩
theorem DZ.make{P:Program}{w:World}{K:PySem.W.Frag}{mg:Str->Option Value}{base:Heap}{A:Around}{outer:List Env}{s:Shared}{H:Hp}(e:DZ P w K mg base A outer s H)(C:Addr)(us:List Value)(kw:List (Str×Value)) :
  DZ P w K mg base (A.under (.builtin "type.__call__" ⟨.ref C::us,kw⟩)) outer s H:=⟨by first | exact e.frames | (simpa[Around.under,Code.envs,Code.isFrame,pushEnvs]using e.frames),e.mod,e.bs,e.bsz,e.funs,e.frf,e.hok,e.bare,e.tbs⟩
section
variable{X:Cx}{pins:List (Addr×Obj)}{σ:St}{H:Hp}{s s':Shared}
theorem Mt.env0(I:Mt X pins σ H s):DZ X.prog X.w X.K X.mg X.base X.A X.stack s H :=
 ⟨I.ok.frames,I.ok.mod,I.bs,Nat.le_trans I.ok.bsz I.sz,I.stack,I.stkFree,I.hok,I.bare,I.tbs⟩
theorem Mt.after{Q:VK}{u:Value}(I:Mt X pins σ H s)(h:CE X.stack X.prog X.w H s Q u s'):EP X pins σ Q u s':=by obtain⟨v,H',os,bare,un,hok,r,q⟩:=h;obtain⟨hh,g,d,t,os'⟩:=s';obtain rfl:os'=s.os:=os;exact⟨v,H',I.call (h':=hh) (g':=g) (d':=d) (t':=t) (ch:=[]) un hok bare (λb z=>absurd z (by simp)),r,q⟩
end
def mq(K:PySem.W.Frag)(fd:FuncData)(ps:List Str)(ds:List Value):Prop :=
 ∀(s:Shared)(us:List Value),K.In s.heap->(us++ds).length=ps.length->BindsTo s fd ⟨us,[]⟩ (ps.zip (us++ds))
theorem mq.all{K:PySem.W.Frag}{fd:FuncData}{ps:List Str}(h:∀us:List Value,us.length=ps.length->bindArgs fd ⟨us,[]⟩=pure (ps.zip us)):mq K fd ps []:=λs us _ hl=>by rw[List.append_nil]at hl ⊢;exact .of_eq (h us hl)
def wX(CX:MO)(X:Cx)(E:XK):Prop:=∀(pins:List (Addr×Obj))(σ:St)(H:Hp)(s:Shared)(e:Value)(s':Shared),Mt X pins σ H s->CX X.stack H s E e s'->X.xe e s'
section
variable{X:Cx}{CX:MO}{k:Nat}{f:Addr}{fd:FuncData}{ps:List Str}{sp:Sp}{dvs:List V}{ds:List Value}{E:XK}{e:Expr}
theorem zL{pins:List (Addr×Obj)}{σ:St}{H:Hp}{s:Shared}{Q:VK}{us:List Value}{vs:List V}(F:FnOk X.prog X.w X.K X.mg X.base CX k f fd ps sp)(hr:iI k X.A)(hb:mq X.K fd ps ds)(hd:cB dvs ds)(hx:wX CX X E)
  (I:Mt X pins σ H s) (r:cB vs us) (h:sp (vs++dvs) H Q E):wpAny (model X.prog X.w) X.A (call (.ref f) us) (EP X pins σ Q) X.xe s:=by
 have r2:cB (vs++dvs) (us++ds):=r.append hd;have hl:(us++ds).length=ps.length:=by rw[← r2.length];exact F.len _ _ _ _ h
 refine wpAny_call (codeAny_mono (F.run X.A X.stack s H ⟨us,[]⟩ (us++ds) (vs++dvs) Q E hr I.env0 (hb s us I.kIn hl) r2 h) λr s' hq=>?_)
 cases r with
 |error e=>exact hx pins σ H s e s' I hq
 | ok fl =>
  cases fl with
  |ret u=>exact I.after hq
  |next=>exact False.elim hq
  |brk=>exact False.elim hq
  |cont=>exact False.elim hq
end
structure aF (N P:List Str) (sc:Scope):Prop where
 kind:sc.kind=.function
 co:sc.isCoroutine=false
 gen:sc.isGenerator=false
 nd:N.Nodup
 pre:N.take P.length=P
 par:∀x∈P,sc.names.lookup x=some .local∨sc.names.lookup x=some .cell
 nofree:∀y∈sc.names,y.2≠.free
theorem sR{kindOf:Str->Option NameKind}{x:Str}:∀{binds:List (Str×Value)}{m:Str->Option Value},(∀v,(x,v)∉binds)->bindL kindOf binds m x=m x
 |[],_,_=>rfl
 | (n,v)::r,m,h=>by
  unfold bindL;rw[sR λw hw=>h w (List.mem_cons_of_mem _ hw)];split
  ·
   have:x≠n:=by rintro rfl;exact h v List.mem_cons_self
   simp[this]
  · rfl
theorem sS{kindOf:Str->Option NameKind}{x:Str}:∀{binds:List (Str×Value)}{m:Str->Option Value},(∀v,(x,v)∉binds)->bindC kindOf binds m x=m x
 |[],_,_=>rfl
 | (n,v)::r,m,h=>by
  unfold bindC;rw[sS λw hw=>h w (List.mem_cons_of_mem _ hw)];split
  · rfl
  ·
   have:x≠n:=by rintro rfl;exact h v List.mem_cons_self
   simp[this]
theorem sT{kindOf:Str->Option NameKind}{x:Str}{v:Value}:∀{P:List Str}{vs:List Value}{i:Nat}{m:Str->Option Value},P.Nodup->P[i]?=some x->vs[i]?=some v->kindOf x=some .local ->
  bindL kindOf (P.zip vs) m x=some v
 |[],_,_,_,_,h,_,_=>by simp at h
 |_::_,[],_,_,_,_,h,_=>by simp at h
 | p::P,w::vs,0,m,nd,h1,h2,hk=>by simp at h1 h2;subst h1;subst h2;show bindL kindOf ((p,w)::P.zip vs) m p=_;unfold bindL;rw[sR λv hv=>(List.nodup_cons.mp nd).1 (List.of_mem_zip hv).1,if_pos hk];simp
 | p::P,w::vs,i+1,m,nd,h1,h2,hk=>by show bindL kindOf ((p,w)::P.zip vs) m x=_;unfold bindL;exact sT (i:=i) (List.nodup_cons.mp nd).2 (by simpa using h1) (by simpa using h2) hk
theorem sU{kindOf:Str->Option NameKind}{x:Str}{v:Value}:∀{P:List Str}{vs:List Value}{i:Nat}{m:Str->Option Value},P.Nodup->P[i]?=some x->vs[i]?=some v->kindOf x≠some .local ->
  bindC kindOf (P.zip vs) m x=some v
 |[],_,_,_,_,h,_,_=>by simp at h
 |_::_,[],_,_,_,_,h,_=>by simp at h
 | p::P,w::vs,0,m,nd,h1,h2,hk=>by simp at h1 h2;subst h1;subst h2;show bindC kindOf ((p,w)::P.zip vs) m p=_;unfold bindC;rw[sS λv hv=>(List.nodup_cons.mp nd).1 (List.of_mem_zip hv).1,if_neg hk];simp
 | p::P,w::vs,i+1,m,nd,h1,h2,hk=>by show bindC kindOf ((p,w)::P.zip vs) m x=_;unfold bindC;exact sU (i:=i) (List.nodup_cons.mp nd).2 (by simpa using h1) (by simpa using h2) hk
noncomputable def nE(N:List Str)(vs:List V):St:=vs.map some++List.replicate (N.length-vs.length) none
noncomputable def Cg(CX:MO)(P:Program)(w:World)(K:PySem.W.Frag)(mg:Str->Option Value)(base:Heap)(N:List Str)(qual:Str)(scope:Scope)(f:Addr)(cd:Value)(A:Around)(outer:List Env)(s:Shared)(H:Hp)(E:XK):Cx where
 prog:=P
 w:=w
 K:=K
 mg:=mg
 base:=base
 A:=A.deeper (envOfC qual scope s.heap.objs.size f cd)
 N:=N
 s₀:=s
 H₀:=H
 env:=envOfC qual scope s.heap.objs.size f cd
 outer:=outer
 stack:=envOfC qual scope s.heap.objs.size f cd::outer
 ex:=[]
 calm:=true
 fn:=λ_=>true
 pn:=[]
 xe:=λe s'=>wpAny (model P w) (A.deeper (envOfC qual scope s.heap.objs.size f cd)) (leaving (envOfC qual scope s.heap.objs.size f cd) e) (λ_ s''=>CX outer H s E e s'') (λe' s''=>CX outer H s E e' s'') s'
theorem wY{sc:Scope}{n:Nat}{x:Str}(h:sc.names.lookup x=some .cell):∃c,(cellsFrom n sc.names []).lookup x=some c:=by have q:=PySem.W.cellsFrom_some sc.names n [] (.inl h);exact Option.isSome_iff_exists.mp q
theorem zM{CX:MO}{P:Program}{w:World}{K:PySem.W.Frag}{mg:Str->Option Value}{base:Heap}{N ps:List Str}{qual:Str}{scope:Scope}{f:Addr}{cd:Value}{A:Around}{outer:List Env}{s s1:Shared}{H:Hp}{E:XK}{us:List Value}{vs:List V}
  (S:aF N ps scope) (hd:A.handled=none) (e0:DZ P w K mg base A outer s H) (hl:vs.length=ps.length) (r:cB vs us)
  (x:InCallC s s.heap.objs.size (bindL (envOfC qual scope s.heap.objs.size f cd).kindOf (ps.zip us) λ_=>none) (cellsFrom (s.heap.objs.size+1) scope.names []) (bindC (envOfC qual scope s.heap.objs.size f cd).kindOf (ps.zip us) λ_=>none) s1) :
  Mt (Cg CX P w K mg base N qual scope f cd A outer s H E) [] (nE N vs) H s1:=by
 have hpl:ps.length≤N.length:=by have:=congrArg List.length S.pre;rw[List.length_take]at this;omega
 obtain⟨h1,tk,rfl,hk⟩:=x.done;have noA:∀b:Addr,b∉(Cg CX P w K mg base N qual scope f cd A outer s H E).ex:=λb z=>absurd (show b∈([]:List Addr)from z) (by simp)
 refine⟨⟨e0.mod,S.kind,rfl,rfl,Nat.le_refl _,λy z c h1 h2=>?_,λy hy=>?_,λy c _ h=>?_,λ_=>hd,Around.frames_deeper e0.frames,.inr ⟨rfl,rfl⟩,λb z=>absurd z (noA b),e0.bs,e0.bsz,λb _ _=>noA b,λb z=>absurd z (noA b),e0.funs,e0.frf,e0.tbs⟩,
  rfl,e0.bare,Un.kept hk,⟨_,x.toInCall.ns,λi y v h1 h2 h3=>?_⟩,λy c h=>⟨_,x.cell y c h⟩,e0.hok.fresh (Nat.le_refl _),λy c h=>?_,λp hp=>absurd (show p∈([]:List (Addr×Obj))from hp) (by simp),e0.hok.kept hk,?_⟩
 · exact name_of_addr x.apart (PySem.mem_of_lookup h1) (PySem.mem_of_lookup h2)
 ·
  have hy:scope.names.lookup y=some .cell∨scope.names.lookup y=some .free:=hy;rcases hy with hy|hy
  · exact wY hy
  · exact absurd rfl (S.nofree _ (PySem.mem_of_lookup hy))
 · exact Nat.le_of_lt (x.above y c (PySem.mem_of_lookup h))
 ·
  have hi:i<vs.length:=by
   unfold nE at h2;by_cases hi:i<vs.length
   · exact hi
   · rw[List.getElem?_append_right (by simpa using hi)]at h2;rw[List.getElem?_replicate]at h2;split at h2<;>cases h2
  have ha:vs[i]?=some v:=by
   unfold nE at h2;rw[List.getElem?_append_left (by simpa using hi),List.getElem?_map]at h2
   cases e:vs[i]? with
   |none=>rw[e]at h2;cases h2
   |some a=>rw[e]at h2;cases h2;rfl
  obtain⟨u,hu,rv⟩:=r.get ha;have hp:ps[i]?=some y:=by rw[← S.pre,List.getElem?_take_of_lt (by omega)];exact h1
  have ndP:ps.Nodup:=by rw[← S.pre];exact S.nd.sublist (List.take_sublist _ _)
  refine⟨u,rv,?_⟩;rcases S.par y (List.mem_of_getElem? hp)with k|k
  · exact .inl ⟨k,sT ndP hp hu k⟩
  · obtain⟨c,e⟩:=wY (n:=s.heap.objs.size+1) k;refine .inr ⟨.inl k,c,e,?_⟩;have q:=x.cell y c e;rw[sU ndP hp hu (by show scope.names.lookup y≠_;rw[k];decide)]at q;exact q
 · exact .inl (e0.hok.fresh (Nat.le_of_lt (x.above y c (PySem.mem_of_lookup h))))
 · unfold nE;show _=N.length;rw[List.length_append,List.length_map,List.length_replicate];omega
theorem HE{CX:MO}{P:Program}{w:World}{K:PySem.W.Frag}{mg:Str->Option Value}{base:Heap}{k:Nat}{f:Addr}{name qual:Str}{params:Arguments}{body:List Stmt}{scope:Scope}{dV kV doc pm cdv ct oc:Value}{an od:Option Addr}
  {osl:Array (Option Value)} {N ps:List Str} {sp:Sp} (lk:K.lookup f=some ⟨oc,od,.func (PySem.W.fnOf name qual params body scope dV kV doc pm an cdv ct),osl⟩) (hcd:PySem.W.codeIn K cdv qual=true) (S:aF N ps scope)
  (len:∀vs H Q E,sp vs H Q E->vs.length=ps.length)
  (hbody:∀(A:Around)(outer:List Env)(s:Shared)(H:Hp)(vs:List V)(Q:VK)(E:XK),iI k (A.deeper (envOfC qual scope s.heap.objs.size f cdv))->sp vs H Q E ->
   ∃t,Mu (Cg CX P w K mg base N qual scope f cdv A outer s H E) body t/\t {nx:=λ_ H'=>Q .non H',rt:=Q} (nE N vs) H) :
  FnOk P w K mg base CX (k+1) f (PySem.W.fnOf name qual params body scope dV kV doc pm an cdv ct) ps sp:=by
 refine⟨len,λA outer s H args us vs Q E hr e0 hb r hsp=>?_⟩;have hl:=len _ _ _ _ hsp;have KX:K.In s.heap:=e0.mod.kin.keeps λb o e=>(e0.bs b o e).1;have lim:s.heap.NoLimit:=e0.mod.nolimit.keeps λb o e=>(e0.bs b o e).1
 have hkind:∀y∈ps.zip us,scope.names.lookup y.1=some .local∨(scope.names.lookup y.1=some .cell/\((cellsFrom (s.heap.objs.size+1) scope.names []).lookup y.1).isSome=true):=fun⟨n,v⟩ hy=>by
  rcases S.par n (List.of_mem_zip hy).1 with q|q
  · exact .inl q
  · exact .inr ⟨q,PySem.W.cellsFrom_some _ _ _ (.inl q)⟩
 refine codeAny_call_function hr.depth (KX _ _ lk) rfl S.co S.gen rfl (PySem.W.codeRec_of KX hcd) (hb _ _ _ _ ?_);refine wpAny_newFunctionEnv_cells S.kind hkind λenv he s1 x=>?_;subst he;refine⟨lim.keeps x.toInCall.keep,codeAny_func ?_⟩;obtain⟨t,ht,hq⟩:=hbody A outer s H vs Q E (hr.deeper _) hsp;have I:Mt (Cg CX P w K mg base N qual scope f cdv A outer s H E) [] (nE N vs) H s1:=zM S hr.hd e0 hl r x;refine wpAny_mono (ht [] s1 (nE N vs) H _ I hq) (λfl s' hs=>?_) λe s' hs=>hs
 have Mx:∀{σ':St}{H':Hp}{v:V}{u:Value},Mt (Cg CX P w K mg base N qual scope f cdv A outer s H E) [] σ' H' s'->cq v u->Q v H'->CE outer P w H s Q u s' :=
  λ{σ' H' v u} J rv q=>⟨v,H',J.os,J.bare,J.base,J.hok,rv,q⟩
 cases fl with
 | ret u =>
  obtain⟨v,σ',H',J,rv,q⟩:=hs;exact Mx J rv q
 | next =>
  obtain⟨σ',H',J,q⟩:=hs;exact Mx (v:=V.non) (u:=Value.none) J rfl q
 | brk =>
  obtain⟨_,_,_,q⟩:=hs;exact False.elim q
 | cont =>
  obtain⟨_,_,_,q⟩:=hs;exact False.elim q
section
variable{X:Cx}{x:Str}{p pos:Pos}{e:Expr}{es:List Expr}{t:TA}{id:String}{r:List V->Hp->VK->Prop}
def MP(r:List V->Hp->VK->Prop)(t:TA):TE:=λσ H Q=>t σ H λvs H1=>r vs H1 Q
theorem nU(hc:iC X (.builtin id) r)(hg:Gl X x)(hm:X.mg x=none)(hv:bootBuiltins x=some (.builtin id))(ha:PA X (e::es) t) (hn:x≠"__name__":=by decide) (hdb:(x == ("__debug__" : Str))=false:=by decide)
  (he:starEach (e::es) X.env=(false,eval e X.env)::starEach es X.env:=by rfl) (hpl:(backTo pos (starEach es X.env)).any (·.1)=false:=by rfl):PE X (.Call (.Name x p) (e::es) [] pos) (MP r t):=by
 intro pins s σ H Q I h;refine wpAny_Call_Name_kw (m5 I hg hm hv ?_ hn hdb);exact PyProof.Rows.callWith_builtin1 (Mv (ha pos pins s σ H _ I h) λus s1 ⟨vs,H1,I1,r1,q1⟩=>hc pins s1 σ H1 vs us Q I1 r1 q1) he hpl
end
end L2
namespace HT
open PySem PyProof.Rows
section
variable{prog:Program}{w:World}{A:Around}{E:Value->Shared->Prop}{s:Shared}
noncomputable def sIx(n d:Nat):Option Int->Nat
 |none=>d
 |some v=>if v<0 then(v+(n:Int)).toNat else min v.toNat n
theorem HF(n d:Nat)(hd:d≤n)(o:Option Int):sIx n d o≤n:=by
 cases o with
 |none=>exact hd
 | some v =>
  show(if v<0 then(v+(n:Int)).toNat else min v.toNat n)≤n
  by_cases hv:v<0
  · rw[if_pos hv];omega
  · rw[if_neg hv];exact Nat.min_le_right _ _
theorem zN(v:Int)(n d:Nat):(if v<0 then max (v+(n:Int)) 0 else min v (n:Int))=((sIx n d (some v):Nat):Int):=by
 show(if v<0 then max (v+(n:Int)) 0 else min v (n:Int))=(((if v<0 then(v+(n:Int)).toNat else min v.toNat n):Nat):Int)
 by_cases hv:v<0
 · simp only[if_pos hv];omega
 · simp only[if_neg hv];omega
theorem yt(lo hi:Option Int)(n:Nat):Builtin.Slice.sliceAdjust lo hi 1 (n:Int)=(((sIx n 0 lo:Nat):Int),((sIx n n hi:Nat):Int)):=by
 have h1:¬((1:Int)<0):=by omega
 unfold Builtin.Slice.sliceAdjust;simp only[h1,if_false];refine Prod.ext ?_ ?_
 ·
  cases lo with
  |none=>rfl
  |some v=>exact zN v n 0
 ·
  cases hi with
  |none=>rfl
  |some v=>exact zN v n n
theorem yu(i j:Nat):Builtin.Slice.slicePlaces (i:Int) (j:Int) 1=j-i:=by
 unfold Builtin.Slice.slicePlaces;have h1:(1:Int) > 0:=by omega
 simp only[h1,if_true,Int.ediv_one];split<;>omega
theorem qc{v:Value}{o:Option Int}{Q:Option Int->Shared->Prop}(p:IsPart v o)(h:Q o s):wpAny (model prog w) A (Builtin.Slice.slicePartIndex v) Q E s:=by
 cases p with
 |none=>exact slicePart_none h
 |int i t=>exact slicePart_int h
theorem nF{sl:Addr}{vl vu:Value}{lo hi:Option Int}{n:Nat}{Q:Int×Int×Nat->Shared->Prop}(hs:s.heap.IsSliceOf sl vl vu .none)(pl:IsPart vl lo)(pu:IsPart vu hi)
  (h:Q (((sIx n 0 lo:Nat):Int),1,sIx n n hi-sIx n 0 lo) s):wpAny (model prog w) A (Builtin.Slice.sliceApplied (.ref sl) (pure (n:Int))) Q E s:=by
 obtain⟨os,hos,hcs,hds⟩:=id hs;unfold Builtin.Slice.sliceApplied Builtin.Slice.sliceFields;refine wpAny_bind (wpAny_bind (wpAny_field hos hds (x:=vl) rfl (wpAny_bind (wpAny_field hos hds (x:=vu) rfl (wpAny_bind (wpAny_field hos hds (x:=.none) rfl (wpAny_pure ?_)))))));refine wpAny_bind (slicePart_none ?_)
 show wpAny _ _ (if((1:Int) == 0)=true then _ else _) _ _ s
 rw[if_neg (by decide)];refine wpAny_bind (qc pl (wpAny_bind (qc pu (wpAny_bind (wpAny_pure ?_)))))
 show wpAny _ _ (match Builtin.Slice.sliceAdjust lo hi 1 (n:Int)with|(lo,hi)=>pure (lo,(1:Int),Builtin.Slice.slicePlaces lo hi 1)) _ _ s
 rw[yt lo hi n];show wpAny _ _ (pure (((sIx n 0 lo:Nat):Int),(1:Int),Builtin.Slice.slicePlaces ((sIx n 0 lo:Nat):Int) ((sIx n n hi:Nat):Int) 1)) _ _ s;rw[yu];exact wpAny_pure h
theorem Ci(xs:Array Value)(i k:Nat):((List.range k).filterMap λ(m:Nat)=>xs[((i:Int)+(m:Int)*1).toNat]?).toArray=((xs.toList.drop i).take k).toArray:=by
 have e:(λ(m:Nat)=>xs[((i:Int)+(m:Int)*1).toNat]?)=λm=>xs[i+m]?:=by
  funext m
  have:((i:Int)+(m:Int)*1).toNat=i+m:=by omega
  rw[this]
 rw[e];have:=pick_run xs i k;rw[List.filterMap_map]at this;have e2:((λx=>xs[x]?) ∘ λx=>i+x)=λm=>xs[i+m]?:=rfl;rw[e2]at this;rw[this]
theorem getItem_tuple_cut{t sl:Addr}{items:Array Value}{vl vu:Value}{lo hi:Option Int}{Q:Value->Shared->Prop}(ht:IsTup s.heap t items)(hs:s.heap.IsSliceOf sl vl vu .none)(pl:IsPart vl lo)(pu:IsPart vu hi)
  (hw:¬(sIx items.size 0 lo=0/\sIx items.size items.size hi=items.size))
  (h:Q (.ref s.heap.objs.size) {s with heap:=s.heap.push {cls:=.type "tuple",data:=.seq ((items.toList.drop (sIx items.size 0 lo)).take (sIx items.size items.size hi-sIx items.size 0 lo)).toArray} })
  (hsz:items.size≤sizeLine):wpAny (model prog w) A (getItem (.ref t) (.ref sl)) Q E s:=by
 have htake:sizeOk (.seq ((items.toList.drop (sIx items.size 0 lo)).take (sIx items.size items.size hi-sIx items.size 0 lo)).toArray):=by show((items.toList.drop (sIx items.size 0 lo)).take (sIx items.size items.size hi-sIx items.size 0 lo)).toArray.size≤sizeLine;rw[List.size_toArray,List.length_take,List.length_drop,Array.length_toList];omega
 have hj:sIx items.size items.size hi≤items.size:=HF _ _ (Nat.le_refl _) hi;obtain⟨os,hos,hcs,hds⟩:=id hs;have hTs:s.TypeIs (.ref sl) "slice":=⟨os,hos,hcs⟩;unfold getItem
 try with_reducible refine wpAny_holding ?_
 first|refine wpAny_bind (wpAny_pure ?_)|skip
 refine wpAny_bind (wpAny_sequenceKey ht.typeIs (by decide) ?_)
 refine wpAny_bind (wpAny_callSpecial?_slot (name:=Str.ofString "__getitem__") ht.typeIs PyProof.Rows.slot_tuple_getitem
  (wpAny_call_entry PyProof.Rows.slot_tuple_getitem ht.typeIs entry_tuple_getitem ?_ (args_tuple_getitem _ _)))
 show wpAny _ _ (Builtin.Tuple.tupleItemsOf (.ref t) >>= _) _ _ s;refine wpAny_bind (tupleItemsOf_ ht ?_);refine wpAny_bind (wpAny_typeOf hTs ?_);rw[if_pos (by decide)];refine wpAny_bind (nF hs pl pu ?_);have hno:¬((((sIx items.size 0 lo:Nat):Int) == 0 && (1:Int) == 1 && (sIx items.size items.size hi-sIx items.size 0 lo) == items.size)=true):=by intro q;rw[Bool.and_eq_true,Bool.and_eq_true]at q;have q1:((sIx items.size 0 lo:Nat):Int)=0:=eq_of_beq q.1.1;have q2:sIx items.size items.size hi-sIx items.size 0 lo=items.size:=eq_of_beq q.2;exact hw ⟨by omega,by omega⟩
 show wpAny _ _ (if(((sIx items.size 0 lo:Nat):Int) == 0 && (1:Int) == 1 && (sIx items.size items.size hi-sIx items.size 0 lo) == items.size)=true then _ else _) _ _ s
 rw[if_neg hno,Ci]
 first
  |exact wpAny_bind (m:=Builtin.Tuple.tupleExact _) (wpAny_newObj_type (wpAny_pure ⟨_,rfl,wpAny_pure h⟩) htake)
  |exact wpAny_bind (m:=Builtin.Tuple.tupleExact _) (wpAny_newObj_type (wpAny_bind (wpAny_pure (wpAny_pure ⟨_,rfl,wpAny_pure h⟩))) htake)
  |exact wpAny_bind (wpAny_bind (m:=Builtin.Tuple.tupleExact _) (wpAny_newObj_type (wpAny_pure (wpAny_pure ⟨_,rfl,wpAny_pure h⟩)) htake))
  |exact wpAny_bind (wpAny_bind (m:=Builtin.Tuple.tupleExact _) (wpAny_newObj_type (wpAny_pure ⟨_,rfl,wpAny_pure h⟩) htake))
end
end HT
namespace L2
open PySem PySem.Spec PyProof.Rows
noncomputable abbrev TO:=St->Hp->(Option Int->Hp->Prop)->Prop
def PO(X:Cx)(e:Option Expr)(t:TO):Prop :=
 ∀(pins:List (Addr×Obj))(s:Shared)(σ:St)(H:Hp)(Q:Option Int->Hp->Prop),Mt X pins σ H s->t σ H Q ->
  wpAny (model X.prog X.w) X.A (evalPart e X.env) (λu s'=>∃o H',Mt X pins σ H' s'/\IsPart u o/\Q o H') X.xe s
noncomputable def EY:TO:=λ_ H Q=>Q none H
noncomputable def J0(t:TE):TO:=λσ H Q=>t σ H λx H1=>∃i,x=.int i/\Q (some i) H1
section
variable{X:Cx}{e:Expr}{te:TE}{lo hi:Option Expr}{tl th:TO}{pos p2:Pos}
theorem Fb:PO X none EY:=by intro pins s σ H Q I h;rw[evalPart_none];exact wpAny_pure ⟨none,H,I,.none,h⟩
theorem Fc(h:PE X e te):PO X (some e) (J0 te):=by intro pins s σ H Q I hw;rw[evalPart_some];refine Mv (h pins s σ H _ I hw) λu s1 ⟨x,H1,I1,r1,q1⟩=>?_;obtain⟨i,rfl,q⟩:=q1;obtain⟨t,rfl⟩:=r1;exact⟨some i,H1,I1,.int i t,q⟩
def MQ(X:Cx)(r:V->Option Int->Option Int->Hp->VK->Prop):Prop :=
 ∀(pins:List (Addr×Obj))(s:Shared)(σ:St)(H:Hp)(x:V)(v vl vu:Value)(lo hi:Option Int)(sl:Addr)(Q:VK),Mt X pins σ H s->cq x v->s.heap.IsSliceOf sl vl vu .none->IsPart vl lo->IsPart vu hi->r x lo hi H Q ->
  ∃ T id,typeLookup (.type T) "__getitem__"=pure (some (.builtin id))/\s.TypeIs v T/\wpAny (model X.prog X.w) X.A (getItem v (.ref sl)) (EP X pins σ Q) X.xe s
theorem MQ.or{r r':V->Option Int->Option Int->Hp->VK->Prop}(h:MQ X r)(h':MQ X r'):MQ X (λx lo hi H Q=>r x lo hi H Q∨r' x lo hi H Q):=by
 intro pins s σ H x v vl vu lo hi sl Q I rx hs pl pu q;rcases q with q|q
 · exact h pins s σ H x v vl vu lo hi sl Q I rx hs pl pu q
 · exact h' pins s σ H x v vl vu lo hi sl Q I rx hs pl pu q
def MR(r:V->Option Int->Option Int->Hp->VK->Prop)(te:TE)(tl th:TO):TE:=λσ H Q=>te σ H λx H1=>tl σ H1 λl H2=>th σ H2 λu H3=>r x l u H3 Q
theorem Cj{r:V->Option Int->Option Int->Hp->VK->Prop}(hr:MQ X r)(he:PE X e te)(hl:PO X lo tl)(hu:PO X hi th):PE X (.Subscript e (.Slice lo hi none p2) pos) (MR r te tl th):=by intro pins s σ H Q I h;refine Subscript_ (Mv (he pins s σ H _ I h) λv s1 ⟨x,H1,I1,r1,q1⟩=>?_);refine wpAny_Slice (Mv (hl pins s1 σ H1 _ I1 q1) λvl s2 ⟨l,H2,I2,pl,q2⟩=>Mv (hu pins s2 σ H2 _ I2 q2) λvu s3 ⟨u,H3,I3,pu,q3⟩=>?_);rw[evalPart_none];refine wpAny_pure ?_;have I4:Mt X pins σ H3 {s3 with heap:=s3.heap.push {cls:=.type "slice",data:=.fields #[vl,vu,.none] } }:=I3.kept (t':=s3.toks) λb ob q=>Heap.get?_push_of_some _ q;obtain⟨T,id,hT,ht,hg⟩:=hr pins {s3 with heap:=s3.heap.push {cls:=.type "slice",data:=.fields #[vl,vu,.none] } } σ H3 x v vl vu l u s3.heap.objs.size Q I4 r1 (Heap.IsSliceOf.new ..) pl pu q3;show wpAny (model X.prog X.w) X.A (subscriptTail e (.Slice lo hi none p2) v (.ref s3.heap.objs.size)) (EP X pins σ Q) X.xe {s3 with heap:=s3.heap.push {cls:=.type "slice",data:=.fields #[vl,vu,.none] } };exact tail_any (ops:=[.ref s3.heap.objs.size,v]) ht hT hg (by with_unfolding_all rfl)
noncomputable def D1(xs:List V)(lo hi:Option Int):List V:=(xs.drop (HT.sIx xs.length 0 lo)).take (HT.sIx xs.length xs.length hi-HT.sIx xs.length 0 lo)
theorem oy(xs:List V)(lo hi:Option Int):(D1 xs lo hi).length≤xs.length:=by unfold D1;rw[List.length_take,List.length_drop];omega
def LC(K:PySem.W.Frag):V->Option Int->Option Int->Hp->VK->Prop:=λx lo hi H Q=>∃a xs,x=.ref a/\MA K H a xs /\
 ¬(HT.sIx xs.length 0 lo=0/\HT.sIx xs.length xs.length hi=xs.length)/\∀p,H p=none->Q (.ref p) (Ml H p (.tup (D1 xs lo hi)))
theorem HG:MQ X (LC X.K):=by
 intro pins s σ H x v vl vu lo hi sl Q I rx hs pl pu h;obtain⟨a,xs,rfl,hx,hw,q⟩:=h;cases rx;obtain⟨its,r,ht,hz⟩:=I.tuple hx;have hlen:its.toArray.size=xs.length:=by rw[List.size_toArray];exact r.length.symm
 refine⟨"tuple",_,PyProof.Rows.slot_tuple_getitem.lookup,ht.typeIs,?_⟩;refine HT.getItem_tuple_cut ht hs pl pu (by rw[hlen];exact hw) ?_ (by rw[hlen];exact hz);rw[hlen];refine⟨.ref s.heap.objs.size,_,I.laid (t':=s.toks) (o:=.tup (D1 xs lo hi)) (λb ob q=>Heap.get?_push_of_some _ q) (Nat.le_refl _) ?_,rfl,q _ (I.hok.fresh (Nat.le_refl _))⟩;exact⟨Nat.le_trans (oy xs lo hi) hz,_,(r.drop (HT.sIx xs.length 0 lo)).take (HT.sIx xs.length xs.length hi-HT.sIx xs.length 0 lo),IsTup.new _ _⟩
end
noncomputable def MS(n:Nat)(i:Int):Option Nat:=if 0≤i then(if i<n then some i.toNat else none)else if -(n:Int)≤i then some (i+n).toNat else none
noncomputable def MT{α:Type}(xs:List α)(i:Int):Option α:=(MS xs.length i).bind λj=>xs[j]?
theorem zO{n:Nat}{i:Int}{j:Nat}(h:MS n i=some j):seqIndex? i n=some j/\j<n/\-(n:Int)≤i/\i<n:=by
 unfold MS at h;by_cases h0:0≤i
 ·
  rw[if_pos h0]at h;by_cases h1:i<n
  · rw[if_pos h1]at h;have e:i.toNat=j:=Option.some.inj h;exact⟨by rw[seqIndex_of h0 h1,e],by omega,by omega,h1⟩
  · rw[if_neg h1]at h;cases h
 ·
  rw[if_neg h0]at h;by_cases h1 : -(n:Int)≤i
  · rw[if_pos h1]at h;have e:(i+n).toNat=j:=Option.some.inj h;exact⟨by rw[seqIndex_neg (by omega) h1,e],by omega,h1,by omega⟩
  · rw[if_neg h1]at h;cases h
theorem vj{α:Type}{xs:List α}{i:Int}{v:α}(h:MT xs i=some v):∃j,seqIndex? i xs.length=some j/\xs[j]?=some v/\j<xs.length/\-(xs.length:Int)≤i/\i<xs.length:=by
 unfold MT at h
 cases e:MS xs.length i with
 |none=>rw[e]at h;cases h
 | some j =>
  rw[e]at h;obtain⟨h1,h2,h3,h4⟩:=zO e;exact⟨j,h1,h,h2,h3,h4⟩
theorem iJ{α:Type}{xs:List α}{j:Nat}{v:α}(h:xs[j]?=some v):MT xs (j:Int)=some v:=by
 have hj:j<xs.length:=(List.getElem?_eq_some_iff.mp h).1;have e:MS xs.length (j:Int)=some j:=by unfold MS;rw[if_pos (by omega),if_pos (by omega)];simp
 unfold MT;rw[e];exact h
def vk(b:Expr):Prop:=∀o i,subscripted b false o i=operate [o,i] (getItem o i)
def MU(X:Cx)(r:R2):Prop :=
 ∀(value slice:Expr)(pins:List (Addr×Obj))(s:Shared)(σ:St)(H:Hp)(x y:V)(v u:Value)(Q:VK),Mt X pins σ H s->cq x v->cq y u->r x y H Q ->
  subscripted slice false v u=operate [v,u] (getItem v u)->wpAny (model X.prog X.w) X.A (subscriptTail value slice v u) (EP X pins σ Q) X.xe s
def MV(X:Cx)(id:String)(r:V->List V->Hp->VK->Prop):Prop :=
 ∀(pins:List (Addr×Obj))(s:Shared)(σ:St)(H:Hp)(x:V)(xs:List V)(v:Value)(us:List Value)(Q:VK),Mt X pins σ H s->cq x v->cB xs us->r x xs H Q ->
  wpAny (model X.prog X.w) X.A (call (.builtin id) (v::us)) (EP X pins σ Q) X.xe s
section
variable{X:Cx}{a b:Expr}{ta tb:TE}{pos:Pos}
theorem J1{r:R2}(hr:MU X r)(ha:PE X a ta)(hb:PE X b tb)(hs:vk b):PE X (.Subscript a b pos) (MJ r ta tb):=by intro pins s σ H Q I h;exact Subscript_ (Lx ha hb I h λv u s2 x y H2 I2 rx ry q=>hr a b pins s2 σ H2 x y v u Q I2 rx ry q (hs _ _))
def LD(K:PySem.W.Frag):R2:=λx y H Q=>∃p xs i v,x=.ref p/\y=.int i/\Mz K H p xs/\MT xs i=some v/\Q v H
def LF(K:PySem.W.Frag):R2:=λx y H Q=>∃p xs i v,x=.ref p/\y=.int i/\MA K H p xs/\MT xs i=some v/\Q v H
def LG:R2:=λx y H Q=>∃z i c,x=.str z/\y=.int i/\z.length≤sizeLine/\MT z.cps.toList i=some c/\Q (.str ⟨#[c]⟩) H
theorem zP:MU X (LD X.K):=by
 intro value slice pins s σ H x y v u Q I rx ry h hs;obtain⟨p,xs,i,z,rfl,rfl,hq,he,q⟩:=h;cases rx;obtain⟨t,rfl⟩:=ry;obtain⟨its,r,pl,hz⟩:=I.list hq;obtain⟨j,h1,h2,h3,h4,h5⟩:=vj he;obtain⟨w,ew,rw'⟩:=r.get h2;have hl:=r.length;have hn:=qa;have Mx:EP X pins σ Q w s:=⟨z,H,I,rw',q⟩;by_cases h0:0≤i
 ·
  have hj:i.toNat=j:=by rw[seqIndex_of h0 h5]at h1;exact Option.some.inj h1
  exact item_listR pl.isList h0 (by omega) (by rw[hj];simpa using ew) Mx hs
 ·
  have hj:(i+(its.toArray.size:Int)).toNat=j:=by rw[seqIndex_neg (by omega) h4]at h1;rw[List.size_toArray,← hl];exact Option.some.inj h1
  exact subscriptTail_builtinR (x:=w) pl.isList.typeIs slot_list_getitem.lookup
   (wpAny_getItem_list_neg (Q:=λr s'=>r=w/\EP X pins σ Q r s') pl.isList (by omega) (by rw[List.size_toArray]<;>omega) (by omega) (by rw[hj];simpa using ew) ⟨rfl,Mx⟩) hs
theorem HH:MU X (LF X.K):=by
 intro value slice pins s σ H x y v u Q I rx ry h hs;obtain⟨p,xs,i,z,rfl,rfl,hq,he,q⟩:=h;cases rx;obtain⟨t,rfl⟩:=ry;obtain⟨its,r,pl,hz⟩:=I.tuple hq;obtain⟨j,h1,h2,h3,h4,h5⟩:=vj he;obtain⟨w,ew,rw'⟩:=r.get h2;have hl:=r.length;have hn:=qa;have Mx:EP X pins σ Q w s:=⟨z,H,I,rw',q⟩
 exact subscriptTail_builtinR (x:=w) pl.typeIs slot_tuple_getitem.lookup
  (getItem_tuple (j:=j) (Q:=λr s'=>r=w/\EP X pins σ Q r s') pl (by omega) (by omega) (by rw[List.size_toArray,← hl];exact h1) (by simpa using ew) ⟨rfl,Mx⟩) hs
theorem HI:MU X LG:=by
 intro value slice pins s σ H x y v u Q I rx ry h hs;obtain⟨z,i,c,rfl,rfl,hz,he,q⟩:=h;obtain⟨t,rfl⟩:=rx;obtain⟨t',rfl⟩:=ry;obtain⟨j,h1,h2,h3,h4,h5⟩:=vj he;have hl:z.cps.toList.length=z.length:=by simp[Str.length]
 rw[hl]at h1 h4 h5;have hn:=qa
 exact tail_any (typeIs_str s z t) slot_str_getitem.lookup (getItem_str (c:=c) (by
  have e1:decide (i < -(2^63:Int))=false:=decide_eq_false (by omega);have e2:decide (i≥2^63)=false:=decide_eq_false (by omega)
  rw[e1,e2,Bool.or_false]) (by rw[h1];simpa using h2) ⟨.str ⟨#[c]⟩,H,I.tok _,⟨_,rfl⟩,q⟩) hs
theorem yv(its:List Value)(n j:Nat)(u:Value):Obj.mapSeq (·.setIfInBounds j u) {cls:=.type "list",data:=.seq its.toArray n}={cls:=.type "list",data:=.seq (its.set j u).toArray n}:=by simp[Obj.mapSeq]
theorem Mt.lst{pins:List (Addr×Obj)}{σ:St}{H:Hp}{s:Shared}{p:Addr}{xs:List V}(I:Mt X pins σ H s)(h:H p=some (.lst xs)) :
  ∃(its:List Value)(n:Nat),cB xs its/\s.heap.get? p=some {cls:=.type "list",data:=.seq its.toArray n}/\xs.length≤sizeLine:=by
 obtain⟨z,its,n,r,e⟩:=I.hok p _ h;exact⟨its,n,r,e,z⟩
theorem Mt.lstUpd{pins:List (Addr×Obj)}{σ:St}{H:Hp}{s:Shared}{p:Addr}{xs ys:List V}{its its':List Value}{n n':Nat}{f:Obj->Obj}(I:Mt X pins σ H s)(h:H p=some (.lst xs))
  (ho:s.heap.get? p=some {cls:=.type "list",data:=.seq its.toArray n}) (hf:f {cls:=.type "list",data:=.seq its.toArray n}={cls:=.type "list",data:=.seq its'.toArray n' }) (r:cB ys its') (hz:ys.length≤sizeLine) (t:Nat) :
  Mt X pins σ (Ml H p (.lst ys)) {s with heap:=s.heap.update p f,toks:=t}:=by
 have e:(s.heap.update p f).get? p=some {cls:=.type "list",data:=.seq its'.toArray n' }:=by rw[Heap.get?_update_self f ho (by rw[hf]<;>rfl),hf]
 refine I.write (x:=p) (e:=p) (by rw[h];trivial) (.inl rfl) (λb u hb q=>(Heap.get?_update_other _ _ (Ne.symm hb)).trans q) ⟨_,e⟩ ?_;exact⟨hz,its',n',r,e⟩
def J2:V->V->V->Hp->(Hp->Prop)->Prop:=λo i v H Q=>∃p xs k j,o=.ref p/\i=.int k/\H p=some (.lst xs)/\MS xs.length k=some j/\Q (Ml H p (.lst (xs.set j v)))
theorem Ck:KW X J2:=by
 intro pins s σ H o i v ov iv u Q I ro ri rv h;obtain⟨p,xs,k,j,rfl,rfl,hp,hj,q⟩:=h;cases ro;obtain⟨t,rfl⟩:=ri;obtain⟨its,n,r,ho,hz⟩:=I.lst hp;obtain⟨h1,h2,h3,h4⟩:=zO hj;have hl:=r.length;have hn:=qa
 have I':Mt X pins σ (Ml H p (.lst (xs.set j v))) {s with heap:=s.heap.update p (Obj.mapSeq (·.setIfInBounds j u)) } :=
  I.lstUpd hp ho (yv its n j u) (r.set rv j) (by rw[List.length_set];exact hz) s.toks
 by_cases h0:0≤k
 ·
  have hk:k.toNat=j:=by rw[seqIndex_of h0 h4]at h1;exact Option.some.inj h1
  exact PySem.W.ki_setAt ho h0 (by omega) (by rw[List.size_toArray,← hl];exact h4) (by rw[hk];exact⟨_,I',q⟩)
 ·
  have hk:(k+(its.toArray.size:Int)).toNat=j:=by rw[seqIndex_neg (by omega) h3]at h1;rw[List.size_toArray,← hl];exact Option.some.inj h1
  exact PySem.W.ki_setBack ho (by omega) (by rw[List.size_toArray,← hl];exact h3) (by omega) (by rw[hk];exact⟨_,I',q⟩)
theorem sV(lo hi:Option Int)(n:Nat):(sliceBounds lo hi none n).1=((HT.sIx n 0 lo:Nat):Int)/\(sliceBounds lo hi none n).2.1=((HT.sIx n n hi:Nat):Int)/\(sliceBounds lo hi none n).2.2=1:=by
 refine⟨?_,?_,rfl⟩
 ·
  cases lo with
  |none=>simp[sliceBounds,HT.sIx]
  | some i =>
   simp only[sliceBounds,HT.sIx,Option.getD_none,show(1:Int) > 0 by decide,if_true];by_cases h:i<0
   · simp only[h,if_true]<;>omega
   · simp only[h,if_false]<;>omega
 ·
  cases hi with
  |none=>simp[sliceBounds,HT.sIx]
  | some i =>
   simp only[sliceBounds,HT.sIx,Option.getD_none,show(1:Int) > 0 by decide,if_true];by_cases h:i<0
   · simp only[h,if_true]<;>omega
   · simp only[h,if_false]<;>omega
theorem qH(its:List Value)(lo hi:Option Int):slicePick its.toArray lo hi none=((its.drop (HT.sIx its.length 0 lo)).take (HT.sIx its.length its.length hi-HT.sIx its.length 0 lo)).toArray:=by obtain⟨h1,h2,h3⟩:=sV lo hi its.toArray.size;unfold slicePick;rw[h1,h2,h3];simp only[sliceRange_one,pick_run,List.size_toArray]<;>rfl
def LH(K:PySem.W.Frag):V->Option Int->Option Int->Hp->VK->Prop:=λx lo hi H Q=>∃a xs,x=.ref a/\Mz K H a xs/\∀p,H p=none->Q (.ref p) (Ml H p (.lst (D1 xs lo hi)))
theorem Fd:MQ X (LH X.K):=by intro pins s σ H x v vl vu lo hi sl Q I rx hs pl pu h;obtain⟨a,xs,rfl,hx,q⟩:=h;cases rx;obtain⟨its,r,ht,hz⟩:=I.list hx;have hlen:=r.length;refine⟨"list",_,slot_list_getitem.lookup,ht.isList.typeIs,?_⟩;refine wpAny_getItem_list_slice ht.isList hs pl pu .none (by simp) ?_ (by rw[List.size_toArray]<;>omega);rw[qH,← hlen];refine⟨.ref s.heap.objs.size,_,I.laid (t':=s.toks) (o:=.lst (D1 xs lo hi)) (λb ob q=>Heap.get?_push_of_some _ q) (Nat.le_refl _) ?_,rfl,q _ (I.hok.fresh (Nat.le_refl _))⟩;exact⟨Nat.le_trans (oy xs lo hi) hz,_,0,(r.drop (HT.sIx xs.length 0 lo)).take (HT.sIx xs.length xs.length hi-HT.sIx xs.length 0 lo),Heap.get?_push_size _ rfl⟩
noncomputable def pN:V->Bool
 |.non=>true
 |.bl _=>true
 |.int _=>true
 |.str _=>true
 |_=>false
noncomputable def MW:V->V->Bool
 |.non,.non=>true
 |.bl a,.bl b=>a == b
 |.bl a,.int b=>(if a then 1 else 0) == b
 |.int a,.bl b=>a == (if b then 1 else 0)
 |.int a,.int b=>a == b
 |.str a,.str b=>a == b
 |_,_=>false
theorem HJ{A:Around}{s:Shared}{y x:V}{u v:Value}(ry:cq y u)(rx:cq x v)(fy:pN y=true)(fx:pN x=true):SeqAt.EqAt A s u v (MW y x):=by
 cases y with
 | non =>
  cases ry
  cases x with
  |non=>cases rx;exact SeqAt.EqAt.same _
  |bl b=>cases rx;exact SeqAt.EqAt.none_bool b
  |int b=>obtain⟨t,rfl⟩:=rx;exact SeqAt.EqAt.none_int b t
  |str b=>obtain⟨t,rfl⟩:=rx;exact SeqAt.EqAt.none_str b t
  |_=>exact absurd (show false=true from fx) Bool.false_ne_true
 | bl a =>
  cases ry
  cases x with
  |non=>cases rx;exact SeqAt.EqAt.bool_none a
  |bl b=>cases rx;exact SeqAt.EqAt.bool_bool a b
  |int b=>obtain⟨t,rfl⟩:=rx;exact SeqAt.EqAt.bool_int a b t
  |str b=>obtain⟨t,rfl⟩:=rx;exact SeqAt.EqAt.bool_str a b t
  |_=>exact absurd (show false=true from fx) Bool.false_ne_true
 | int a =>
  obtain⟨t',rfl⟩:=ry
  cases x with
  |non=>cases rx;exact SeqAt.EqAt.int_none a t'
  |bl b=>cases rx;exact SeqAt.EqAt.int_bool a t' b
  |int b=>obtain⟨t,rfl⟩:=rx;exact SeqAt.EqAt.int_int a t' b t
  |str b=>obtain⟨t,rfl⟩:=rx;exact SeqAt.EqAt.int_str a t' b t
  |_=>exact absurd (show false=true from fx) Bool.false_ne_true
 | str a =>
  obtain⟨t',rfl⟩:=ry
  cases x with
  |non=>cases rx;exact SeqAt.EqAt.str_none a t'
  |bl b=>cases rx;exact SeqAt.EqAt.str_bool a t' b
  |int b=>obtain⟨t,rfl⟩:=rx;exact SeqAt.EqAt.str_int a t' b t
  |str b=>obtain⟨t,rfl⟩:=rx;exact SeqAt.EqAt.str_str a t' b t
  |_=>exact absurd (show false=true from fx) Bool.false_ne_true
 |_=>exact absurd (show false=true from fy) Bool.false_ne_true
noncomputable def MX(x:V)(u:Value):Bool:=match u with
 |.none=>MW .non x
 |.bool b=>MW (.bl b) x
 |.int i _=>MW (.int i) x
 |.str z _=>MW (.str z) x
 |_=>false
theorem D2{x y:V}{u:Value}(r:cq y u)(f:pN y=true):MX x u=MW y x:=by
 cases y with
 |non=>cases r;rfl
 |bl b=>cases r;rfl
 |int i=>obtain⟨t,rfl⟩:=r;rfl
 |str z=>obtain⟨t,rfl⟩:=r;rfl
 |_=>exact absurd (show false=true from f) Bool.false_ne_true
theorem oz{x:V}:∀{xs:List V}{us:List Value},cB xs us->xs.all pN=true->us.any (MX x)=xs.any λy=>MW y x
 |_,_,.nil,_=>rfl
 | y::xs,u::us,.cons r t,f=>by rw[List.all_cons,Bool.and_eq_true]at f;rw[List.any_cons,List.any_cons,D2 r f.1,oz t f.2]
theorem k8{A:Around}{s:Shared}{x:V}{v:Value}(rx:cq x v)(fx:pN x=true):∀{xs:List V}{us:List Value},cB xs us->xs.all pN=true->∀u∈us,SeqAt.EqAt A s u v (MX x u)
 |_,_,.nil,_=>λu hu=>by cases hu
 | y::xs,u::us,.cons r t,f=>λu' hu=>by
  rw[List.all_cons,Bool.and_eq_true]at f;rcases List.mem_cons.mp hu with rfl|hu
  · rw[D2 r f.1];exact HJ r rx f.1 fx
  · exact k8 rx fx t f.2 u' hu
noncomputable def MY(x:V)(xs:List V):Bool:=xs.any λy=>MW y x
def MZ(K:PySem.W.Frag)(neg:Bool):R2:=λx y H Q=>∃p xs,y=.ref p/\(Mz K H p xs∨MA K H p xs)/\pN x=true/\xs.all pN=true/\Q (.bl (if neg then !MY x xs else MY x xs)) H
theorem zQ:MH X (compareOp .In) (MZ X.K false):=by
 intro pins s σ H x y v u Q I rx ry h;obtain⟨p,xs,rfl,hq,fx,fs,q⟩:=h;cases ry;rcases hq with hq|hq
 · obtain⟨its,r,pl,hz⟩:=I.list hq;refine SeqAt.in_listAt (MX x) pl.isList (λw hw=>k8 rx fx r fs w (by simpa using hw)) ⟨.bl _,H,I,rfl,?_⟩;rw[show its.toArray.any (MX x)=its.any (MX x) by simp,oz r fs];exact q
 · obtain⟨its,r,pl,hz⟩:=I.tuple hq;refine SeqAt.in_tupleAt (MX x) pl (λw hw=>k8 rx fx r fs w (by simpa using hw)) ⟨.bl _,H,I,rfl,?_⟩;rw[show its.toArray.any (MX x)=its.any (MX x) by simp,oz r fs];exact q
theorem sW:MH X (compareOp .NotIn) (MZ X.K true):=by
 intro pins s σ H x y v u Q I rx ry h;obtain⟨p,xs,rfl,hq,fx,fs,q⟩:=h;cases ry;rcases hq with hq|hq
 · obtain⟨its,r,pl,hz⟩:=I.list hq;refine SeqAt.notIn_listAt (MX x) pl.isList (λw hw=>k8 rx fx r fs w (by simpa using hw)) ⟨.bl _,H,I,rfl,?_⟩;rw[show its.toArray.any (MX x)=its.any (MX x) by simp,oz r fs];exact q
 · obtain⟨its,r,pl,hz⟩:=I.tuple hq;refine SeqAt.notIn_tupleAt (MX x) pl (λw hw=>k8 rx fx r fs w (by simpa using hw)) ⟨.bl _,H,I,rfl,?_⟩;rw[show its.toArray.any (MX x)=its.any (MX x) by simp,oz r fs];exact q
theorem m6:iC X (.builtin "len") (λxs H Q=>∃ p ys,xs=[.ref p]/\(Mz X.K H p ys∨MA X.K H p ys)/\Q (.int ys.length) H):=by
 intro pins s σ H xs us Q I r h;obtain⟨p,ys,rfl,hq,q⟩:=h;obtain⟨u,rfl,rx⟩:=qG r;cases rx;have hn:=qa;rcases hq with hq|hq
 · obtain⟨its,r',pl,hz⟩:=I.list hq;have hlen:=r'.length;exact Calls.call_len_list pl.isList (by simp only[List.size_toArray]<;>omega) ⟨.int ys.length,H,I.tok _,⟨s.toks+1,by rw[List.size_toArray,hlen]⟩,q⟩
 · obtain⟨its,r',pl,hz⟩:=I.tuple hq;have hlen:=r'.length;exact len_tuple pl (by simp only[List.size_toArray]<;>omega) ⟨.int ys.length,H,I.tok _,⟨s.toks+1,by rw[List.size_toArray,hlen]⟩,q⟩
theorem sX:iC X (.builtin "len") (λxs H Q=>∃ z,xs=[.str z]/\z.length≤sizeLine/\Q (.int z.length) H):=by intro pins s σ H xs us Q I r h;obtain⟨z,rfl,hz,q⟩:=h;obtain⟨u,rfl,t,rfl⟩:=qG r;have hn:=qa;exact len_str (by omega) ⟨.int z.length,H,I.tok _,⟨_,rfl⟩,q⟩
theorem iC.or{f:Value}{r r':List V->Hp->VK->Prop}(h:iC X f r)(h':iC X f r'):iC X f (λxs H Q=>r xs H Q∨r' xs H Q):=by
 intro pins s σ H xs us Q I rs q;rcases q with q|q
 · exact h pins s σ H xs us Q I rs q
 · exact h' pins s σ H xs us Q I rs q
theorem sY:iC X (.type "list") (λxs H Q=>∃ p ys,xs=[.ref p]/\(Mz X.K H p ys∨MA X.K H p ys)/\∀ l,H l=none->Q (.ref l) (Ml H l (.lst ys))):=by
 intro pins s σ H xs us Q I r h;obtain⟨p,ys,rfl,hq,q⟩:=h;obtain⟨u,rfl,rx⟩:=qG r;cases rx
 have Mx:∀(its:List Value),cB ys its->ys.length≤sizeLine->∀(h':Heap)(c':Nat),(∀b o',s.heap.get? b=some o'->h'.get? b=some o') ->
   h'.get? s.heap.objs.size=some {cls:=.type "list",dict:=none,data:=.seq its.toArray c',slots:=#[] }->EP X pins σ Q (.ref s.heap.objs.size) {s with heap:=h' }:=λits r' hz h' c' kp e =>
  ⟨.ref s.heap.objs.size,_,I.laid (t':=s.toks) kp (Nat.le_refl _) (show c8 X.prog X.w _ h' _ (.lst ys)from⟨hz,its,c',r',e⟩),rfl,q _ (I.hok.fresh (Nat.le_refl _))⟩
 rcases hq with hq|hq
 · obtain⟨its,r',pl,hz⟩:=I.list hq;have hlen:=r'.length;obtain⟨o,ho,hc,n,hd⟩:=pl.isList;exact call_list_seq p (.inl rfl) ho hc hd (λh' c' kp e=>Mx its r' hz h' c' kp e) (by simp only[List.size_toArray]<;>omega)
 · obtain⟨its,r',pl,hz⟩:=I.tuple hq;have hlen:=r'.length;obtain⟨o,ho,hc,n,hd⟩:=pl;exact call_list_seq p (.inr rfl) ho hc hd (λh' c' kp e=>Mx its r' hz h' c' kp e) (by simp only[List.size_toArray]<;>omega)
theorem qI:iC X (.type "tuple") (λxs H Q=>∃ p ys,xs=[.ref p]/\((Mz X.K H p ys/\∀ l,H l=none->Q (.ref l) (Ml H l (.tup ys)))∨(MA X.K H p ys/\Q (.ref p) H))):=by
 intro pins s σ H xs us Q I r h;obtain⟨p,ys,rfl,h⟩:=h;obtain⟨u,rfl,rx⟩:=qG r;cases rx;rcases h with⟨hq,q⟩|⟨hq,q⟩
 ·
  obtain⟨its,r',pl,hz⟩:=I.list hq;have hlen:=r'.length;refine call_tuple_list pl.isList (λh' kp=>?_) (by simp only[List.size_toArray]<;>omega);have I1:Mt X pins σ H {s with heap:=h' }:=I.kept (t':=s.toks) kp
  have I2:Mt X pins σ (Ml H h'.objs.size (.tup ys)) {s with heap:=h'.push {cls:=.type "tuple",data:=.seq its.toArray} } :=
   I1.laid (t':=s.toks) (λb o e=>Heap.get?_push_of_some _ e) (Nat.le_refl _) (show c8 X.prog X.w _ _ _ (.tup ys)from⟨hz,its,r',IsTup.new _ _⟩)
  exact⟨.ref h'.objs.size,_,I2,rfl,q _ (I1.hok.fresh (Nat.le_refl _))⟩
 · obtain⟨its,r',pl,hz⟩:=I.tuple hq;exact call_tuple_same pl ⟨.ref p,H,I,rfl,q⟩
def M0(K:PySem.W.Frag)(T:String)(x:V)(H:Hp):Prop:=match x with
 |.str _=>T="str"
 |.int _=>T="int"
 | .ref p=>(T="list"/\∃ xs,Mz K H p xs)∨(T="tuple"/\∃ o,K.lookup p=some o/\o.cls=.type "tuple"/\o.dict=none) ∨
   (T="dict"/\((∃ kvs,H p=some (.dK kvs))∨∃ kvs,H p=some (.dT kvs)))∨(T="set"/\∃ S n,H p=some (.set S n))
 |_=>False
theorem HK{pins:List (Addr×Obj)}{σ:St}{H:Hp}{s:Shared}{T:String}{x:V}{v:Value}(I:Mt X pins σ H s)(r:cq x v)(ty:M0 X.K T x H) :
  s.TypeIs v T/\∀a,v=.ref a->∃ob,s.heap.get? a=some ob/\ob.dict=none:=by
 cases x with
 | str z =>
  obtain⟨t,rfl⟩:=r;cases(show T="str" from ty);exact⟨typeIs_str s z t,λ_ e=>nomatch e⟩
 | int i =>
  obtain⟨t,rfl⟩:=r;cases(show T="int" from ty);exact⟨typeIs_int s i t,λ_ e=>nomatch e⟩
 | ref p =>
  cases r;rcases ty with⟨rfl,xs,hq⟩|⟨rfl,o,hk,hc,hd⟩|⟨rfl,hk⟩|⟨rfl,S,n,hk⟩
  · obtain⟨its,_,pl,_⟩:=I.list hq;refine⟨pl.isList.typeIs,λa e=>?_⟩;cases e;obtain⟨o,n,e,c,hd,_⟩:=pl;exact⟨o,e,hd⟩
  · refine⟨⟨o,I.kIn p o hk,hc⟩,λa e=>?_⟩;cases e;exact⟨o,I.kIn _ o hk,hd⟩
  ·
   have z:∃o,s.heap.get? p=some o/\o.ExactDict:=by
    rcases hk with⟨kvs,hk⟩|⟨kvs,hk⟩
    · obtain⟨_,_,_,_,o,_,_,e,ex,_⟩:=I.hok p _ hk;exact⟨o,e,ex⟩
    · obtain⟨_,_,_,_,o,_,_,e,ex,_⟩:=I.hok p _ hk;exact⟨o,e,ex⟩
   obtain⟨o,e,ex⟩:=z;refine⟨⟨o,e,ex.1⟩,λa e2=>?_⟩;cases e2;exact⟨o,e,ex.2.1⟩
  · obtain⟨o,_,_,_,e,ex,_⟩:=I.hok p _ hk;refine⟨⟨o,e,ex.1⟩,λa e2=>?_⟩;cases e2;exact⟨o,e,ex.2.1⟩
 |_=>exact False.elim ty
def M1(K:PySem.W.Frag)(T:String)(r:V->List V->Hp->VK->Prop)(to:TE)(t:TA):TE:=λσ H Q=>to σ H λx H1=>M0 K T x H1/\t σ H1 λxs H2=>r x xs H2 Q
variable{o e:Expr}{es:List Expr}{to:TE}{t:TA}{name:Str}{apos cpos:Pos}{T id:String}{r:V->List V->Hp->VK->Prop}
theorem HL(pa:PlainAttrs T)(slot:Slot T name id) (hty:typeOf (.builtin id)=pure (.type "method_descriptor")) (hm:MV X id r) (ho:PE X o to) (ha:PA X (e::es) t)
  (hbase:attributeBase o name X.env (eval o X.env)=eval o X.env:=by rfl)
  (hfew:((backTo cpos (starEach (e::es) X.env)).all (λx=>!x.1) && (backToKw cpos (keywordEach [] X.env)).all (λx=>x.1.isSome)
   && decide ((e::es).length+([]:List Keyword).length+(if([]:List Keyword).isEmpty then 0 else 1)<30))=true:=by rfl)
  (hline:(apos.endLine == cpos.line)=true:=by rfl) (hs:starEach (e::es) X.env=(false,eval e X.env)::starEach es X.env:=by rfl) (hplain:(backTo cpos (starEach es X.env)).any (·.1)=false:=by rfl) :
  PE X (.Call (.Attribute o name apos) (e::es) [] cpos) (M1 X.K T r to t):=by
 intro pins s σ H Q I h;refine wpAny_Call_method_late hbase hfew hline rfl (Mv (ho pins s σ H _ I h) λv s1 ⟨x,H1,I1,r1,ty,q1⟩=>?_);obtain⟨h1,h2⟩:=HK I1 r1 ty;refine⟨T,id,pa,slot,hty,h1,h2,?_⟩;have hA:=ha cpos pins s1 σ H1 _ I1 q1;rw[hs]at hA ⊢;refine Calls.callWith_builtin (by show(false ||(backTo cpos (starEach es X.env)).any (·.1))=false;rw[hplain]<;>rfl) (Calls.evalArgs_plain ?_);exact Mv hA λus s2 ⟨vs,H2,I2,r2,q2⟩=>hm pins s2 σ H2 x vs v us Q I2 r1 r2 q2
/- xs.append(e),list.index on a module's tuple .. are MV facts of 06m -/
end
def M3(X:Cx)(id:String)(r:V->List V->Hp->VK->Prop):Prop :=
 ∀(pins:List (Addr×Obj))(s:Shared)(σ:St)(H:Hp)(x:V)(xs:List V)(v:Value)(us:List Value)(Q:VK),Mt X pins σ H s->cq x v->cB xs us->r x xs H Q ->
  wpAny (model X.prog X.w) X.A (call (.builtin id) (v::us)) (EP X pins σ Q) X.xe s
theorem cB.one:∀{x:V}{us:List Value},cB [x] us->∃u,us=[u]/\cq x u
 |_,_,.cons r .nil=>⟨_,rfl,r⟩
section
variable{X:Cx}{pins:List (Addr×Obj)}{σ:St}{H:Hp}{s:Shared}{l:Addr}{xs ys:List V}
theorem Mt.lset{its its':List Value}{n:Nat}{f:Array Value->Array Value}{t':Nat}(I:Mt X pins σ H s)(hH:H l=some (.lst xs))
  (e:s.heap.get? l=some {cls:=.type "list",data:=.seq its.toArray n}) (hf:f its.toArray=its'.toArray) (hv:cB ys its') (hz:ys.length≤sizeLine) :
  Mt X pins σ (Ml H l (.lst ys)) {s with heap:=s.heap.update l (Obj.mapSeq f),toks:=t' }:=by
 have q:=PySem.IsL.update e f;rw[hf]at q;refine I.write (x:=l) (e:=l) (by rw[hH];exact trivial) (.inl rfl) (λb' u hb hu=>(Heap.get?_update_other s.heap (Obj.mapSeq f) (Ne.symm hb)).trans hu) ⟨_,q⟩ ?_;exact⟨hz,its',_,hv,q⟩
theorem Mt.lnew{its:List Value}{t':Nat}(I:Mt X pins σ H s)(hv:cB ys its)(hz:ys.length≤sizeLine) :
  Mt X pins σ (Ml H s.heap.objs.size (.lst ys)) {s with heap:=s.heap.push {cls:=.type "list",data:=.seq its.toArray},toks:=t' } :=
 I.laid (λ_ _ q=>Heap.get?_push_of_some _ q) (Nat.le_refl _) ⟨hz,its,0,hv,Heap.get?_push_size _ rfl⟩
theorem Mt.fresh(I:Mt X pins σ H s):H s.heap.objs.size=none:=I.hok.fresh (Nat.le_refl _)
theorem Mt.lstM(I:Mt X pins σ H s)(hH:H l=some (.lst xs)):xs.length≤sizeLine/\∃(its:List Value)(n:Nat),cB xs its/\xs.length=its.length/\s.heap.get? l=some {cls:=.type "list",data:=.seq its.toArray n}:=by obtain⟨z,its,n,r,e⟩:=I.hok l _ hH;exact⟨z,its,n,r,r.length,e⟩
end
section
variable{X:Cx}
def Fe:V->List V->Hp->VK->Prop:=λx vs H Q=>∃l xs y,x=.ref l/\vs=[y]/\H l=some (.lst xs)/\xs.length<sizeLine/\Q .non (Ml H l (.lst (xs++[y])))
theorem td:M3 X "list.append" Fe:=by intro pins s σ H x vs v us Q I rx rv h;obtain⟨l,xs,y,rfl,rfl,hH,hz,q⟩:=h;cases rx;obtain⟨u,rfl,ru⟩:=rv.one;obtain⟨z,its,n,r,hl,e⟩:=I.lstM hH;refine call_meets F.slot_list_append ⟨_,e,rfl⟩ F.entry_list_append (F.args_list_append_2 _ _) (PySem.list_append l its.toArray n u (by rw[List.size_toArray];omega)) ⟨e,?_⟩;refine⟨.non,_,I.lset (its':=its++[u]) hH e (by simp) (r.append (.cons ru .nil)) ?_,rfl,q⟩;rw[List.length_append,List.length_singleton];omega
end
end L2
namespace Att
open PySem PySem.W PySem.Calls PyProof.Rows
theorem oA{P:Params}{h:Heap}:∀(ns:List Int)(vs:List Value),WellAll P h vs (ns.map WData.int)->IntsAre vs ns:=by
 intro ns
 induction ns with
 | nil =>
  intro vs w;rw[List.map_nil]at w;cases w;exact .nil
 | cons n ns ih =>
  intro vs w;rw[List.map_cons]at w
  cases w with
  | cons a b =>
   cases a;exact .cons _ _ (ih _ b)
theorem zR{l:OpenLaw}{n:Nat}(hn:l.most=some n){P:Params}{h:Heap}{args:List WData}{vals:List Value}
  (hpre:l.row.toRowW.claim.pre args=true) (hwl:WellAll P h vals args) :
  ∃ a vs ns,vals=[Value.ref a]/\args=[WData.list (ns.map WData.int)]/\h.get? a=some {cls:=.type "list",data:=.seq vs.toArray}/\IntsAre vs ns/\ns.length≤n:=by
 have hsh:WShape.hasAll [] args [.list .int]=true:=(pre_splitW hpre).1;have hc:l.pre.holds [] {args:=args}=true:=(pre_splitW hpre).2;obtain⟨d,r,rfl,h1,h2⟩:=hasAllW_cons hsh;obtain rfl:=hasAllW_nil h2;obtain⟨xs,rfl,h3⟩:=hasW_list h1;obtain⟨ns,rfl⟩:=items_int h3
 have hlen:ns.length≤n:=by
  unfold OpenLaw.pre at hc;have h4:(WTm.not (.lt (.lit (.int (n:Int))) (.len (.arg 0)))).holds [] {args:=[.list (ns.map .int)] }=true:=by have h4:=(holds_andW hc).1;rw[hn]at h4;exact h4
  have h5:=condW_of h4 (w_not (w_lt w_lit (w_len_list (w_arg rfl))));rw[List.length_map]at h5;refine Nat.le_of_not_lt λq=>?_;have q':(n:Int)<((ns.length:Nat):Int):=by omega
  first
   |(rw[decide_eq_true q']at h5;exact absurd h5 (by decide))
   |(simp at h5;omega)
 cases hwl with
 | cons w1 w2 =>
  cases w2
  cases w1 with
  |list ho hall=>exact⟨_,_,ns,rfl,rfl,ho,oA ns _ hall,hlen⟩
theorem zS(l:OpenLaw)(args:List WData):l.row.toRowW.claim.post args (.bool true) args=true :=
 postW_of (r:=l.row.toRowW) (X:=(true == true))
  (show WShape.has [] (.bool true) .bool=true by first|rfl|decide|simp[WShape.has,WShape.arms,WShape.armsAll])
  (show(WTm.eq .res (.lit (.bool true))).value [] {args:=args,res:=some (.bool true),after:=args}=some (.bool (true == true))from w_eq_bool (w_res rfl) w_lit) rfl
theorem attach_call{l:OpenLaw}{n:Nat}{q:Program}{loose:List Str}{XP:(Str->Option Value)->Heap->Prop}{YP:World->Heap->Prop}{d:DefRec}
  (hn:l.most=some n) (hdf:d.params.defaults=[])
  (call:∀(w:World)(s₀ s₁:Shared)(mg mb:Str->Option Value)(fa:Addr)(o:Obj)(pm cd doc:Value)(a:Addr)(vs:List Value)(ns:List Int),
   Ground q loose [] XP w s₀ mg mb s₁.heap->YP w s₁.heap ->
   s₁.heap.get? fa=some o->o.data=.func (docDef d.name d.params d.body d.scope pm cd doc)->s₁.heap.CodeRec cd d.name->mg d.name=some (.ref fa) ->
   s₁.heap.get? a=some {cls:=.type "list",data:=.seq vs.toArray}->IntsAre vs ns->ns.length≤n->s₁.gens=#[] ->
   codeAny (model l.prog w) callerA (.call (.ref fa) ⟨[.ref a],[]⟩) (λr s'=>r=.ok (.ret (.bool true))/\OldK s₁.heap s'.heap/\s'.os=s₁.os/\AllBare s'.gens) s₁) :
  WalkO q loose XP YP l.row.toRowW d [] (λf vs=>PySem.call f vs):=by
 intro w s₀ s₁ mg mb G Y fa o pm cd doc dV kV ho hd hcd hD hmg hg args vals as hpre hlay hrd hwl hlo;obtain rfl:dV=.none:=Dflts.none hD hdf;obtain rfl:kV=.none:=Dflts.noKw hD;obtain⟨a,vs,ns,rfl,rfl,hobj,hints,hlen⟩:=zR hn hpre hwl;refine enter_call (codeAny_mono (call w s₀ s₁ mg mb fa o pm cd doc a vs ns G Y ho (fd_plain hd) hcd hmg hobj hints hlen hg) λr s' hq=>?_);obtain⟨rfl,h2,h3,h4⟩:=hq;exact⟨.inl ⟨.bool true,.bool true,[],rfl,λ_=>rfl,.bool true,zS l _,λ_=>⟨List.Pairwise.nil,λ_ hm=>(nomatch hm)⟩⟩,h2,h3,h4⟩
section
noncomputable def K0(h:Heap)(L d:Addr):List (Addr×Obj):=(List.range h.objs.size).filterMap λa=>if a=L∨a=d then none else(h.get? a).map λo=>(a,o)
end
end Att
namespace L2
open PySem PySem.Spec PyProof.Rows
theorem tj:∀{vs:List Value}{ns:List Int},IntsAre vs ns->cB (ns.map V.int) vs
 |_,_,.nil=>.nil
 |_,_,.cons n t h=>.cons ⟨t,rfl⟩ (tj h)
def JF(H:Hp):Prop:=∀b,H b=none∨(∃o xs,H b=some (.frz o (.lst xs)))∨∃q,H b=some (.tbl q)
noncomputable def dN(K:PySem.W.Frag):List (Addr×Str):=lamNames.filterMap λx=>(PySem.W.tabIn K x).map λp=>(p.2,Hi x)
noncomputable def tabsOk(K:PySem.W.Frag):Bool:=decide ((dN K).map (·.1)).Nodup && (dN K).all λp=>(K.lookup p.1).isNone
theorem zT{K:PySem.W.Frag}{P:Addr}{q:Str}(h:(P,q)∈dN K):∃x∈lamNames,∃c,PySem.W.tabIn K x=some (c,P)/\q=Hi x:=by
 obtain⟨x,hx,e⟩:=List.mem_filterMap.mp h
 cases z:PySem.W.tabIn K x with
 |none=>rw[z]at e;cases e
 |some p=>rw[z]at e;cases e;exact⟨x,hx,p.1,z,rfl⟩
theorem jR{α β:Type}[BEq α][LawfulBEq α]:∀{l:List (α×β)}{a:α}{b:β},l.lookup a=some b->(a,b)∈l
 |[],_,_,h=>nomatch h
 | (x,y)::r,a,b,h=>by
  rw[List.lookup_cons]at h
  cases hb:a == x with
  |true=>rw[hb]at h;cases h;rw[eq_of_beq hb];exact .head _
  |false=>rw[hb]at h;exact .tail _ (jR h)
theorem iK{α β:Type}[BEq α][LawfulBEq α]:∀{l:List (α×β)}{a:α}{b:β},(l.map (·.1)).Nodup->(a,b)∈l->l.lookup a=some b
 |[],_,_,_,h=>nomatch h
 | (x,y)::r,a,b,nd,h=>by
  rw[List.map_cons,List.nodup_cons]at nd;rw[List.lookup_cons];rcases List.mem_cons.mp h with e|h
  · cases e;simp
  · have:a≠x:=λz=>nd.1 (z ▸ List.mem_map_of_mem (f:=(·.1)) h);rw[show(a == x)=false from beq_false_of_ne this];exact iK nd.2 h
theorem yw{K:PySem.W.Frag}{x:Str}{c P:Addr}(h:PySem.W.tabIn K x=some (c,P)):K.lookup c≠none:=by
 unfold PySem.W.tabIn at h;split at h
 ·
  split at h
  ·
   split at h
   ·
    split at h
    ·
     rename_i hco;split at h
     · cases h;intro z;rw[hco]at z;cases z
     · cases h
    · cases h
   · cases h
  · cases h
 · cases h
theorem Cm{P:Program}{w:World}{K:PySem.W.Frag}{mg mb:Str->Option Value}{CX:MO}{k:Nat}{fa a:Addr}{fd:FuncData}{x:Str}{sp:Sp}{s₁:Shared}{vs:List Value}{ns:List Int}
  (KX:K.In s₁.heap) (hns:s₁.heap.Ns mainGlobals mg) (hb:s₁.heap.Ns builtinsNs mb) (hbb:∀ x:Str,x≠"__name__"->mb x=bootBuiltins x) (hlim:s₁.heap.NoLimit) (hsys:∃ mm,s₁.heap.Ns sysModules mm) (hbm:Hh mg s₁.heap) (hto:tabsOk K=true)
  (htb:∀x∈lamNames,∀c P,PySem.W.tabIn K x=some (c,P)->PySem.W.CodeHd s₁.heap c P/\s₁.heap.get? P=some (PySem.W.tabObj #[])) (hg:s₁.gens=#[])
  (ha:s₁.heap.get? a=some {cls:=.type "list",data:=.seq vs.toArray}) (hi:IntsAre vs ns) (hl:ns.length≤sizeLine) (hr:iI k callerA)
  (F:∀base:Heap,K.In base->base.Ns mainGlobals mg->FnOk P w K mg base CX k fa fd [x] sp) (hbind:∀(s:Shared)(u:Value),BindsTo s fd ⟨[u],[]⟩ [(x,u)])
  (hsp:∀H:Hp,JF H->Mz K H a (ns.map V.int)->sp [.ref a] H (λv _=>v=.bl true) λ_ _ _=>False)
  (hCX:∀H e s',CX [] H s₁ (λ_ _ _=>False) e s'->False) :
  codeAny (model P w) callerA (.call (.ref fa) ⟨[.ref a],[]⟩) (λr s'=>r=.ok (.ret (.bool true))/\OldK s₁.heap s'.heap/\s'.os=s₁.os/\AllBare s'.gens) s₁:=by
 have rv:=tj hi;have lenV:=hi.length;obtain⟨nd,kn⟩:=Bool.and_eq_true_iff.mp hto;have nd:=of_decide_eq_true nd;have tabAt:∀{b:Addr}{q:Str},(dN K).lookup b=some q->PySem.isCodeTable s₁.heap b/\s₁.heap.get? b=some (PySem.W.tabObj #[])/\K.lookup b=none:=λ{b q} e=>by have hm:(b,q)∈dN K:=jR e;obtain⟨x,hx,c,e1,_⟩:=zT hm;obtain⟨h1,h2⟩:=htb x hx c b e1;refine⟨(h1.tab h2).isCodeTable,h2,?_⟩;have:=List.all_eq_true.mp kn (b,q) hm;simpa using this
 have core:∀H:Hp,JF H->Mz K H a (ns.map V.int)->Mm P w H s₁.heap->(∀b,H b≠none->b=a∨∃q,H b=some (.tbl q)/\(dN K).lookup b=some q)->(∀b,H b≠none->K.lookup b=none)->Mp K H ->
   codeAny (model P w) callerA (.call (.ref fa) ⟨[.ref a],[]⟩) (λr s'=>r=.ok (.ret (.bool true))/\OldK s₁.heap s'.heap/\s'.os=s₁.os/\AllBare s'.gens) s₁:=by
  intro H hO hS hok hA hK hT;have base_of:∀{b:Addr}{o:Obj},s₁.heap.get? b=some o->H b=none->(B9 s₁.heap H).get? b=some o:=λe n=>Ca e n
  have noB:∀{b:Addr}{o:Obj},s₁.heap.get? b=some o->(∀us n,o.data≠.seq us n)->(∀us,o.data≠.fields us)->H b=none:=λ{b o} e d1 d2=>by
   cases q:H b with
   |none=>rfl
   | some u =>
    rcases hA b (by rw[q];simp)with e' | ⟨z,_,e'⟩
    · subst e';rw[ha]at e;cases e;exact absurd rfl (d1 _ _)
    · rw[(tabAt e').2.1]at e;cases e;exact absurd rfl (d2 _)
  have noA:∀{b:Addr}{o:Obj}{es:Array DictEntry}{ep:Nat},s₁.heap.get? b=some o->o.data=.dict es ep->H b=none:=λ{b o es ep} e d =>
   noB e (λus n z=>by rw[d]at z;cases z) λus z=>by rw[d]at z;cases z
  have nsK:∀{b:Addr}{m:Str->Option Value},s₁.heap.Ns b m->(B9 s₁.heap H).Ns b m:=λ{b m} ⟨o,es,ep,e,d,r⟩=>⟨o,es,ep,base_of e (noA e d),d,r⟩
  have hKb:K.In (B9 s₁.heap H):=λb o e=>base_of (KX b o e) (by
   cases q:H b with
   |none=>rfl
   |some u=>rw[hK b (by rw[q];simp)]at e;cases e)
  have hM:Mod K mg (B9 s₁.heap H):=⟨hKb,nsK hns,⟨mb,nsK hb,hbb⟩,let ⟨mc,h1,h2⟩:=hlim;⟨mc,nsK h1,h2⟩,let ⟨mm,h1⟩:=hsys;⟨mm,nsK h1⟩,by
   obtain⟨bm,ob,b1,b2,b3,b4,b5,b6⟩:=hbm
   exact⟨bm,ob,b1,b2,base_of b3 (noB b3 (λus n z=>by rw[b6]at z;cases z) λus z=>by rw[b6]at z;cases z),b4,b5,b6⟩,λx hx c P e=>by
   obtain⟨⟨o,vs,file,tf,flags,tg,M4,text,tt,e1,r⟩,_⟩:=htb x hx c P e
   exact⟨o,vs,file,tf,flags,tg,M4,text,tt,base_of e1 (by
    cases q:H c with
    |none=>rfl
    |some u=>exact absurd (hK c (by rw[q];simp)) (yw e)),r⟩⟩
  have e0:DZ P w K mg (B9 s₁.heap H) callerA [] s₁ H:=⟨rfl,hM,λb o e=>EH e,Nat.le_of_eq (zr _ _),trivial,λb hb=>absurd (show b∈([]:List Addr)from hb) (by simp),hok,.of_eq hg,hT⟩;refine codeAny_mono ((F _ hKb (nsK hns)).run callerA [] s₁ H ⟨[.ref a],[]⟩ [.ref a] [.ref a] _ _ hr e0 (hbind s₁ (.ref a)) (.cons rfl .nil) (hsp H hO hS)) λr s' h=>?_
  cases r with
  |error e=>exact(hCX H e s' h).elim
  | ok fl =>
   cases fl with
   |next=>exact False.elim h
   |brk=>exact False.elim h
   |cont=>exact False.elim h
   | ret u =>
    obtain⟨v,H',os,bare,un,hok',r',q⟩:=h;have q':v=.bl true:=q;subst q';obtain rfl:u=Value.bool true:=r'
    have Mx:∀b o,s₁.heap.get? b=some o->s'.heap.get? b=some o∨(PySem.isCodeTable s₁.heap b/\o=PySem.W.tabObj #[]/\∃ps,s'.heap.get? b=some (PySem.W.tabObj ps)):=λb o e=>by
     cases q:H b with
     |none=>exact .inl (un.keep b o e q (by intro z;exact absurd (show b∈([]:List Addr)from z) (by simp)) (by simp))
     | some u =>
      rcases hO b with z|⟨ob,xs,z⟩|⟨t,z⟩
      · rw[q]at z;cases z
      · have z2:=un.frzs b ob _ z;obtain⟨e1,_⟩:=hok b _ z;obtain⟨e2,_⟩:=hok' b _ z2;rw[e]at e1;cases e1;exact .inl e2
      ·
       rcases hA b (by rw[q];simp)with e' | ⟨t2,_,e'⟩
       · subst e';obtain⟨ps,e1,_⟩:=hok b _ z;rw[ha]at e1;cases e1
       · obtain⟨ps,e2,_⟩:=hok' b _ (un.tbls b _ z);obtain⟨t1,t2,_⟩:=tabAt e';rw[e]at t2;cases t2;exact .inr ⟨t1,rfl,ps,e2⟩
    refine⟨rfl,⟨λb o e=>?_,λb o e=>?_⟩,os,bare⟩
    ·
     rcases Mx b o e with z|⟨t,rfl,ps,z⟩
     · exact .inl z
     · exact .inr (.inl ⟨t,rfl,#[],ps,rfl,by rw[Array.empty_append];exact z⟩)
    ·
     rcases Mx b o e with z|⟨t,_,ps,z⟩
     · exact⟨o,z⟩
     · exact⟨_,z⟩
 have tbsOf:∀{H:Hp},(∀b q,(dN K).lookup b=some q->H b=some (.tbl q))->Mp K H:=λ{H} h x hx c P e=>h P _ (iK nd (List.mem_filterMap.mpr ⟨x,hx,by rw[e];rfl⟩));have okT:∀{H:Hp}{b:Addr}{q:Str},(dN K).lookup b=some q->c8 P w H s₁.heap b (.tbl q):=λ{H b q} e=>⟨#[],(tabAt e).2.1,trivial,λpos cv z=>by simp[codeAmong]at z⟩;have na:∀q,(dN K).lookup a≠some q:=λq z=>by have:=(tabAt z).2.1;rw[ha]at this;cases this
 cases hk:K.lookup a with
 | some o =>
  have e:=KX a o hk;rw[ha]at e;cases e;refine core (λb=>((dN K).lookup b).map .tbl) (λb=>?_) (.inr ⟨_,vs.toArray,_,hk,rfl,rfl,rfl,by rw[List.size_toArray,lenV];exact hl,by simpa using rv⟩) (λb u z=>?_) (λb z=>?_) (λb z=>?_) (tbsOf λb q e=>by show Option.map _ _=_;rw[e];rfl)
  ·
   show Option.map HO.tbl ((dN K).lookup b)=none∨_
   cases q:(dN K).lookup b with
   |none=>exact .inl rfl
   |some t=>exact .inr (.inr ⟨t,by show Option.map _ _=_;rw[q];rfl⟩)
  ·
   have z':Option.map HO.tbl ((dN K).lookup b)=some u:=z
   cases q:(dN K).lookup b with
   |none=>rw[q]at z';cases z'
   |some t=>rw[q]at z';cases z';exact okT q
  ·
   have z':Option.map HO.tbl ((dN K).lookup b)≠none:=z
   cases q:(dN K).lookup b with
   |none=>rw[q]at z';exact absurd rfl z'
   |some t=>exact .inr ⟨t,rfl,rfl⟩
  ·
   have z':Option.map HO.tbl ((dN K).lookup b)≠none:=z
   cases q:(dN K).lookup b with
   |none=>rw[q]at z';exact absurd rfl z'
   |some t=>exact(tabAt q).2.2
 | none =>
  have at_a:∀ b,(if b=a then some (HO.frz {cls:=.type "list",data:=.seq vs.toArray} (.lst (ns.map V.int)))else((dN K).lookup b).map .tbl)≠none->b=a∨∃ q,(dN K).lookup b=some q:=λb z=>by
   by_cases hb:b=a
   · exact .inl hb
   ·
    rw[if_neg hb]at z
    cases q:(dN K).lookup b with
    |none=>rw[q]at z;exact absurd rfl z
    |some t=>exact .inr ⟨t,rfl⟩
  have tabA:∀ b q,(dN K).lookup b=some q->(if b=a then some (HO.frz {cls:=.type "list",data:=.seq vs.toArray} (.lst (ns.map V.int)))else((dN K).lookup b).map .tbl)=some (.tbl q):=λb q e=>by rw[if_neg (λ(z:b=a)=>na q (by rw[← z];exact e)),e];rfl
  refine core (λb=>if b=a then some (.frz {cls:=.type "list",data:=.seq vs.toArray} (.lst (ns.map V.int)))else((dN K).lookup b).map .tbl) (λb=>?_) (.inl (.inr ⟨{cls:=.type "list",data:=.seq vs.toArray},if_pos rfl⟩)) (λb u z=>?_) (λb z=>?_) (λb z=>?_) (tbsOf λb q e=>tabA b q e)
  ·
   by_cases hb:b=a
   · exact .inr (.inl ⟨_,_,if_pos hb⟩)
   ·
    cases q:(dN K).lookup b with
    |none=>exact .inl (by show ite _ _ _=_;rw[if_neg hb,q];rfl)
    |some t=>exact .inr (.inr ⟨t,tabA b t q⟩)
  ·
   by_cases hb:b=a
   · have z':=(if_pos hb).symm.trans z;cases z';subst hb;exact⟨ha,by rw[List.length_map];exact hl,vs,_,rv,ha⟩
   ·
    have z':=(if_neg hb).symm.trans z
    cases q:(dN K).lookup b with
    |none=>rw[q]at z';cases z'
    |some t=>rw[q]at z';cases z';exact okT q
  ·
   rcases at_a b z with e|⟨q,e⟩
   · exact .inl e
   · exact .inr ⟨q,tabA b q e,e⟩
  ·
   rcases at_a b z with e|⟨q,e⟩
   · rw[e];exact hk
   · exact(tabAt e).2.2
theorem walk_of{l:PySem.W.OpenLaw}{n k:Nat}{q:Program}{loose:List Str}{XP:(Str->Option Value)->Heap->Prop}{YP:World->Heap->Prop}{d:DefRec}{K:Params->PySem.W.Frag}{CX:World->MO}{sp:World->Sp}{x:Str}
  (hn:l.most=some n) (hq:importsNone q=true) (hn2:n≤sizeLine) (hdf:d.params.defaults=[]) (hr:iI k callerA)
  (hY:∀(w:World)(h:Heap),YP w h->(K w.params).In h) (hto:∀w:World,tabsOk (K w.params)=true) (hrc:∀(w:World),∀x∈lamNames,PySem.W.tabIn (K w.params) x=none∨((recsOf q).find? λe=>e.name == x).isSome=true)
  (F:∀(w:World)(mg:Str->Option Value)(fa:Addr)(h:Heap),(K w.params).In h->h.Ns mainGlobals mg->mg d.name=some (.ref fa) ->
   ∃fd:FuncData,(∀(s:Shared)(u:Value),BindsTo s fd ⟨[u],[]⟩ [(x,u)]) /\
    ∀base:Heap,(K w.params).In base->base.Ns mainGlobals mg->FnOk l.prog w (K w.params) mg base (CX w) k fa fd [x] (sp w))
  (hsp:∀(w:World)(H:Hp)(a:Addr)(ns:List Int),ns.length≤n->JF H->Mz (K w.params) H a (ns.map V.int)->sp w [.ref a] H (λv _=>v=.bl true) λ_ _ _=>False)
  (hCX:∀(w:World)(H:Hp)(s:Shared)(e:Value)(s':Shared),CX w [] H s (λ_ _ _=>False) e s'->False) :
  PySem.W.WalkO q loose XP YP l.row.toRowW d [] (λf vs=>PySem.call f vs):=by
 refine Att.attach_call hn hdf λw s₀ s₁ mg mb fa o pm cd doc a vs ns G Y ho hd hcd hmg hobj hints hlen hg=>?_;have KX:=hY w _ Y;obtain⟨fd,hb,hF⟩:=F w mg fa _ KX G.T.g hmg
 exact Cm KX G.T.g G.T.b G.T.builtins G.T.nolimit (let ⟨mm,h1,_⟩:=(G.T.seer hq).mods;⟨mm,h1⟩) (let ⟨bm,ob,b1,b2,b3,b4,b5,b6⟩:=G.T.bmain;⟨bm,ob,b1,b2,b3,b4,b5,b6⟩) (hto w) (λy hy c P e=>by
  rcases hrc w y hy with z|z
  · rw[z]at e;cases e
  ·
   obtain⟨d',hd'⟩:=Option.isSome_iff_exists.mp z
   exact PySem.W.tab_of G.T KX hd' e) hg hobj hints (Nat.le_trans hlen hn2) hr hF hb (λH hO hS=>hsp w H a ns hlen hO hS) λH e s'=>hCX w H s₁ e s'
noncomputable def iL(s:Stmt):Arguments:=match s with
 |.FunctionDef _ a _ _ _ _ _ _ _ _=>a
 |_=>{posonlyargs:=[],args:=[],vararg:=none,kwonlyargs:=[],kw_defaults:=[],kwarg:=none,defaults:=[] }
noncomputable def eG(s:Stmt):List Stmt:=match s with
 |.FunctionDef _ _ b _ _ _ _ _ _ _=>b
 |_=>[]
noncomputable def ar(s:Stmt):Scope:=match s with
 |.FunctionDef _ _ _ _ _ _ sc _ _ _=>sc
 |_=>{kind:=.function,names:=[],isGenerator:=false,isCoroutine:=false}
noncomputable abbrev CX0:MO:=λ_ _ _ _ _ _=>False
noncomputable abbrev E0:XK:=λ_ _ _=>False
theorem Ff{X:Cx}:wX CX0 X E0:=λ_ _ _ _ _ _ _ h=>h.elim
structure M5 (K:PySem.W.Frag) (x qual:Str) (st:Stmt) (f:Addr) (fd:FuncData):Prop where
 ex:∃(oc:Value)(od:Option Addr)(kV doc pm:Value)(an:Option Addr)(cdv ct:Value)(osl:Array (Option Value)),
  fd=PySem.W.fnOf x qual (iL st) (eG st) (ar st) .none kV doc pm an cdv ct/\K.lookup f=some ⟨oc,od,.func fd,osl⟩/\PySem.W.codeIn K cdv qual=true
 kp:PySem.W.keepIn K (.ref f)=true
section
variable{P:Program}{w:World}{K:PySem.W.Frag}{mg:Str->Option Value}{base:Heap}
theorem M5.ok{x qual:Str}{st:Stmt}{f:Addr}{fd:FuncData}{N ps:List Str}{k:Nat}{sp:Sp}(F:M5 K x qual st f fd)(S:aF N ps (ar st))(len:∀vs H Q E,sp vs H Q E->vs.length=ps.length)
  (hbody:∀(cdv:Value)(A:Around)(outer:List Env)(s:Shared)(H:Hp)(vs:List V)(Q:VK)(E:XK),iI k (A.deeper (envOfC qual (ar st) s.heap.objs.size f cdv))->sp vs H Q E ->
   ∃t,Mu (Cg CX0 P w K mg base N qual (ar st) f cdv A outer s H E).nox (eG st) t/\t {nx:=λ_ H'=>Q .non H',rt:=Q} (nE N vs) H):FnOk P w K mg base CX0 (k+1) f fd ps sp:=by
 obtain⟨oc,od,kV,doc,pm,an,cdv,ct,osl,rfl,lk,hcd⟩:=F.ex;refine HE lk hcd S len λA outer s H vs Q E hr hsp=>?_;obtain⟨t,h,q⟩:=hbody cdv A outer s H vs Q E hr hsp;exact⟨t,h.nox,q⟩
theorem M5.binds{x qual:Str}{st:Stmt}{f:Addr}{fd:FuncData}{ps:List Str}(F:M5 K x qual st f fd)
  (h:∀(kV doc pm:Value)(an:Option Addr)(cdv ct:Value)(us:List Value),us.length=ps.length->bindArgs (PySem.W.fnOf x qual (iL st) (eG st) (ar st) .none kV doc pm an cdv ct) ⟨us,[]⟩=pure (ps.zip us)):mq K fd ps []:=by
 obtain⟨oc,od,kV,doc,pm,an,cdv,ct,osl,rfl,lk,hcd⟩:=F.ex;exact .all (h kV doc pm an cdv ct)
theorem qd{x qual:Str}{st:Stmt}{f:Addr}{oc:Value}{od an:Option Addr}{osl:Array (Option Value)}{kV doc pm cdv ct:Value}(l:K.lookup f=some ⟨oc,od,.func (PySem.W.fnOf x qual (iL st) (eG st) (ar st) .none kV doc pm an cdv ct),osl⟩)
  (c:PySem.W.codeIn K cdv qual=true) (k:PySem.W.keepIn K (.ref f)=true):M5 K x qual st f (PySem.W.fnOf x qual (iL st) (eG st) (ar st) .none kV doc pm an cdv ct):=⟨⟨oc,od,kV,doc,pm,an,cdv,ct,osl,rfl,l,c⟩,k⟩
end
section
variable{X:Cx}
theorem pv(i:Nat){x:Str}{pos:Pos}(hN:X.N[i]?=some x:=by rfl)(hv:Mr X.env.scope x:=by first | exact Or.inl rfl | exact Or.inr (Or.inl rfl) | exact Or.inr (Or.inr rfl)) (hd:(x == ("__debug__" : Str))=false:=by decide)
  (hcd:(x == ("__classdict__" : Str))=false:=by decide):PE X (.Name x pos) (EM i):=ib hN hv hd hcd
end
def K1(H H':Hp):Prop:=∀b o,H b=some o->H' b=some o
theorem K1.free{H H':Hp}(e:K1 H H'){l:Addr}(h:H' l=Option.none):H l=Option.none:=by
 cases q:H l with
 |none=>rfl
 | some o =>
  rw[e l o q]at h;cases h
end L2
set_option maxHeartbeats 0
namespace L2
open PySem PySem.Spec
open Sem (wp)
theorem jC:Slot "function" "__getattribute__" "object.__getattribute__" :=
 .of (owner:="object") (n:="__getattribute__") (by rw[typeLookup_type,builtinLookup_eq_fast]; kernel_rfl) (by decide +kernel) (by decide +kernel) (by decide +kernel)
  (by first|exact .inl (by decide +kernel)|exact .inr (by decide +kernel)) (by rw[isSubtype_type];kernel_rfl)
theorem vm:entryFor table "object.__getattribute__"=some Builtin.«object.__getattribute__»:=by
 first | exact F.entry_object_getattribute | exact entryFor_alias (id':="object.__getattribute__") (by kernel_rfl) (by first | rfl | decide +kernel) (by decide +kernel) (by kernel_rfl) | kernel_rfl
theorem yx(a b:Value):argsOk "object.__getattribute__" ⟨[a,b],[]⟩:=by
 first|exact F.args_object_getattribute_2 a b|(unfold argsOk;kernel_rfl)
theorem vn:typeLookup (.type "function") "__class__"=pure (some (.builtin "object.__class__")):=by rw[typeLookup_type,builtinLookup_eq_fast]; kernel_rfl
theorem k9:isSubtype (.type "function") (.type (".".intercalate ("object.__class__".cutAt '.').dropLast))=pure true:=by rw[F.owner_object_class,isSubtype_type];kernel_rfl
section
variable{prog:Program}{w:World}{A:Around}{E:Value->Shared->Prop}{h:Heap}{g:Array GenState}{d:Drawn}{t:Nat}{os:OsState}{a:Addr}{o:Obj}
theorem tq{R:Result->Shared->Prop}(hx:h.get? a=some o) (hc:o.cls=.type "function") (hq:R (.ok (.ret (.type "function"))) ⟨h,g,d,t,os⟩) :
  codeAny (model prog w) A (.call (.builtin "getset_descriptor.__get__") ⟨[.builtin "object.__class__",.ref a,.type "function"],[]⟩) R ⟨h,g,d,t,os⟩:=by
 have hT:(⟨h,g,d,t,os⟩:Shared).TypeIs (.ref a) "function":=⟨_,hx,hc⟩;have hT5:(⟨h,g,d,t,os⟩:Shared).TypeIs (.builtin "object.__class__") "getset_descriptor":=F.typeOf_object_class;have f8:=k9;refine codeAny_call_builtin F.slot_gs_get.plain F.entry_gs_get (F.slot_gs_get.check _ _ _ _ _ _ _ _ hT5 (F.args_gs_get _ _ _) ?_)
 repeat (any_goals (first|assumption|wp_step))
 refine⟨Code.quiet_builtin _ (by decide +kernel),codeAny_builtin F.entry_object_class ?_⟩
 repeat (any_goals (first|assumption|wp_step))
theorem pO{tk:Tok}{Q:PySem.Fin->Shared->Prop}(hx:h.get? a=some o) (hc:o.cls=.type "function") (hq:Q (.done (.ret (.type "function"))) ⟨h,g,d,t,os⟩) :
  wpAny (model prog w) A (Builtin.«object.__getattribute__» ⟨[.ref a,.str "__class__" tk],[]⟩) Q E ⟨h,g,d,t,os⟩:=by
 have hT:(⟨h,g,d,t,os⟩:Shared).TypeIs (.ref a) "function":=⟨_,hx,hc⟩;have hT5:(⟨h,g,d,t,os⟩:Shared).TypeIs (.builtin "object.__class__") "getset_descriptor":=F.typeOf_object_class;have f4:=vn;have f5:=F.typeOf_object_class;have f6:=F.slot_gs_get.lookup;have f7:=F.slot_gs_set.lookup
 repeat (any_goals (first|assumption|wp_step))
 refine tq hx hc ?_
 repeat (any_goals (first|assumption|wp_step))
theorem qJ{tk:Tok}{R:Result->Shared->Prop}(hx:h.get? a=some o) (hc:o.cls=.type "function") (hq:R (.ok (.ret (.type "function"))) ⟨h,g,d,t,os⟩) :
  codeAny (model prog w) A (.call (.builtin "object.__getattribute__") ⟨[.ref a,.str "__class__" tk],[]⟩) R ⟨h,g,d,t,os⟩ :=
 codeAny_call_builtin jC.plain vm (jC.check _ _ _ _ _ _ _ _ (show(⟨h,g,d,t,os⟩:Shared).TypeIs (.ref a) "function" from⟨_,hx,hc⟩) (yx _ _) (pO hx hc hq))
theorem vo{tk:Tok}{Q:Value->Shared->Prop}(hx:h.get? a=some o) (hc:o.cls=.type "function") (hq:Q (.type "function") ⟨h,g,d,t,os⟩):wpAny (model prog w) A (getAttrBy (.ref a) (.str "__class__" tk) false) Q E ⟨h,g,d,t,os⟩:=by
 have hT:(⟨h,g,d,t,os⟩:Shared).TypeIs (.ref a) "function":=⟨_,hx,hc⟩;have f2:=jC.lookup;have f3:=jC.bind (.ref a)
 repeat (any_goals (first|assumption|wp_step))
 refine qJ hx hc ?_
 repeat (any_goals (first|assumption|wp_step))
theorem qK{Q:Option Value->Shared->Prop}(hx:h.get? a=some o) (hc:o.cls=.type "function") (hq:Q (some (.type "function")) ⟨h,g,d,t+1,os⟩):wpAny (model prog w) A (getAttr? (.ref a) "__class__") Q E ⟨h,g,d,t,os⟩:=by
 unfold getAttr? getAttrBy?
 repeat (any_goals (first|assumption|with_reducible apply vo hx hc|wp_step))
end
theorem zU{K:PySem.W.Frag}{a:Addr}:PySem.W.KitX K (.ref a) (.type "function") (PySem.W.KitAt a "function"):=PySem.W.kitx_of PySem.W.kitAt_ty (λ{_ _ _ _ _ s} p k=>by obtain⟨h,g,d,t,os⟩:=s; obtain⟨o,h1,h2⟩:=p; exact qK h1 h2 k)
end L2
namespace L2
open PySem PySem.Spec PyProof.Rows
inductive D where
 |non|bl (b:Bool)|int (i:Int)|str (x:Str)|tup (xs:List D)|lst (xs:List D)|dct (n:Nat)|exc (c:Str) (ns:List Str) (xs:List D)|fn (x:Str) (d:D)
def M6(K:PySem.W.Frag)(H:Hp)(a:Addr)(xs:List V):Prop :=
 (∃o,H a=some (.frz o (.lst xs))) ∨
  ∃(o:Obj)(its:Array Value)(n:Nat),K.lookup a=some o/\o.cls=.type "list"/\o.dict=none/\o.data=.seq its n/\its.size≤sizeLine/\cB xs its.toList
theorem M6.l{K:PySem.W.Frag}{H:Hp}{a:Addr}{xs:List V}(h:M6 K H a xs):Mz K H a xs:=by
 rcases h with⟨o,h⟩|h
 · exact .inl (.inr ⟨o,h⟩)
 · exact .inr h
def Cn:HO->Prop
 |.frz _ u=>Cn u
 |.ins _ _ _=>False
 |_=>True
noncomputable def iM(K:PySem.W.Frag)(c:Str)(C:Addr):Bool:=match PySem.W.clsIn K C,PySem.W.nsIn K mainGlobals "LoadError" with
 | some cd,some (some (.ref L))=>cd.name == c && cd.hasDict && cd.mro == [.ref C,.ref L,.type "ValueError",.type "Exception",.type "BaseException",.type "object"] && (PySem.W.clsIn K L).any (λk=>k.name == ("LoadError" : Str)) &&
  PySem.W.findIn K (.ref C) "__getattribute__" == some (some (.builtin "BaseException.__getattribute__")) && PySem.W.findIn K (.ref C) "__getattr__" == some none && PySem.W.findIn K (.ref C) "__class__" == some (some (.builtin "object.__class__")) &&
  PySem.W.findIn K (.ref C) "__setattr__" == some (some (.builtin "object.__setattr__")) && PySem.W.typeIn K (.ref C) == some (.type "type") && PySem.W.nsIn K mainGlobals c == some (some (.ref C))
 |_,_=>false
noncomputable def HM:List Stmt->Option (Arguments×Expr×Scope×Pos)
 |[]=>none
 | st::r=>match HM r with
  |some l=>some l
  | none=>match st with
   | .Expr (.Call _ args _ _) _=>(match args.getLast? with
    |some (.Lambda p b sc pos)=>some (p,b,sc,pos)
    |_=>none)
   | .Return (some (.Call _ _ kws _)) _=>(match kws.getLast? with
    |some ⟨_,.Lambda p b sc pos,_⟩=>some (p,b,sc,pos)
    |_=>none)
   |_=>none
noncomputable def J3(K:PySem.W.Frag)(x:Str):Option (Arguments×Expr×Scope×Pos):=match PySem.W.nsIn K mainGlobals x with
 | some (some (.ref f))=>(match K.lookup f with
  | some ⟨_,_,.func fd,_⟩=>(match fd.body with
   |.stmts b=>HM b
   |_=>none)
  |_=>none)
 |_=>none
def XF(H:Hp)(dx:Option Addr)(ns:List Str)(vs:List V):Prop:=(ns=[]/\vs=[]/\dx=none)∨∃d od,dx=some d/\H d=some (.frz od (.xd (ns.zip vs)))/\ns.length=vs.length
mutual
inductive M7 (K:PySem.W.Frag) (H:Hp):V->D->Prop where
 |non:M7 K H .non .non
 |bl (b:Bool):M7 K H (.bl b) (.bl b)
 |int (i:Int):M7 K H (.int i) (.int i)
 |str (x:Str):M7 K H (.str x) (.str x)
 |tup {a:Addr} {vs:List V} {ds:List D} (h:MA K H a vs) (r:b7 K H vs ds):M7 K H (.ref a) (.tup ds)
 |lst {a:Addr} {vs:List V} {ds:List D} (h:M6 K H a vs) (r:b7 K H vs ds):M7 K H (.ref a) (.lst ds)
 |dct {a:Addr} {o:Obj} {kvs:List (Mj×V)} (h:H a=some (.frz o (.dK kvs))):M7 K H (.ref a) (.dct kvs.length)
 |exc {a:Addr} {o:Obj} {u:HO} {c:Str} {C:Addr} {ns:List Str} {vs:List V} {ds:List D} (h:H a=some (.frz o u)) (hv:Cn u) (hc:o.cls=.ref C) (hn:PySem.W.notCls o=true) (hs:iM K c C=true) (hq:∀f∈ns,PySem.W.findIn K (.ref C) f=some none) (hf:XF H o.dict ns vs) (r:b7 K H vs ds):M7 K H (.ref a) (.exc c ns ds)
 | fn {f c c':Addr} {oc oq:Obj} {x y:Str} {pr:Arguments} {bd:Expr} {sc:Scope} {pos:Pos} {pm ctv u:Value} {v:V} {d:D} (hl:J3 K x=some (pr,bd,sc,pos)) (hf:H f=some (.frz (PySem.W.kla_obj "<lambda>" (Hi x) pr bd sc [(y,c)] pm c' ctv) (.own f)))
  (hq:H c'=some (.frz oq (.own c'))) (hc:sP oq (Hi x)) (hz:H c=some (.frz oc (.own c))) (hd:oc.data=.cell (some u)) (hv:cq v u) (hm:(y,NameKind.free)∈sc.names) (r:M7 K H v d):M7 K H (.ref f) (.fn x d)
inductive b7 (K:PySem.W.Frag) (H:Hp):List V->List D->Prop where
 |nil:b7 K H [] []
 |cons {v:V} {d:D} {vs:List V} {ds:List D} (h:M7 K H v d) (t:b7 K H vs ds):b7 K H (v::vs) (d::ds)
end
def JG:HO->Prop
 |.tup _=>True
 |.frz _ _=>True
 |.tbl _=>True
 |_=>False
def tD(H H':Hp):Prop:=∀b o,JG o->H b=some o->H' b=some o
theorem MA.pres{K:PySem.W.Frag}{H H':Hp}{a:Addr}{xs:List V}(p:tD H H')(h:MA K H a xs):MA K H' a xs:=by
 rcases h with(h|⟨o,h⟩)|h
 · exact .inl (.inl (p _ _ True.intro h))
 · exact .inl (.inr ⟨o,p _ _ True.intro h⟩)
 · exact .inr h
theorem M6.pres{K:PySem.W.Frag}{H H':Hp}{a:Addr}{xs:List V}(p:tD H H')(h:M6 K H a xs):M6 K H' a xs:=by
 rcases h with⟨o,h⟩|h
 · exact .inl ⟨o,p _ _ True.intro h⟩
 · exact .inr h
theorem XF.pres{H H':Hp}(p:tD H H'){dx:Option Addr}{ns:List Str}{vs:List V}(h:XF H dx ns vs):XF H' dx ns vs:=by
 rcases h with h|⟨d,od,e,h,l⟩
 · exact .inl h
 · exact .inr ⟨d,od,e,p _ _ True.intro h,l⟩
mutual
theorem M7.pres{K:PySem.W.Frag}{H H':Hp}(p:tD H H'):∀{v:V}{d:D},M7 K H v d->M7 K H' v d
 |_,_,.non=>.non
 |_,_,.bl b=>.bl b
 |_,_,.int i=>.int i
 |_,_,.str x=>.str x
 |_,_,.tup h r=>.tup (h.pres p) (b7.pres p r)
 |_,_,.lst h r=>.lst (h.pres p) (b7.pres p r)
 |_,_,.dct h=>.dct (p _ _ True.intro h)
 |_,_,.exc h hv hc hn hs hq hf r=>.exc (p _ _ True.intro h) hv hc hn hs hq (hf.pres p) (b7.pres p r)
 |_,_,.fn hl hf hq hc hz hd hv hm r=>.fn hl (p _ _ True.intro hf) (p _ _ True.intro hq) hc (p _ _ True.intro hz) hd hv hm (M7.pres p r)
theorem b7.pres{K:PySem.W.Frag}{H H':Hp}(p:tD H H'):∀{vs:List V}{ds:List D},b7 K H vs ds->b7 K H' vs ds
 |_,_,.nil=>.nil
 |_,_,.cons h t=>.cons (M7.pres p h) (b7.pres p t)
end
theorem b7.length{K:PySem.W.Frag}{H:Hp}:∀{vs:List V}{ds:List D},b7 K H vs ds->vs.length=ds.length
 |_,_,.nil=>rfl
 |_,_,.cons _ t=>by simp[b7.length t]
theorem b7.get{K:PySem.W.Frag}{H:Hp}:∀{vs:List V}{ds:List D}{i:Nat}{d:D},b7 K H vs ds->ds[i]?=some d->∃v,vs[i]?=some v/\M7 K H v d
 |_,_,_,_,.nil,e=>by simp at e
 |_,_,0,_,.cons h _,e=>by simp at e;subst e;exact⟨_,rfl,h⟩
 | _,_,i+1,d,.cons _ t,e=>by obtain⟨v,h1,h2⟩:=b7.get (i:=i) (d:=d) t (by simpa using e);exact⟨v,by simpa using h1,h2⟩
theorem b7.set{K:PySem.W.Frag}{H:Hp}{v:V}{d:D}(r:M7 K H v d):∀{vs:List V}{ds:List D}(i:Nat),b7 K H vs ds->b7 K H (vs.set i v) (ds.set i d)
 |_,_,_,.nil=>.nil
 |_,_,0,.cons _ t=>.cons r t
 |_,_,i+1,.cons h t=>.cons h (b7.set r i t)
theorem b7.append{K:PySem.W.Frag}{H:Hp}:∀{vs us:List V}{ds es:List D},b7 K H vs ds->b7 K H us es->b7 K H (vs++us) (ds++es)
 |_,_,_,_,.nil,s=>s
 |_,_,_,_,.cons h t,s=>.cons h (b7.append t s)
theorem b7.take{K:PySem.W.Frag}{H:Hp}:∀{vs:List V}{ds:List D}(n:Nat),b7 K H vs ds->b7 K H (vs.take n) (ds.take n)
 |_,_,0,_=>.nil
 |_,_,_+1,.nil=>.nil
 |_,_,n+1,.cons h t=>.cons h (b7.take n t)
theorem b7.drop{K:PySem.W.Frag}{H:Hp}:∀{vs:List V}{ds:List D}(n:Nat),b7 K H vs ds->b7 K H (vs.drop n) (ds.drop n)
 |_,_,0,r=>r
 |_,_,_+1,.nil=>.nil
 |_,_,n+1,.cons _ t=>b7.drop n t
inductive L where
 |un|d (x:D)|own (a:Addr) (xs:List D)|bx (k:Option Addr) (ls:List L)|dic (a:Addr) (kvs:List (Mj×D))
noncomputable abbrev Ev:=List L
mutual
noncomputable def bM:L->List Addr
 |.un=>[]
 |.d _=>[]
 |.own a _=>[a]
 |.bx k ls=>k.toList++ie ls
 |.dic a _=>[a]
noncomputable def ie:List L->List Addr
 |[]=>[]
 |l::ls=>bM l++ie ls
end
noncomputable def owns(ρ:Ev):List Addr:=ρ.flatMap bM
theorem eH:∀ls:List L,ie ls=owns ls
 |[]=>rfl
 |l::ls=>by rw[ie,eH ls];rfl
mutual
def bR(K:PySem.W.Frag)(H:Hp)(s:Option V):L->Prop
 |.un=>True
 |.d x=>∃v,s=some v/\M7 K H v x
 |.own a xs=>s=some (.ref a)/\∃vs,H a=some (.lst vs)/\b7 K H vs xs
 |.bx none ls=>∃a vs,s=some (.ref a)/\MA K H a vs/\ez K H vs ls
 |.bx (some a) ls=>s=some (.ref a)/\∃vs,H a=some (.lst vs)/\ez K H vs ls
 |.dic a kvs=>s=some (.ref a)/\∃vs,H a=some (.dK vs)/\Paired (λ(p:Mj×V) (q:Mj×D)=>p.1=q.1/\M7 K H p.2 q.2) vs kvs
def ez(K:PySem.W.Frag)(H:Hp)(vs:List V):List L->Prop
 |[]=>vs=[]
 |l::ls=>∃v us,vs=v::us/\bR K H (some v) l/\ez K H us ls
end
mutual
theorem bR.pres{K:PySem.W.Frag}{H H':Hp}(p:tD H H'):∀{s:Option V}(l:L),(∀a∈bM l,H' a=H a)->bR K H s l->bR K H' s l
 |_,.un,_,_=>by simp only[bR]
 | _,.d x,_,h=>by
  simp only[bR]at h ⊢
  obtain⟨v,e,r⟩:=h
  exact⟨v,e,r.pres p⟩
 | _,.own a xs,q,h=>by
  simp only[bR]at h ⊢
  obtain⟨e,vs,ha,r⟩:=h
  exact⟨e,vs,(q a (by simp[bM])).trans ha,r.pres p⟩
 | _,.bx none ls,q,h=>by
  simp only[bR]at h ⊢
  obtain⟨a,vs,e,ha,r⟩:=h
  exact⟨a,vs,e,ha.pres p,ez.pres p ls (λb hb=>q b (by simp[bM,hb])) r⟩
 | _,.bx (some a) ls,q,h=>by
  simp only[bR]at h ⊢
  obtain⟨e,vs,ha,r⟩:=h
  exact⟨e,vs,(q a (by simp[bM])).trans ha,ez.pres p ls (λb hb=>q b (by simp[bM,hb])) r⟩
 | _,.dic a kvs,q,h=>by
  simp only[bR]at h ⊢
  obtain⟨e,vs,ha,r⟩:=h
  exact⟨e,vs,(q a (by simp[bM])).trans ha,Paired.mapP r λ_ _ z=>⟨z.1,z.2.pres p⟩⟩
theorem ez.pres{K:PySem.W.Frag}{H H':Hp}(p:tD H H'):∀{vs:List V}(ls:List L),(∀a∈ie ls,H' a=H a)->ez K H vs ls->ez K H' vs ls
 |_,[],_,h=>by simpa only[ez]using h
 | _,l::ls,q,h=>by
  simp only[ez]at h ⊢
  obtain⟨v,us,e,h1,h2⟩:=h
  exact⟨v,us,e,bR.pres p l (λb hb=>q b (by simp[ie,hb])) h1,ez.pres p ls (λb hb=>q b (by simp[ie,hb])) h2⟩
end
def Fg:HO->Prop
 |.lst _=>True
 |.dK _=>True
 |_=>False
theorem Fg.no{o:HO}(h:Fg o)(p:JG o):False:=by cases o<;>first|exact h|exact p
mutual
theorem bR.lstAt{K:PySem.W.Frag}{H:Hp}:∀{s:Option V}(l:L),bR K H s l->∀a∈bM l,∃o,H a=some o/\Fg o
 |_,.un,_,a,ha=>by simp[bM]at ha
 |_,.d x,_,a,ha=>by simp[bM]at ha
 | _,.own b xs,h,a,ha=>by
  simp only[bR]at h
  have e:a=b:=by simpa[bM]using ha
  subst e
  obtain⟨_,vs,q,_⟩:=h
  exact⟨_,q,True.intro⟩
 | _,.bx none ls,h,a,ha=>by
  simp only[bR]at h
  obtain⟨b,vs,e,_,r⟩:=h
  exact ez.lstAt ls r a (by simpa[bM]using ha)
 | _,.bx (some b) ls,h,a,ha=>by
  simp only[bR]at h
  obtain⟨e,vs,q,r⟩:=h
  rcases(by simpa[bM]using ha:a=b∨a∈ie ls)with z|z
  ·
   subst z;exact⟨_,q,True.intro⟩
  ·
   exact ez.lstAt ls r a z
 | _,.dic b xs,h,a,ha=>by
  simp only[bR]at h
  have e:a=b:=by simpa[bM]using ha
  subst e
  obtain⟨_,vs,q,_⟩:=h
  exact⟨_,q,True.intro⟩
theorem ez.lstAt{K:PySem.W.Frag}{H:Hp}:∀{vs:List V}(ls:List L),ez K H vs ls->∀a∈ie ls,∃o,H a=some o/\Fg o
 |_,[],_,a,ha=>by simp[ie]at ha
 | _,l::ls,h,a,ha=>by
  simp only[ez]at h
  obtain⟨v,us,e,h1,h2⟩:=h
  rcases(by simpa[ie]using ha:a∈bM l∨a∈ie ls)with z|z
  ·
   exact bR.lstAt l h1 a z
  ·
   exact ez.lstAt ls h2 a z
end
structure aA (K:PySem.W.Frag) (Pr H:Hp) (σ:St) (ρ:Ev):Prop where
 sub:∀b o,Pr b=some o->H b=some o
 nd:(owns ρ).Nodup
 off:∀a∈owns ρ,Pr a=none
 sl:Paired (bR K H) σ ρ
theorem gy{ρ:Ev}{a:Addr}:a∈owns ρ↔∃l∈ρ,a∈bM l:=by unfold owns;rw[List.mem_flatMap]
theorem Fh{ρ:Ev}{a:Addr}{xs:List D}(h:L.own a xs∈ρ):a∈owns ρ:=gy.mpr ⟨_,h,by simp[bM]⟩
theorem aI(a b:Ev):owns (a++b)=owns a++owns b:=List.flatMap_append
theorem Paired.mem2{α β:Type}{F:α->β->Prop}:∀{l1:List α}{l2:List β}{b:β},Paired F l1 l2->b∈l2->∃a,a∈l1/\F a b
 |_,_,_,.nil,h=>by simp at h
 | _,_,_,.cons r t,h=>by
  rcases List.mem_cons.mp h with rfl|h
  · exact⟨_,List.mem_cons_self,r⟩
  · obtain⟨a,h1,h2⟩:=Paired.mem2 t h;exact⟨a,List.mem_cons_of_mem _ h1,h2⟩
theorem Paired.app{α β:Type}{F:α->β->Prop}:∀{a c:List α}{b d:List β},Paired F a b->Paired F c d->Paired F (a++c) (b++d)
 |_,_,_,_,.nil,s=>s
 |_,_,_,_,.cons r t,s=>.cons r (Paired.app t s)
theorem Paired.unapp{α β:Type}{F:α->β->Prop}:∀{a c:List α}{b d:List β},a.length=b.length->Paired F (a++c) (b++d)->Paired F a b/\Paired F c d
 |[],_,[],_,_,s=>⟨.nil,s⟩
 | x::a,_,y::b,_,hl,.cons r t=>by obtain⟨p,q⟩:=Paired.unapp (a:=a) (b:=b) (by simpa using hl) t;exact⟨.cons r p,q⟩
 |[],_,_::_,_,hl,_=>by simp at hl
 |_::_,_,[],_,hl,_=>by simp at hl
theorem Paired.get2{α β:Type}{F:α->β->Prop}:∀{l1:List α}{l2:List β}{i:Nat}{b:β},Paired F l1 l2->l2[i]?=some b->∃a,l1[i]?=some a/\F a b
 |_,_,_,_,.nil,e=>by simp at e
 |_,_,0,_,.cons h _,e=>by simp at e;subst e;exact⟨_,rfl,h⟩
 | _,_,i+1,d,.cons _ t,e=>by obtain⟨v,h1,h2⟩:=Paired.get2 (i:=i) (b:=d) t (by simpa using e);exact⟨v,by simpa using h1,h2⟩
theorem Paired.set2{α β:Type}{F:α->β->Prop}{a:α}{b:β}(r:F a b):∀{l1:List α}{l2:List β}(i:Nat),Paired F l1 l2->Paired F (l1.set i a) (l2.set i b)
 |_,_,_,.nil=>.nil
 |_,_,0,.cons _ t=>.cons r t
 |_,_,i+1,.cons h t=>.cons h (Paired.set2 r i t)
theorem Paired.impMem{α β:Type}{F G:α->β->Prop}:∀{l1:List α}{l2:List β},Paired F l1 l2->(∀b∈l2,∀a,F a b->G a b)->Paired G l1 l2
 |_,_,.nil,_=>.nil
 |_,_,.cons r t,h=>.cons (h _ List.mem_cons_self _ r) (Paired.impMem t λb hb=>h b (List.mem_cons_of_mem _ hb))
theorem Paired.set_r{α β:Type}{F:α->β->Prop}{b:β}:∀{l1:List α}{l2:List β}(i:Nat),Paired F l1 l2->(∀a,l1[i]?=some a->F a b)->Paired F l1 (l2.set i b)
 |_,_,_,.nil,_=>.nil
 |_,_,0,.cons _ t,h=>.cons (h _ rfl) t
 |_,_,i+1,.cons q t,h=>.cons q (Paired.set_r i t λa e=>h a (by simpa using e))
section
variable{K:PySem.W.Frag}{Pr H H':Hp}{σ τ w σ':St}{ρ μ lam ρ':Ev}
theorem aA.len(E:aA K Pr H σ ρ):σ.length=ρ.length:=Paired.length E.sl
noncomputable def bz(H:Hp)(ρ:Ev):Hp:=λb=>if b∈owns ρ then none else H b
theorem aA.at_own(E:aA K Pr H σ ρ){a:Addr}(h:a∈owns ρ):∃o,H a=some o/\Fg o:=by obtain⟨l,hx,ha⟩:=gy.mp h;obtain⟨s,_,q⟩:=Paired.mem2 E.sl hx;exact q.lstAt l a ha
theorem aA.wide(E:aA K Pr H σ ρ):aA K (bz H ρ) H σ ρ :=
 ⟨λb o e=>by unfold bz at e;split at e;cases e;exact e,E.nd,λa h=>by unfold bz;rw[if_pos h],E.sl⟩
theorem aA.drop(E:aA K Pr H (τ++σ) (lam++ρ))(hl:τ.length=lam.length):aA K Pr H σ ρ :=
 ⟨E.sub,(List.nodup_append.mp (aI lam ρ ▸ E.nd)).2.1,λa h=>E.off a (by rw[aI];exact List.mem_append_right _ h),(Paired.unapp hl E.sl).2⟩
theorem aA.left(E:aA K Pr H (τ++σ) (lam++ρ))(hl:τ.length=lam.length):aA K Pr H τ lam :=
 ⟨E.sub,(List.nodup_append.mp (aI lam ρ ▸ E.nd)).1,λa h=>E.off a (by rw[aI];exact List.mem_append_left _ h),(Paired.unapp hl E.sl).1⟩
theorem qL{H H':Hp}{ρ:Ev}{σ:St}{Pr:Hp}(E:aA K Pr H σ ρ)(h:∀b o,bz H ρ b=some o->H' b=some o):tD H H':=λb o p e=>by refine h b o ?_;unfold bz;rw[if_neg,e];intro hm;obtain⟨u,e',m⟩:=E.at_own hm;rw[e]at e';cases e';exact m.no p
theorem aA.step(E:aA K Pr H (τ++σ) (lam++ρ))(hl:τ.length=lam.length)(E':aA K (bz H ρ) H' (w++σ') (μ++ρ'))(hw:w.length=μ.length):aA K Pr H' (w++(τ++σ')) (μ++(lam++ρ')):=by
 have Eσ:=E.drop hl;have p:tD H H':=qL Eσ E'.sub;have dis:∀a∈owns lam,a∉owns ρ:=λa h1 h2=>(List.nodup_append.mp (aI lam ρ ▸ E.nd)).2.2 a h1 a h2 rfl;have at':∀a∈owns lam,bz H ρ a=H a:=λa h=>by unfold bz;rw[if_neg (dis a h)]
 have some':∀a∈owns lam,∃o,H a=some o/\Fg o:=λa h=>E.at_own (by rw[aI];exact List.mem_append_left _ h);have out:∀a∈owns lam,a∉owns (μ++ρ'):=λa h h2=>by have z:=E'.off a h2;rw[at' a h]at z;obtain⟨vs,e,_⟩:=some' a h;rw[e]at z;cases z
 have s1:=(Paired.unapp hw E'.sl);have s2:=(Paired.unapp hl E.sl).1;refine⟨λb o e=>?_,?_,λa ha=>?_,Paired.app s1.1 (Paired.app ?_ s1.2)⟩
 · refine E'.sub b o ?_;unfold bz;rw[if_neg,E.sub b o e];intro hm;have z:=Eσ.off b hm;rw[e]at z;cases z
 ·
  have n1:=E'.nd;rw[aI]at n1;rw[aI,aI];obtain⟨q1,q2,q3⟩:=List.nodup_append.mp n1;refine List.nodup_append.mpr ⟨q1,List.nodup_append.mpr ⟨(List.nodup_append.mp (aI lam ρ ▸ E.nd)).1,q2,λa ha b hb=>?_⟩,λa ha b hb=>?_⟩
  · rintro rfl;exact out a ha (by rw[aI];exact List.mem_append_right _ hb)
  ·
   rcases List.mem_append.mp hb with hb|hb
   · rintro rfl;exact out a hb (by rw[aI];exact List.mem_append_left _ ha)
   · exact q3 a ha b hb
 ·
  rw[aI,aI]at ha
  have key:a∈owns (μ++ρ')->Pr a=none:=λh=>by
   have z:=E'.off a h;unfold bz at z;by_cases hm:a∈owns ρ
   · exact Eσ.off a hm
   ·
    rw[if_neg hm]at z
    cases q:Pr a with
    |none=>rfl
    |some o=>rw[E.sub a o q]at z;cases z
  rcases List.mem_append.mp ha with h|h
  · exact key (by rw[aI];exact List.mem_append_left _ h)
  ·
   rcases List.mem_append.mp h with h|h
   · exact E.off a (by rw[aI];exact List.mem_append_left _ h)
   · exact key (by rw[aI];exact List.mem_append_right _ h)
 ·
  have:∀l∈lam,∀s,bR K H s l->bR K H' s l:=λl hlm s h=>h.pres p l λa e=>by have ha:a∈owns lam:=gy.mpr ⟨l,hlm,e⟩;obtain⟨vs,e,_⟩:=some' a ha;rw[E'.sub a _ ((at' a ha).trans e),e]
  exact Paired.impMem s2 this
end
end L2
namespace L2
open PySem PySem.Spec PyProof.Rows PySem.W
structure mr (K:Frag) (c:Str) (C L:Addr) (cd:ClassData):Prop where
 cls:clsIn K C=some cd
 load:nsIn K mainGlobals "LoadError"=some (some (.ref L))
 name:cd.name=c
 dct:cd.hasDict=true
 mro:cd.mro=[.ref C,.ref L,.type "ValueError",.type "Exception",.type "BaseException",.type "object"]
 lname:∃ k,clsIn K L=some k/\k.name=("LoadError" : Str)
 ga:findIn K (.ref C) "__getattribute__"=some (some (.builtin "BaseException.__getattribute__"))
 gx:findIn K (.ref C) "__getattr__"=some none
 gc:findIn K (.ref C) "__class__"=some (some (.builtin "object.__class__"))
 sa:findIn K (.ref C) "__setattr__"=some (some (.builtin "object.__setattr__"))
 ty:typeIn K (.ref C)=some (.type "type")
 own:nsIn K mainGlobals c=some (some (.ref C))
theorem dO{K:Frag}{c:Str}{C:Addr}(h:iM K c C=true):∃L cd,mr K c C L cd:=by
 unfold iM at h;split at h
 · rename_i cd L e1 e2;simp only[Bool.and_eq_true,beq_iff_eq]at h;obtain⟨⟨⟨⟨⟨⟨⟨⟨⟨h1,h2⟩,h3⟩,h4⟩,h5⟩,h6⟩,h7⟩,h8⟩,h9⟩,h10⟩:=h;obtain⟨k,hk,hn⟩:=any_some h4;exact⟨L,cd,e1,e2,h1,h2,h3,⟨k,hk,beq_iff_eq.mp hn⟩,h5,h6,h7,h8,h9,h10⟩
 · cases h
section
variable{K:Frag}{c:Str}{C L:Addr}{cd:ClassData}
theorem mr.mroIn(S:mr K c C L cd)(b:Value):PySem.W.mroIn K C b=some (([.ref C,.ref L,.type "ValueError",.type "Exception",.type "BaseException",.type "object"]:List Value).contains b):=by unfold PySem.W.mroIn;rw[S.cls,Option.bind_some,S.mro];rfl
theorem oB(C L:Addr)(T:String):(([.ref C,.ref L,.type "ValueError",.type "Exception",.type "BaseException",.type "object"]:List Value).contains (.type T))=(["ValueError","Exception","BaseException","object"]:List String).contains T:=by
 simp only[List.contains_cons,List.contains_nil,Bool.or_false];have e:∀a:Addr,(Value.type T == Value.ref a)=false:=λ_=>rfl
 have f:∀U:String,(Value.type T == Value.type U)=(T == U):=λU=>by
  by_cases q:T=U
  · subst q;simp
  · rw[beq_eq_false_iff_ne.mpr q,beq_eq_false_iff_ne];intro z;injection z with z;exact q z
 rw[e,e,f,f,f,f];rfl
theorem wZ(C L D:Addr):(([.ref C,.ref L,.type "ValueError",.type "Exception",.type "BaseException",.type "object"]:List Value).contains (.ref D))=(D == C ||D == L):=by
 simp only[List.contains_cons,List.contains_nil,Bool.or_false];have e:∀T:String,(Value.ref D == Value.type T)=false:=λ_=>rfl
 have f:∀a:Addr,(Value.ref D == Value.ref a)=(D == a):=λU=>by
  by_cases q:D=U
  · subst q;simp
  · rw[beq_eq_false_iff_ne.mpr q,beq_eq_false_iff_ne];intro z;injection z with z;exact q z
 rw[e,e,e,e,f,f,Bool.or_false,Bool.or_false,Bool.or_false,Bool.or_false]
theorem mr.has(S:mr K c C L cd){T:String} (h:(["ValueError","Exception","BaseException","object"]:List String).contains T=true):PySem.W.mroIn K C (.type T)=some true:=by rw[S.mroIn,oB,h]
theorem mr.isT(S:mr K c C L cd){M:Model}{h:Heap}(X:K.In h)(T:String):Looks M h (isSubtype (.ref C) (.type T)) ((["ValueError","Exception","BaseException","object"]:List String).contains T):=looks_mroIn X (by rw[S.mroIn,oB])
theorem mr.sub(S:mr K c C L cd){M:Model}{h:Heap}(X:K.In h)(b:Value):Looks M h (isSubtype (.ref C) b) (([.ref C,.ref L,.type "ValueError",.type "Exception",.type "BaseException",.type "object"]:List Value).contains b):=looks_mroIn X (S.mroIn b)
end
section
variable{prog:Program}{w:World}{A:Around}{E:Value->Shared->Prop}{s:Shared}{K:Frag}{c:Str}{x C L:Addr}{cd:ClassData}{ox:Obj}{od:Option Obj}{name:Str}
theorem yy{tk:Tok}{v:Value}{Q:Fin->Shared->Prop}(X:K.In s.heap)(I:InstAt s.heap x ox C od)(hf:findObj K C od name=some (.value v))(hq:Q (.done (.ret v)) s) :
  wpAny (model prog w) A (Builtin.«object.__getattribute__» ⟨[.ref x,.str name tk],[]⟩) Q E s:=by
 obtain⟨hh,g,d,t,os⟩:=s;have L0:=I.type (M:=model prog w);have L1:=looks_find (M:=model prog w) X I hf;unfold Builtin.«object.__getattribute__»;refine wpAny_bind (wpAny_pure (wpAny_bind (wpAny_pure ?_)));exact wpAny_bind (L0.at (wpAny_bind (L1.at (wpAny_pure hq))))
theorem tE{tk:Tok}{Q:Fin->Shared->Prop}(S:mr K c C L cd)(X:K.In s.heap)(I:InstAt s.heap x ox C od) (hf:findObj K C od "__class__"=some (.bind (.builtin "getset_descriptor.__get__") (.builtin "object.__class__"))) (hq:Q (.done (.ret (.ref C))) s) :
  wpAny (model prog w) A (Builtin.«object.__getattribute__» ⟨[.ref x,.str "__class__" tk],[]⟩) Q E s:=by
 obtain⟨hh,g,d,t,os⟩:=s;have L0:=I.type (M:=model prog w);have L1:=looks_find (M:=model prog w) X I hf;unfold Builtin.«object.__getattribute__»;refine wpAny_bind (wpAny_pure (wpAny_bind (wpAny_pure ?_)));refine wpAny_bind (L0.at (wpAny_bind (L1.at ?_)));show wpAny _ _ (holding [Value.builtin "object.__class__"] (call (.builtin "getset_descriptor.__get__") [.builtin "object.__class__",.ref x,.ref C]) >>= ret) _ _ _;refine wpAny_bind (wpAny_holding (wpAny_call ?_));exact class_get (s:=⟨hh,g,d,t,os⟩) (ox:=ox) (od:=od) X I (S.has (by decide)) (wpAny_pure hq)
theorem zV{tk:Tok}{v:Value}{fill expr:Bool}{Q:Value->Shared->Prop}(S:mr K c C L cd)(X:K.In s.heap)(I:InstAt s.heap x ox C od)
  (he:∀(A':Around)(Q':Fin->Shared->Prop),Q' (.done (.ret v)) s->wpAny (model prog w) A' (Builtin.«object.__getattribute__» ⟨[.ref x,.str name tk],[]⟩) Q' (λ_ _=>False) s) (hh:handedIn v=true) (hq:Q v s) :
  wpAny (model prog w) A (getAttrBy (.ref x) (.str name tk) fill expr) Q E s:=by
 have FB:=F.excAttr_ValueError;have L0:=I.type (M:=model prog w);have L1:=looks_findIn (M:=model prog w) X S.ga;have L2:=looks_findIn (M:=model prog w) X S.gx;unfold getAttrBy;refine wpAny_holding (wpAny_bind (L0.here (wpAny_bind (L1.here ?_))));have hx2:(Value.builtin "BaseException.__getattribute__" == Value.builtin "object.__getattribute__")=false:=by decide +kernel
 dsimp only;rw[hx2,Bool.and_false,if_neg (by decide)];unfold getAttrByItsOwn;refine wpAny_bind ((looks_hook (mc:=.ref C) X (r:=none) S.gx).here ?_);refine wpAny_bind (wpAny_attempt (wpAny_holding ?_));have hx0:(expr && onTheHeap (Value.builtin "BaseException.__getattribute__"))=false:=by cases expr <;> rfl
 unfold callGetattribute boundAndCalled;rw[hx0,if_neg (by decide),FB.ga.bind];refine wpAny_bind (wpAny_pure (wpAny_call ?_));have hi:Looks (model prog w) s.heap (isInstance (.ref x) (.type "BaseException")) true:=L0.andThen (S.isT X _);have hkd:builtinKind "BaseException.__getattribute__"=some .slot:=by decide +kernel
 have hsp:splitId "BaseException.__getattribute__"=some ("BaseException","__getattribute__"):=by decide +kernel
 refine codeAny_call_builtin FB.ga.plain F.entry_bexc_ga (@check_slot (model prog w) _ _ s "BaseException.__getattribute__" "BaseException" "__getattribute__" (.ref x) [.str name tk] [] _ hkd hsp hi (F.args_bexc_ga (.ref x) (.str name tk)) ?_);refine wpAny_mono (he _ _ ?_) (λ_ _ z=>z) λ_ _ z=>z.elim;show wpAny _ _ (handedOut v) _ _ _;rw[handedOut_of hh];exact wpAny_pure hq
end
theorem Fi(K:Frag):specialIn K (.builtin "object.__class__") "__get__"=some (some (.builtin "getset_descriptor.__get__")):=(by decide +kernel:specialIn [] (.builtin "object.__class__") "__get__"=some (some (.builtin "getset_descriptor.__get__")))
theorem zW(K:Frag):takesIn K (.builtin "object.__class__")=some true:=(by decide +kernel:takesIn [] (.builtin "object.__class__")=some true)
section
variable{prog:Program}{w:World}{A:Around}{E:Value->Shared->Prop}{s:Shared}{K:Frag}{c:Str}{x C L:Addr}{cd:ClassData}{ox:Obj}{od:Option Obj}{name:Str}
theorem mr.fclass(S:mr K c C L cd)(od:Option Obj):findObj K C od "__class__"=some (.bind (.builtin "getset_descriptor.__get__") (.builtin "object.__class__")):=by unfold findObj;rw[S.cls,Option.bind_some,S.gc,Option.bind_some];simp[Fi,zW]
theorem vp{Q:Option Value->Shared->Prop}(S:mr K c C L cd)(X:K.In s.heap)(I:InstAt s.heap x ox C od)(hq:Q (some (.ref C)) {s with toks:=s.toks+1}) :
  wpAny (model prog w) A (getAttr? (.ref x) "__class__") Q E s:=by
 obtain⟨hh,g,d,t,os⟩:=s;unfold getAttr? getAttrBy?;refine wpAny_bind (wpAny_mkText (wpAny_bind (wpAny_attempt ?_)));exact zV (s:=⟨hh,g,d,t+1,os⟩) (ox:=ox) (od:=od) S X I (λA' Q' q=>tE (s:=⟨hh,g,d,t+1,os⟩) S X I (S.fclass od) q) rfl (wpAny_pure hq)
theorem zX{v:Value}{expr:Bool}{Q:Value->Shared->Prop}(S:mr K c C L cd)(X:K.In s.heap)(I:InstAt s.heap x ox C od)(hf:findObj K C od name=some (.value v))(hv:handedIn v=true)(hq:Q v {s with toks:=s.toks+1}) :
  wpAny (model prog w) A (getAttr (.ref x) name expr) Q E s:=by
 obtain⟨hh,g,d,t,os⟩:=s;unfold getAttr;refine wpAny_bind (wpAny_mkText ?_);exact zV (s:=⟨hh,g,d,t+1,os⟩) (ox:=ox) (od:=od) S X I (λA' Q' q=>yy (s:=⟨hh,g,d,t+1,os⟩) X I hf q) hv hq
theorem w4(S:mr K c C L cd):KitX K (.ref x) (.ref C) (λh=>∃ox od,InstAt h x ox C od) where
 ty:=λ_ _ _ ⟨_,_,I⟩=>I.type
 it:=λ_ _ X _=>by
  have hc:=S.cls;unfold clsIn at hc;split at hc
  · rename_i ho;intro A' Q' E' s' k q;unfold isType loadHead;exact wpAny_bind (wpAny_loadPart (k _ _ (X _ _ ho)) (wpAny_pure q))
  · cases hc
 ne:=λh tp dd its n sl X htp=>by
  refine Bool.eq_false_iff.mpr λq=>?_;have e:C=tp:=Value.ref.inj (beq_iff_eq.mp q);subst e;have hc:=S.cls;unfold clsIn at hc;split at hc
  · rename_i ho;have z:=(X _ _ ho).symm.trans htp;cases z
  · cases hc
 ca:=λX ⟨_,_,I⟩ k=>vp S X I k
theorem mr.fown(S:mr K c C L cd){o:Obj}{v:Value}(hn:findIn K (.ref C) name=some none)(hl:lookIn name o=some (some v)):findObj K C (some o) name=some (.value v):=by unfold findObj;rw[S.cls,Option.bind_some,hn,Option.bind_some];simp[PySem.W.ownOf,S.dct,hl]
end
theorem oC{K:Frag}{C:Addr}{cd:ClassData}(h:clsIn K C=some cd):∃oc odc sl,K.lookup C=some ⟨oc,odc,.cls cd,sl⟩:=by
 unfold clsIn at h;split at h
 · rename_i ho;cases h;exact⟨_,_,_,ho⟩
 · cases h
section
variable{prog:Program}{w:World}{A:Around}{E:Value->Shared->Prop}{s:Shared}{K:Frag}{c:Str}{x C L:Addr}{cd:ClassData}{ox:Obj}{od:Option Obj}{name:Str}
theorem J4{vs:Array Value}{text:Value}{Q:Value->Shared->Prop}(S:mr K c C L cd)(X:K.In s.heap)(I:InstAt s.heap x ox C od)(hd:ox.data=.fields vs)(hz:0<vs.size)
  (hq:∀ t,Q .none {s with heap:=(s.heap.push {cls:=.type "tuple",data:=.seq #[text] }).update x (Obj.mapFields (·.setIfInBounds 0 (.ref s.heap.objs.size))),toks:=t}) :
  wpAny (model prog w) A (call (.builtin "ValueError.__init__") [.ref x,text]) Q E s:=by
 have FB:=F.excBase_ValueError;have hi:Looks (model prog w) s.heap (isInstance (.ref x) (.type "ValueError")) true:=I.type.andThen (S.isT X _);have hx:=I.at_;obtain⟨hh,g,d,t,os⟩:=s;have hx1:=Heap.get?_push_of_some (h:=hh) {cls:=.type "tuple",data:=.seq #[text] } hx;have h0:vs[0]?=some vs[0]:=Array.getElem?_eq_getElem hz;have hst:=FB.noStar;refine wpAny_call (codeAny_call_builtin FB.init.plain FB.initEntry ?_);simp only[checkBuiltinCall,FB.initKind,FB.initSplit,FB.initRow];refine wpAny_bind (hi.here ?_);simp only[Bool.not_true,Bool.false_eq_true,if_false];have hcl:=I.cls;obtain⟨oc,odc,sl,hK⟩:=oC S.cls;have hC:hh.get? C=some ⟨oc,odc,.cls cd,sl⟩:=X _ _ hK
 repeat (first|(with_reducible refine wpAny_loadPart_at hx ?_;rw[hcl])|with_reducible refine wpAny_loadPart_at hC ?_|with_reducible refine(S.isT X _).here ?_|wp_step)
 rw[hd];refine wpAny_pure ?_;rw[h0];refine wpAny_pure (wpAny_bind (wpAny_setField hx1 hd hz ?_))
 have done:∀t',wpAny (model prog w) A.in1 (ret Value.none) (λMx s'=>match Mx with
   | Fin.done f=>(match (Except.ok f:Result)with
    |.ok (.ret v)=>Q v s'
    |.ok _=>False
    |.error e=>E e s')
   | Fin.again c'=>c'.quiet=true/\codeAny (model prog w) A c' (λr s'=>match r with
    |.ok (.ret v)=>Q v s'
    |.ok _=>False
    |.error e=>E e s') s') (λe s'=>E e s') ⟨(hh.push {cls:=.type "tuple",data:=.seq #[text] }).update x (Obj.mapFields (·.setIfInBounds 0 (.ref hh.objs.size))),g,d,t',os⟩:=λt'=>wpAny_pure (hq t')
 split
 · exact wpAny_letGo (done _)
 · exact wpAny_pure (done _)
theorem tF{v:Value}{Q:Unit->Shared->Prop}(S:mr K c C L cd)(X:K.In s.heap)(I:InstAt s.heap x ox C od)(hna:findIn K (.ref C) name=some none)
  (h:∀(A':Around)(R:Fin->Shared->Prop),(∀s',Q () s'->R (.done (.ret .none)) s')->wpAny (model prog w) A' (Builtin.ObjectAttr.storeInOwnDict (.ref x) (.ref C) (.str name s.toks) name v false) R (λ_ _=>False) {s with toks:=s.toks+1}) :
  wpAny (model prog w) A (setAttr (.ref x) name v) Q E s:=by
 have SF:=PySem.F.store_ValueError;obtain⟨hh,g,d,t,os⟩:=s;have L0:=I.type (M:=model prog w);have L1:=looks_findIn (M:=model prog w) X S.sa;have L2:=looks_findIn (M:=model prog w) X hna;have Lm:Looks (model prog w) hh (mroOf (.ref C)) cd.mro:=(looks_clsIn X S.cls).andThen .now;have hi:Looks (model prog w) hh (isInstance (.ref x) (.type "object")) true:=L0.andThen (S.isT X _);unfold setAttr callSpecial? specialOf;refine wpAny_bind (wpAny_mkText (wpAny_bind (wpAny_bind (wpAny_bind (L0.at (L1.at ?_))))));dsimp only;refine wpAny_holding (wpAny_bind ?_);rw[SF.slot.bind];refine wpAny_pure (wpAny_bind (wpAny_call ?_));refine codeAny_call_builtin SF.slot.plain SF.entry (@check_slot (model prog w) _ _ ⟨hh,g,d,t+1,os⟩ "object.__setattr__" "object" "__setattr__" (.ref x) [.str name t,v] [] _ SF.kind SF.split hi (SF.args (.ref x) (.str name t) v) ?_);show wpAny _ _ (Builtin.«object.__setattr__» ⟨[.ref x,.str name t,v],[]⟩) _ _ _;rw[osa_eq,refuse_eq];refine wpAny_bind (wpAny_bind (L0.at (wpAny_bind (Lm.at ?_))));rw[S.mro,refuseLoop_ref,refuseLoop_ref,SF.passes];refine wpAny_pure (wpAny_bind (L0.at (wpAny_bind (L2.at (wpAny_bind (wpAny_pure ?_))))));dsimp only;refine wpAny_mono (h _ _ λs' q=>?_) (λ_ _ z=>z) λ_ _ z=>z.elim;exact wpAny_pure (wpAny_pure q)
theorem Co{v:Value}{Q:Unit->Shared->Prop}(S:mr K c C L cd)(X:K.In s.heap)(I:InstAt s.heap x ox C od)(hdn:ox.dict=none)(hna:findIn K (.ref C) name=some none)
  (hq:∀h' tk,h'.get? x=some {ox with dict:=some s.heap.objs.size}->h'.Ns1 s.heap.objs.size (λy=>if y=name then some v else none)->(∀b o,b≠x->s.heap.get? b=some o->h'.get? b=some o)->Q () {s with heap:=h',toks:=tk}) :
  wpAny (model prog w) A (setAttr (.ref x) name v) Q E s:=by
 refine tF S X I hna λA' R k=>?_;obtain⟨hh,g,d,t,os⟩:=s;have hx:=I.at_;have hcl:=I.cls;have hno:=I.no;have Lc:=looks_clsIn (M:=model prog w) X S.cls;have hxs:x≠hh.objs.size:=Nat.ne_of_lt (Heap.lt_size hx);unfold Builtin.ObjectAttr.storeInOwnDict;refine wpAny_bind (wpAny_pure ?_);rw[if_neg (by show ¬ ((Value.ref C == Value.type "module")=true); exact λz=>by cases z)];refine wpAny_bind ?_;show wpAny _ _ (instanceDict x true) _ _ _;unfold instanceDict;refine wpAny_bind (wpAny_loadPart_at hx ?_);rw[hcl];dsimp only;refine wpAny_bind (Lc.at ?_);rw[S.dct];simp only[Bool.not_true,Bool.false_eq_true,if_false];rw[hdn];dsimp only;rw[if_neg (by simp[typeHasDict])]
 have go:∀(Q':Option Addr->Shared->Prop),(∀ h1,h1.get? x=some {ox with dict:=some hh.objs.size}->h1.get? hh.objs.size=some {cls:=.type "dict",data:=.dict #[] }->(∀ b o,b≠x->hh.get? b=some o->h1.get? b=some o)->Q' (some hh.objs.size) ⟨h1,g,d,t+1,os⟩) ->
   wpAny (model prog w) A' (do
    let d ← alloc {cls:=.type "dict",data:=.dict #[] }
    update x λo=>{o with dict:=some d}
    dictMade (.ref C) x d) Q' (λ_ _=>False) ⟨hh,g,d,t+1,os⟩:=λQ' q=>by
  have hx1:(hh.push {cls:=.type "dict",data:=.dict #[] }).get? x=some ox:=Heap.get?_push_of_some _ hx;refine wpAny_bind (wpAny_alloc' ?_);refine wpAny_bind (wpAny_update' hx1 ?_);refine wpAny_pure (q _ ?_ ?_ λb o hb e=>?_)
  ·
   refine Heap.get?_update_self _ hx1 ?_;have fr:=(Heap.get?_some_iff.mp hx).2;obtain⟨c0,d0,dt,s0⟩:=ox
   cases dt<;>first|rfl|exact fr
  · exact(Heap.get?_update_ne _ _ _ _ hxs.symm).trans (Heap.get?_push_at rfl rfl)
  · exact(Heap.get?_update_ne _ _ _ _ hb).trans (Heap.get?_push_of_some _ e)
 have Mx:∀ h1,h1.get? x=some {ox with dict:=some hh.objs.size}->h1.get? hh.objs.size=some {cls:=.type "dict",data:=.dict #[] }->(∀ b o,b≠x->hh.get? b=some o->h1.get? b=some o) ->
   wpAny (model prog w) A' (Builtin.ObjectAttr.storeInDict hh.objs.size (.str name t) name v) R (λ_ _=>False) ⟨h1,g,d,t+1,os⟩:=λh1 e1 e2 e3=>by
  have n0:h1.Ns hh.objs.size (λ_=>none):=⟨_,#[],_,e2,rfl,λe he=>absurd he (by simp),λ_=>rfl⟩;unfold Builtin.ObjectAttr.storeInDict Builtin.ObjectAttr.newKeyGuard;refine wpAny_bind (wpAny_pure (wpAny_bind (wpAny_nsSet1 (Heap.Ns1.of_empty n0) λh2 n2 hs=>?_)));obtain⟨oD,esD,epD,hoD,hdD,hcD⟩:=n2.count (Within.cons name v Within.nil);refine wpAny_bind (wpAny_lookBehind hoD (by rw[hdD];exact pastItsLine_dict (Nat.le_trans hcD (by rw[List.length_cons,List.length_nil,sizeLine_eq];omega))) ?_);refine wpAny_pure (k _ (hq h2 _ ((hs.2 x hxs).trans e1) n2 λb o hb e=>(hs.2 b (Nat.ne_of_lt (Heap.lt_size e))).trans (e3 b o hb e)))
 split
 · rename_i q;rw[notCls,q]at hno;cases hno
 · exact go _ Mx
theorem Cp{v:Value}{Q:Unit->Shared->Prop}{dx:Addr}{mA:Str->Option Value}{ns:List Str}(S:mr K c C L cd)(X:K.In s.heap)(I:InstAt s.heap x ox C od)(hdx:ox.dict=some dx)(hN:s.heap.Ns1 dx mA)(hw:PySem.Within mA ns)(hz:ns.length≤1000)(hna:findIn K (.ref C) name=some none)
  (hq:∀h' tk,h'.Ns1 dx (λy=>if y=name then some v else mA y)->Heap.SameBut dx s.heap h'->Q () {s with heap:=h',toks:=tk}) :
  wpAny (model prog w) A (setAttr (.ref x) name v) Q E s:=by
 refine tF S X I hna λA' R k=>?_;obtain⟨hh,g,d,t,os⟩:=s;have hx:=I.at_;have hcl:=I.cls;have Lc:=looks_clsIn (M:=model prog w) X S.cls;unfold Builtin.ObjectAttr.storeInOwnDict;refine wpAny_bind (wpAny_pure ?_);rw[if_neg (by show ¬ ((Value.ref C == Value.type "module")=true); exact λz=>by cases z)];refine wpAny_bind ?_;show wpAny _ _ (instanceDict x true) _ _ _;unfold instanceDict;refine wpAny_bind (wpAny_loadPart_at hx ?_);rw[hcl];dsimp only;refine wpAny_bind (Lc.at ?_);rw[S.dct];simp only[Bool.not_true,Bool.false_eq_true,if_false];rw[hdx];refine wpAny_pure ?_;show wpAny _ _ (Builtin.ObjectAttr.storeInDict dx (.str name t) name v) _ _ _;unfold Builtin.ObjectAttr.storeInDict Builtin.ObjectAttr.newKeyGuard;refine wpAny_bind (wpAny_pure (wpAny_bind (wpAny_nsSet1 hN λh2 n2 hs=>?_)));obtain⟨oD,esD,epD,hoD,hdD,hcD⟩:=n2.count (Within.cons name v hw);refine wpAny_bind (wpAny_lookBehind hoD (by rw[hdD];exact pastItsLine_dict (Nat.le_trans hcD (by rw[List.length_cons,sizeLine_eq];omega))) ?_);exact wpAny_pure (k _ (hq h2 _ n2 hs))
end
end L2
namespace L2
open PySem PySem.Spec PyProof.Rows
section
variable{X:Cx}{pins:List (Addr×Obj)}{σ:St}{H:Hp}{s:Shared}
theorem Mt.reword{a:Addr}{u w:HO}(I:Mt X pins σ H s)(h:H a=some u)(hu:¬JG u)(hw:∀y,u≠.own y)(nw:c8 X.prog X.w H s.heap a w)(hw2:∀C dx fs,w≠.ins C dx fs):Mt X pins σ (Ml H a w) s:=by
 have ne:∀b,H b=none->b≠a:=λb n e=>by subst e;rw[h]at n;cases n
 have nt:∀b xs,H b=some (.tup xs)->b≠a:=λb xs n e=>by subst e;rw[h]at n;cases n;exact hu True.intro
 have nf:∀b o z,H b=some (.frz o z)->b≠a:=λb o z n e=>by subst e;rw[h]at n;cases n;exact hu True.intro
 have no:∀b z,H b=some (.own z)->b≠a:=λb z n e=>by subst e;rw[h]at n;cases n;exact hw _ rfl
 refine⟨I.ok,I.os,I.bare,⟨I.base.keep,I.base.slot,λb ob e n hx=>?_,I.base.there,λb xs e=>?_,λb ob z e=>?_,λb ps e=>?_⟩,I.loc,I.cell,?_,λx c e=>?_,λp hp=>?_,λb z e=>?_,I.len⟩
 · have q:=I.base.free b ob e n hx;rw[aC (ne b q)];exact q
 · have q:=I.base.tups b xs e;rw[aC (nt b xs q)];exact q
 · have q:=I.base.frzs b ob z e;rw[aC (nf b ob z q)];exact q
 · have q:=I.base.tbls b ps e;rw[aC (λz=>by subst z;rw[h]at q;cases q;exact hu True.intro)];exact q
 · rw[aC (ne _ I.free)];exact I.free
 ·
  rcases I.freeC x c e with z|⟨hf,o,z⟩
  · exact .inl (by rw[aC (ne _ z)];exact z)
  · exact .inr ⟨hf,o,by rw[aC (nf _ _ _ z)];exact z⟩
 · obtain⟨e,n,r⟩:=I.pin p hp;exact⟨e,by rw[aC (ne _ n)];exact n,r⟩
 ·
  by_cases hb:b=a
  · subst hb;rw[bb]at e;cases e;exact nw.stay (λc v _ q=>q) (λc q=>by rw[aC (no c _ q)];exact q) (λc xs q=>by rw[aC (nt c xs q)];exact q) λc ob _ _ q=>by rw[aC (nf c ob _ q)];exact q
  · rw[aC hb]at e;exact(I.hok b z e).stay (λc v _ q=>q) (λc q=>by rw[aC (no c _ q)];exact q) (λc xs q=>by rw[aC (nt c xs q)];exact q) λc ob _ _ q=>by rw[aC (nf c ob _ q)];exact q
theorem Mt.freezeL{a:Addr}{xs:List V}(I:Mt X pins σ H s)(h:H a=some (.lst xs)):∃o,Mt X pins σ (Ml H a (.frz o (.lst xs))) s:=by obtain⟨z,its,n,r,e⟩:=id (I.hok a _ h);exact⟨_,I.reword h (λq=>q) (λ_ q=>nomatch q) ⟨e,z,its,n,r,e⟩ (λ_ _ _ q=>nomatch q)⟩
theorem Mt.freezeD{a:Addr}{xs:List (Mj×V)}(I:Mt X pins σ H s)(h:H a=some (.dK xs)):∃o,Mt X pins σ (Ml H a (.frz o (.dK xs))) s:=by obtain⟨z,y,vs,r,o,es,ep,e,c⟩:=id (I.hok a _ h);exact⟨_,I.reword h (λq=>q) (λ_ q=>nomatch q) ⟨e,z,y,vs,r,o,es,ep,e,c⟩ (λ_ _ _ q=>nomatch q)⟩
end
section
variable{K:PySem.W.Frag}{Pr H:Hp}{σ:St}{ρ:Ev}
theorem aA.new(E:aA K Pr H σ ρ){p:Addr}{o:HO}(h:H p=none):aA K Pr (Ml H p o) σ ρ:=by
 have k:∀b u,H b=some u->Ml H p o b=some u:=λb u e=>by rw[aC (ba e h)];exact e
 exact⟨λb u e=>k b u (E.sub b u e),E.nd,E.off,Paired.impMem E.sl λl hl s q=>q.pres (λb u _ e=>k b u e) l λa e=>by
  obtain⟨vs,e,_⟩:=E.at_own (gy.mpr ⟨l,hl,e⟩)
  rw[k _ _ e,e]⟩
theorem b7.new{vs:List V}{ds:List D}(r:b7 K H vs ds){p:Addr}{o:HO}(h:H p=none):b7 K (Ml H p o) vs ds:=r.pres λb u _ e=>by rw[aC (ba e h)];exact e
theorem M7.new{v:V}{d:D}(r:M7 K H v d){p:Addr}{o:HO}(h:H p=none):M7 K (Ml H p o) v d:=r.pres λb u _ e=>by rw[aC (ba e h)];exact e
theorem m7:owns (.un::ρ)=owns ρ:=rfl
theorem a5{a:Addr}{xs:List D}:owns (.own a xs::ρ)=a::owns ρ:=rfl
theorem aA.cons_d(E:aA K Pr H σ ρ){v:V}{x:D}(r:M7 K H v x):aA K Pr H (some v::σ) (.d x::ρ):=⟨E.sub,E.nd,E.off,.cons ⟨v,rfl,r⟩ E.sl⟩
theorem aA.cons_un(E:aA K Pr H σ ρ){v:Option V}:aA K Pr H (v::σ) (.un::ρ):=⟨E.sub,E.nd,E.off,.cons True.intro E.sl⟩
theorem aA.cons_own(E:aA K Pr H σ ρ){p:Addr}{vs:List V}{xs:List D}(h:H p=none)(r:b7 K H vs xs):aA K Pr (Ml H p (.lst vs)) (some (.ref p)::σ) (.own p xs::ρ):=by
 have E':=E.new (o:=.lst vs) h;refine⟨E'.sub,?_,λa ha=>?_,.cons ⟨rfl,vs,bb,r.new h⟩ E'.sl⟩
 · rw[a5];refine List.nodup_cons.mpr ⟨λhm=>?_,E.nd⟩;obtain⟨us,e,_⟩:=E.at_own hm;rw[h]at e;cases e
 ·
  rw[a5]at ha;rcases List.mem_cons.mp ha with rfl|ha
  ·
   cases q:Pr a with
   |none=>rfl
   |some u=>rw[E.sub a u q]at h;cases h
  · exact E.off a ha
theorem aA.cons_tup(E:aA K Pr H σ ρ){p:Addr}{vs:List V}{xs:List D}(h:H p=none)(r:b7 K H vs xs):aA K Pr (Ml H p (.tup vs)) (some (.ref p)::σ) (.d (.tup xs)::ρ) :=
 (E.new h).cons_d (.tup (MA.of bb) (r.new h))
theorem aA.freeze(E:aA K Pr H σ (.own a xs::ρ)){vs:List V}(h:H a=some (.lst vs))(o:Obj):aA K Pr (Ml H a (.frz o (.lst vs))) σ (.d (.lst xs)::ρ):=by
 have pa:Pr a=none:=E.off a (by rw[a5];exact List.mem_cons_self);have nd:=E.nd;rw[a5]at nd;obtain⟨hn,nd⟩:=List.nodup_cons.mp nd;have p:tD H (Ml H a (.frz o (.lst vs))):=λb u pu e=>by rw[aC];exact e;rintro rfl;rw[h]at e;cases e;exact pu
 refine⟨λb u e=>?_,nd,λb hb=>E.off b (by rw[a5];exact List.mem_cons_of_mem _ hb),?_⟩
 · rw[aC];exact E.sub b u e;rintro rfl;rw[pa]at e;cases e
 ·
  have sl:=E.sl
  cases sl with
  | cons q t =>
   obtain⟨e,us,e2,r⟩:=q;rw[h]at e2;cases e2;refine .cons ⟨.ref a,e,.lst (.inl ⟨o,bb⟩) (r.pres p)⟩ (Paired.impMem t λl hl s z=>z.pres p l λb hbm=>?_);rw[aC];rintro rfl;exact hn (gy.mpr ⟨l,hl,hbm⟩)
theorem aH(l:L)(ρ:Ev):owns (l::ρ)=bM l++owns ρ:=rfl
theorem jD{k:L}:∀{ρ:Ev}{i:Nat}{l:L},ρ[i]?=some k->bM l=[]->(owns ρ).Perm (bM k++owns (ρ.set i l))
 |[],_,_,h,_=>by simp at h
 | _::ρ,0,l,h,hl=>by simp at h;subst h;show(owns (_::ρ)).Perm (_++owns (l::ρ));rw[aH,aH,hl];exact List.Perm.refl _
 | m::ρ,i+1,l,h,hl=>by have ih:=jD (i:=i) (ρ:=ρ) (l:=l) (by simpa using h) hl;show(owns (m::ρ)).Perm (bM k++owns (m::ρ.set i l));rw[aH,aH];refine(List.Perm.append_left _ ih).trans ?_;rw[← List.append_assoc,← List.append_assoc];exact List.Perm.append_right _ List.perm_append_comm
theorem zY{a:Addr}{xs:List D}{ρ:Ev}{i:Nat}{l:L}(h:ρ[i]?=some (.own a xs))(hl:bM l=[]):(owns ρ).Perm (a::owns (ρ.set i l)):=jD h hl
theorem w5{ρ:Ev}{i:Nat}(l:L)(h:ρ[i]?=some .un):(owns (ρ.set i l)).Perm (bM l++owns ρ):=by
 have hi:i<ρ.length:=(List.getElem?_eq_some_iff.mp h).1;have pm:=jD (ρ:=ρ.set i l) (i:=i) (k:=l) (l:=.un) (by simp[hi]) rfl;rw[List.set_set]at pm;have e2:ρ.set i .un=ρ:=by have:=List.set_getElem_self (as:=ρ) (i:=i) hi;have e3:ρ[i]=.un:=(List.getElem?_eq_some_iff.mp h).2;rw[e3]at this;exact this
 rw[e2]at pm;exact pm
theorem aA.outL(E:aA K Pr H σ ρ){i:Nat}{k:L}{s:Option V}(h:ρ[i]?=some k)(hs:σ[i]?=some s):aA K Pr H (s::σ) (k::ρ.set i .un):=by have pm:=jD (l:=.un) h rfl;obtain⟨s',hs',q⟩:=Paired.get2 E.sl h;rw[hs]at hs';cases hs';refine⟨E.sub,?_,λb hb=>E.off b (pm.mem_iff.mpr (by rw[aH]at hb;exact hb)),.cons q (Paired.set_r i E.sl λ_ _=>by simp only[bR])⟩;rw[aH];exact pm.nodup_iff.mp E.nd
theorem aA.out(E:aA K Pr H σ ρ){i:Nat}{a:Addr}{xs:List D}(h:ρ[i]?=some (.own a xs)):aA K Pr H (some (.ref a)::σ) (.own a xs::ρ.set i .un):=by
 have pm:=zY (l:=.un) h rfl;obtain⟨s,hs,q⟩:=Paired.get2 E.sl h;refine⟨E.sub,?_,λb hb=>E.off b (pm.mem_iff.mpr (by rw[a5]at hb;exact hb)),.cons ?_ (Paired.set_r i E.sl λ_ _=>by simp only[bR])⟩
 · rw[a5];exact pm.nodup_iff.mp E.nd
 · obtain⟨_,r⟩:=q;exact⟨rfl,r⟩
theorem aA.back{v:Option V}{l:L}(E:aA K Pr H (v::σ) (l::ρ)){i:Nat}(h:ρ[i]?=some .un)(hs:σ[i]?=some v):aA K Pr H σ (ρ.set i l):=by
 have sl:=E.sl
 cases sl with
 | cons q t =>
  have e1:ρ.set i l=(ρ.set i l):=rfl;refine⟨E.sub,?_,λb hb=>?_,Paired.set_r i t λa e=>by rw[hs]at e;cases e;exact q⟩
  · exact(w5 l h).nodup_iff.mpr E.nd
  · exact E.off b ((w5 l h).mem_iff.mp hb)
theorem aA.write(E:aA K Pr H σ (.own a xs::ρ)){vs:List V}{ys:List D}(r:b7 K H vs ys):aA K Pr (Ml H a (.lst vs)) σ (.own a ys::ρ):=by
 have pa:Pr a=none:=E.off a (by rw[a5];exact List.mem_cons_self);have nd:=E.nd;rw[a5]at nd;obtain⟨hn,nd'⟩:=List.nodup_cons.mp nd;obtain⟨us,ha,mu⟩:=E.at_own (a:=a) (by rw[a5];exact List.mem_cons_self);have p:tD H (Ml H a (.lst vs)):=λb u pu e=>by rw[aC];exact e;rintro rfl;rw[ha]at e;cases e;exact mu.no pu
 refine⟨λb u e=>?_,nd,λb hb=>E.off b hb,?_⟩
 · rw[aC];exact E.sub b u e;rintro rfl;rw[pa]at e;cases e
 ·
  have sl:=E.sl
  cases sl with
  | cons q t =>
   obtain⟨e,_⟩:=q;refine .cons ⟨e,vs,bb,r.pres p⟩ (Paired.impMem t λl hl s z=>z.pres p l λb hbm=>?_);rw[aC];rintro rfl;exact hn (gy.mpr ⟨l,hl,hbm⟩)
end
noncomputable abbrev W(α:Type):=Ev->(α->Ev->Prop)->Prop
inductive Fl where
 |nx|bk|ct|rt (r:L)
def EL(X:Cx)(pins:List (Addr×Obj))(σ:St)(Pr:Hp)(post:L->Ev->Prop)(u:Value)(s':Shared):Prop :=
 ∃v H' r ρ',Mt X pins σ H' s'/\cq v u/\aA X.K Pr H' (some v::σ) (r::ρ')/\post r ρ'
def PL(X:Cx)(e:Expr)(t:W L):Prop :=
 ∀(pins:List (Addr×Obj))(s:Shared)(σ:St)(H Pr:Hp)(ρ:Ev)(post:L->Ev->Prop),Mt X pins σ H s->aA X.K Pr H σ ρ->t ρ post->wpAny (model X.prog X.w) X.A (eval e X.env) (EL X pins σ Pr post) X.xe s
def EB(X:Cx)(pins:List (Addr×Obj))(σ:St)(Pr:Hp)(post:Bool->Ev->Prop)(b:Bool)(s':Shared):Prop :=
 ∃H' ρ',Mt X pins σ H' s'/\aA X.K Pr H' σ ρ'/\post b ρ'
def PB(X:Cx)(e:Expr)(t:W Bool):Prop :=
 ∀(pins:List (Addr×Obj))(s:Shared)(σ:St)(H Pr:Hp)(ρ:Ev)(post:Bool->Ev->Prop),Mt X pins σ H s->aA X.K Pr H σ ρ->t ρ post->wpAny (model X.prog X.w) X.A (isTrue e X.env (eval e X.env)) (EB X pins σ Pr post) X.xe s
def EA(X:Cx)(pins:List (Addr×Obj))(σ:St)(Pr:Hp)(bs:List (Option Nat))(post:List L->Ev->Prop)(us:List Value)(s':Shared):Prop :=
 ∃vs H' ls ρ',Mt X pins σ H' s'/\cB vs us/\vs.length=ls.length/\vs.length=bs.length/\aA X.K Pr H' (vs.map some++σ) (ls++ρ')/\(∀(k i:Nat),bs[k]?=some (some i)->ls[k]?=some L.un/\∃v,vs[k]?=some v/\σ[i]?=some (some v))/\post ls ρ'
def M8(X:Cx)(es:List Expr)(bs:List (Option Nat))(t:W (List L)):Prop :=
 ∀(pos:Pos)(pins:List (Addr×Obj))(s:Shared)(σ:St)(H Pr:Hp)(ρ:Ev)(post:List L->Ev->Prop),Mt X pins σ H s->aA X.K Pr H σ ρ->t ρ post ->
  wpAny (model X.prog X.w) X.A (spliced (backTo pos (starEach es X.env))) (EA X pins σ Pr bs post) X.xe s
def SM(X:Cx)(pins:List (Addr×Obj))(Pr:Hp)(post:Fl->Ev->Prop)(f:Flow)(s':Shared):Prop :=
 match f with
 |.next=>∃σ' H' ρ',Mt X pins σ' H' s'/\aA X.K Pr H' σ' ρ'/\post .nx ρ'
 |.brk=>∃σ' H' ρ',Mt X pins σ' H' s'/\aA X.K Pr H' σ' ρ'/\post .bk ρ'
 |.cont=>∃σ' H' ρ',Mt X pins σ' H' s'/\aA X.K Pr H' σ' ρ'/\post .ct ρ'
 |.ret u=>∃v σ' H' r ρ' τ,Mt X pins σ' H' s'/\cq v u/\aA X.K Pr H' (some v::τ) (r::ρ')/\post (.rt r) ρ'
def PM(X:Cx)(st:Stmt)(t:W Fl):Prop :=
 ∀(pins:List (Addr×Obj))(s:Shared)(σ:St)(H Pr:Hp)(ρ:Ev)(post:Fl->Ev->Prop),Mt X pins σ H s->aA X.K Pr H σ ρ->t ρ post->wpAny (model X.prog X.w) X.A (exec st X.env) (SM X pins Pr post) X.xe s
def M9(X:Cx)(st:List Stmt)(t:W Fl):Prop :=
 ∀(pins:List (Addr×Obj))(s:Shared)(σ:St)(H Pr:Hp)(ρ:Ev)(post:Fl->Ev->Prop),Mt X pins σ H s->aA X.K Pr H σ ρ->t ρ post->wpAny (model X.prog X.w) X.A (execs st X.env) (SM X pins Pr post) X.xe s
section
variable{X:Cx}{e a b:Expr}{pos:Pos}{ta tb:W L}
theorem PL.of{t:TE}{u:W L}(h:PE X e t)(q:∀σ H Pr ρ post,aA X.K Pr H σ ρ->u ρ post->t σ H λv H'=>∃r ρ',aA X.K Pr H' (some v::σ) (r::ρ')/\post r ρ'):PL X e u :=
 λpins s σ H Pr ρ post I E hu=>Mv (h pins s σ H _ I (q σ H Pr ρ post E hu)) λu s1 ⟨v,H1,I1,r1,r,ρ',E1,p⟩=>⟨v,H1,r,ρ',I1,r1,E1,p⟩
mutual
noncomputable def cy:L->Option D
 |.un=>none
 |.d x=>some x
 |.own _ xs=>some (.lst xs)
 |.bx none ls=>(cP ls).map .tup
 |.bx (some _) ls=>(cP ls).map .lst
 |.dic _ _=>none
noncomputable def cP:List L->Option (List D)
 |[]=>some []
 | l::ls=>match cy l,cP ls with
  |some x,some xs=>some (x::xs)
  |_,_=>none
end
def eI:Option D->(D->Prop)->Prop
 |some x,k=>k x
 |none,_=>False
theorem yz{o:Option D}{k:D->Prop}(h:eI o k):∃x,o=some x/\k x:=by
 cases o with
 |some x=>exact⟨x,rfl,h⟩
 |none=>exact h.elim
def zk(a:Option Addr)(ls:List L)(k:D->Prop):Prop:=eI (cy (.bx a ls)) k
def Na:L->(D->Prop)->Prop
 |.un,_=>False
 |.d x,k=>k x
 |.own _ xs,k=>k (.lst xs)
 |.bx a ls,k=>zk a ls k
 |.dic _ _,_=>False
theorem zZ{a:Option Addr}{ls:List L}{k:D->Prop}(h:zk a ls k):∃x,cy (.bx a ls)=some x/\k x:=yz h
def Cq(ls:List L)(k:List D->Prop):Prop:=∃xs,cP ls=some xs/\k xs
theorem HN(ls:List L)(k:D->Prop):zk none ls k=Cq ls λxs=>k (.tup xs):=by
 unfold zk Cq;simp only[cy]
 cases cP ls with
 |none=>simp[eI]
 |some xs=>simp[eI]
theorem HP(a:Addr)(ls:List L)(k:D->Prop):zk (some a) ls k=Cq ls λxs=>k (.lst xs):=by
 unfold zk Cq;simp only[cy]
 cases cP ls with
 |none=>simp[eI]
 |some xs=>simp[eI]
theorem Cr(k:List D->Prop):Cq [] k=k []:=by unfold Cq;simp[cP]
theorem Fj(l:L)(k:D->Prop):Na l k=∃x,cy l=some x/\k x:=by
 cases l with
 |un=>simp[Na,cy]
 |d x=>simp[Na,cy]
 |own a xs=>simp[Na,cy]
 | bx a ls =>
  show eI _ k=_
  cases cy (.bx a ls)with
  |none=>simp[eI]
  |some x=>simp[eI]
 |dic a kvs=>simp[Na,cy]
theorem z6(l:L)(ls:List L)(k:List D->Prop):Cq (l::ls) k=Na l λx=>Cq ls λxs=>k (x::xs):=by
 rw[Fj];unfold Cq;simp only[cP]
 cases cy l with
 |none=>simp
 | some x =>
  cases cP ls with
  |none=>simp
  |some xs=>simp
theorem dP{K:PySem.W.Frag}{H:Hp}:∀{vs:List V}{ls:List L},ez K H vs ls↔Paired (bR K H) (vs.map some) ls
 |[],[]=>⟨λ_=>.nil,λ_=>by simp only[ez]⟩
 | v::vs,l::ls=>by
  simp only[ez,List.map_cons];constructor
  · rintro⟨w,us,e,h1,h2⟩;cases e;exact .cons h1 (dP.mp h2)
  ·
   intro h
   cases h with
   |cons q t=>exact⟨v,vs,rfl,q,dP.mpr t⟩
 | [],l::ls=>by
  simp only[ez,List.map_nil];constructor
  · rintro⟨w,us,e,_⟩;cases e
  · intro h;cases h
 | v::vs,[]=>by
  simp only[ez,List.map_cons];constructor
  · intro h;cases h
  · intro h;cases h
theorem vq{K:PySem.W.Frag}{H:Hp}:∀{vs:List V}{xs:List D},Paired (bR K H) (vs.map some) (xs.map .d)->b7 K H vs xs
 |[],[],_=>.nil
 | v::vs,x::xs,h=>by
  simp only[List.map_cons]at h
  cases h with
  | cons q t =>
   simp only[bR]at q;obtain⟨w,e,r⟩:=q;cases e;exact .cons r (vq t)
 |[],_::_,h=>by simp only[List.map_cons,List.map_nil]at h;cases h
 |_::_,[],h=>by simp only[List.map_cons,List.map_nil]at h;cases h
theorem ez.len{K:PySem.W.Frag}{H:Hp}{vs:List V}{ls:List L}(h:ez K H vs ls):vs.length=ls.length:=by have:=Paired.length (dP.mp h);simpa using this
theorem gz:∀{ls:List L}{xs:List D},cP ls=some xs->xs.length=ls.length
 |[],_,h=>by simp[cP]at h;subst h;rfl
 | l::ls,xs,h=>by
  simp only[cP]at h;split at h
  · rename_i x ys h1 h2;cases h;simp[gz h2]
  · cases h
theorem aA.openT{K:PySem.W.Frag}{Pr H:Hp}{σ:St}{ρ:Ev}{v:Option V}{ls:List L}(E:aA K Pr H (v::σ) (.bx none ls::ρ)):∃a vs,v=some (.ref a)/\MA K H a vs/\vs.length=ls.length/\aA K Pr H (vs.map some++σ) (ls++ρ):=by
 have sl:=E.sl
 cases sl with
 | cons q t =>
  simp only[bR]at q;obtain⟨a,vs,e,h,r⟩:=q;have ow:owns (.bx none ls::ρ)=owns (ls++ρ):=by rw[aH,aI];simp only[bM,Option.toList,List.nil_append,eH]
  exact⟨a,vs,e,h,r.len,E.sub,by rw[← ow];exact E.nd,λb hb=>E.off b (by rw[ow];exact hb),Paired.app (dP.mp r) t⟩
theorem aA.openO{K:PySem.W.Frag}{Pr H:Hp}{σ:St}{ρ:Ev}{v:Option V}{a:Addr}{ls:List L}(E:aA K Pr H (v::σ) (.bx (some a) ls::ρ)):∃vs,v=some (.ref a)/\H a=some (.lst vs)/\vs.length=ls.length/\a∉owns (ls++ρ)/\Pr a=none/\aA K Pr H (vs.map some++σ) (ls++ρ):=by
 have sl:=E.sl
 cases sl with
 | cons q t =>
  simp only[bR]at q;obtain⟨e,vs,h,r⟩:=q;have ow:owns (.bx (some a) ls::ρ)=a::owns (ls++ρ):=by rw[aH,aI];simp only[bM,Option.toList,List.cons_append,List.nil_append,eH]
  have nd:=E.nd;rw[ow]at nd;obtain⟨n1,n2⟩:=List.nodup_cons.mp nd;exact⟨vs,e,h,r.len,n1,E.off a (by rw[ow];exact List.mem_cons_self),E.sub,n2,λb hb=>E.off b (by rw[ow];exact List.mem_cons_of_mem _ hb),Paired.app (dP.mp r) t⟩
theorem z7(xs:List D):owns (xs.map .d)=[]:=by
 induction xs with
 |nil=>rfl
 |cons x xs ih=>rw[List.map_cons,aH,ih];rfl
def qe(H H':Hp)(S:List Addr):Prop:=tD H H'/\(∀b,b∉S->H' b=H b)/\∀a∈S,∀vs,H a=some (.lst vs)->∃o,H' a=some (.frz o (.lst vs))
theorem qe.refl(H:Hp):qe H H []:=⟨λ_ _ _ e=>e,λ_ _=>rfl,λ_ h=>by simp at h⟩
mutual
theorem JH:∀(l:L){pins:List (Addr×Obj)}{σ0:St}{s:Shared}{Pr H:Hp}{σ:St}{ρ:Ev}{v:Option V}{x:D},Mt X pins σ0 H s->aA X.K Pr H (v::σ) (l::ρ)->cy l=some x->∃H',Mt X pins σ0 H' s/\aA X.K Pr H' (v::σ) (.d x::ρ)/\qe H H' (bM l)
 |.un,_,_,_,_,_,_,_,_,_,_,_,h=>by simp[cy]at h
 |.dic _ _,_,_,_,_,_,_,_,_,_,_,_,h=>by simp[cy]at h
 | .d y,_,_,_,_,_,_,_,_,_,I,E,h=>by
  simp only[cy,Option.some.injEq]at h
  subst h
  exact⟨_,I,E,qe.refl _⟩
 | .own a xs,_,_,_,_,H,σ,ρ,v,_,I,E,h=>by
  simp only[cy,Option.some.injEq]at h
  subst h
  have sl:=E.sl
  cases sl with
  | cons q t =>
   simp only[bR]at q
   obtain⟨e0,vs,ha,r⟩:=q
   obtain⟨o,I'⟩:=I.freezeL ha
   refine⟨_,I',E.freeze ha o,λb u pu eb=>?_,λb hb=>?_,λb hb vs' eb=>?_⟩
   ·
    rw[aC];exact eb
    rintro rfl
    rw[ha]at eb;cases eb;exact pu
   ·
    rw[aC]
    rintro rfl
    exact hb (by simp[bM])
   ·
    have e:b=a:=by simpa[bM]using hb
    subst e
    rw[ha]at eb;cases eb
    exact⟨o,bb⟩
 | .bx none ls,_,_,_,Pr,H,σ,ρ,v,x,I,E,h=>by
  simp only[cy,Option.map_eq_some_iff]at h
  obtain⟨xs,h,rfl⟩:=h
  obtain⟨a,vs,rfl,ha,hl,E1⟩:=E.openT
  obtain⟨H',I',E',F⟩:=Fk ls hl I E1 h
  have hxl:=gz h
  obtain⟨s1,s2⟩:=Paired.unapp (by simp[hl,hxl]) E'.sl
  refine⟨H',I',(E'.drop (by simp[hl,hxl])).cons_d (.tup (ha.pres F.1) (vq s1)),F.1,λb hb=>F.2.1 b ?_,λb hb=>F.2.2 b ?_⟩
  ·
   simpa[bM,eH]using hb
  ·
   simpa[bM,eH]using hb
 | .bx (some a) ls,_,_,_,Pr,H,σ,ρ,v,x,I,E,h=>by
  simp only[cy,Option.map_eq_some_iff]at h
  obtain⟨xs,h,rfl⟩:=h
  obtain⟨vs,rfl,ha,hl,hn,hp,E1⟩:=E.openO
  obtain⟨H',I',E',F⟩:=Fk ls hl I E1 h
  have hxl:=gz h
  have hal:a∉owns ls:=λz=>hn (by rw[aI];exact List.mem_append_left _ z)
  have haρ:a∉owns ρ:=λz=>hn (by rw[aI];exact List.mem_append_right _ z)
  have ha':H' a=some (.lst vs):=(F.2.1 a hal).trans ha
  obtain⟨s1,s2⟩:=Paired.unapp (by simp[hl,hxl]) E'.sl
  have E2:=E'.drop (by simp[hl,hxl])
  have E3:aA X.K Pr H' (some (.ref a)::σ) (.own a xs::ρ):=by
   refine⟨E2.sub,?_,λb hb=>?_,.cons ?_ E2.sl⟩
   ·
    rw[a5];exact List.nodup_cons.mpr ⟨haρ,E2.nd⟩
   ·
    rw[a5]at hb
    rcases List.mem_cons.mp hb with z|z
    ·
     rw[z];exact hp
    ·
     exact E2.off b z
   ·
    unfold bR
    exact⟨rfl,vs,ha',vq s1⟩
  obtain⟨o,I2⟩:=I'.freezeL ha'
  refine⟨_,I2,E3.freeze ha' o,λb u pu e=>?_,λb hb=>?_,λb hb vs' eb=>?_⟩
  ·
   rw[aC];exact F.1 b u pu e
   rintro rfl
   rw[ha]at e;cases e;exact pu
  ·
   have hb':b≠a/\b∉owns ls:=by simpa[bM,eH,not_or]using hb
   rw[aC hb'.1]
   exact F.2.1 b hb'.2
  ·
   by_cases hba:b=a
   ·
    subst hba
    rw[ha]at eb;cases eb
    exact⟨o,bb⟩
   ·
    have hb':b∈owns ls:=by
     rcases(by simpa[bM,eH]using hb:b=a∨b∈owns ls)with z|z
     ·
      exact absurd z hba
     ·
      exact z
    rw[aC hba]
    exact F.2.2 b hb' vs' eb
theorem Fk:∀(ls:List L){pins:List (Addr×Obj)}{σ0:St}{s:Shared}{Pr H:Hp}{σ:St}{ρ:Ev}{vs:List V}{xs:List D},vs.length=ls.length->Mt X pins σ0 H s->aA X.K Pr H (vs.map some++σ) (ls++ρ)->cP ls=some xs->∃H',Mt X pins σ0 H' s/\aA X.K Pr H' (vs.map some++σ) (xs.map .d++ρ)/\qe H H' (owns ls)
 | [],_,_,_,_,_,_,_,vs,xs,hl,I,E,h=>by
  simp only[cP,Option.some.injEq]at h
  subst h
  cases vs with
  |nil=>exact⟨_,I,E,qe.refl _⟩
  |cons _ _=>simp at hl
 | l::ls,_,_,_,Pr,H,σ,ρ,vs,xs,hl,I,E,h=>by
  simp only[cP]at h
  split at h
  rotate_left
  ·
   cases h
  rename_i x ys h1 h2
  cases h
  cases vs with
  |nil=>simp at hl
  | cons v vs =>
   have hl':vs.length=ls.length:=by simpa using hl
   obtain⟨H1,I1,E1,F1⟩:=JH l I E h1
   have E2:aA X.K (bz H1 (ls++ρ)) H1 (vs.map some++σ) (ls++ρ):=(E1.drop (τ:=[some v]) (lam:=[.d x]) rfl).wide
   obtain⟨H2,I2,E3,F2⟩:=Fk ls hl' I1 E2 h2
   have hyl:=gz h2
   have E4:aA X.K Pr H2 (some v::(vs.map some++σ)) (.d x::(ys.map .d++ρ)):=by
    have z:=aA.step (τ:=[some v]) (lam:=[.d x]) (w:=[]) (μ:=[]) (σ':=vs.map some++σ) (ρ':=ys.map .d++ρ) E1 rfl E3 rfl
    exact z
   refine⟨H2,I2,E4,λb u pu e=>F2.1 b u pu (F1.1 b u pu e),λb hb=>?_,λb hb vs' eb=>?_⟩
   ·
    rw[aH]at hb
    rw[F2.2.1 b (λz=>hb (List.mem_append_right _ z)),F1.2.1 b (λz=>hb (List.mem_append_left _ z))]
   ·
    rw[aH]at hb
    rcases List.mem_append.mp hb with z|z
    ·
     obtain⟨o,eo⟩:=F1.2.2 b z vs' eb
     exact⟨o,F2.1 b _ True.intro eo⟩
    ·
     have hn:b∉bM l:=λz'=>by
      have nd:=E.nd
      rw[List.cons_append,aH,aI]at nd
      exact(List.nodup_append.mp nd).2.2 b z' b (List.mem_append_left _ z) rfl
     exact F2.2.2 b z vs' ((F1.2.1 b hn).trans eb)
end
theorem EL.frz{pins:List (Addr×Obj)}{σ:St}{Pr:Hp}{post:D->Ev->Prop}{u:Value}{s':Shared}(h:EL X pins σ Pr (λr ρ=>Na r λx=>post x ρ) u s') :
  ∃v H' x ρ',Mt X pins σ H' s'/\cq v u/\aA X.K Pr H' (some v::σ) (.d x::ρ')/\post x ρ':=by
 obtain⟨v,H',r,ρ',I,rv,E,p⟩:=h
 cases r with
 |un=>exact p.elim
 |d x=>exact⟨v,H',x,ρ',I,rv,E,p⟩
 | own a xs =>
  obtain⟨H2,I2,E2,_⟩:=JH (.own a xs) I E rfl;exact⟨v,H2,.lst xs,ρ',I2,rv,E2,p⟩
 | bx a ls =>
  obtain⟨x,ex,p⟩:=zZ p;obtain⟨H2,I2,E2,_⟩:=JH (.bx a ls) I E ex;exact⟨v,H2,x,ρ',I2,rv,E2,p⟩
 |dic a kvs=>exact p.elim
def bc(t:W L):W L:=λρ post=>t ρ λr ρ1=>Na r λx=>post (.d x) ρ1
theorem av{t:W L}(h:PL X e t):PL X e (bc t):=λpins s σ H Pr ρ post I E ht =>
 Mv (h pins s σ H Pr ρ _ I E ht) λu s1 q=>by obtain⟨v,H',x,ρ',I',rv,E',p⟩:=EL.frz (post:=λx ρ=>post (.d x) ρ) q;exact⟨v,H',.d x,ρ',I',rv,E',p⟩
theorem aA.head_d{K:PySem.W.Frag}{Pr H:Hp}{v:Option V}{σ:St}{x:D}{ρ:Ev}(E:aA K Pr H (v::σ) (.d x::ρ)):∃w,v=some w/\M7 K H w x:=by
 have sl:=E.sl
 cases sl with
 |cons q t=>exact q
theorem aA.tail{K:PySem.W.Frag}{Pr H:Hp}{v:Option V}{σ:St}{l:L}{ρ:Ev}(E:aA K Pr H (v::σ) (l::ρ)):aA K Pr H σ ρ:=aA.drop (τ:=[v]) (lam:=[l]) E rfl
theorem two{pins:List (Addr×Obj)}{s:Shared}{σ:St}{H Pr:Hp}{ρ:Ev}{R:D->D->Ev->Prop}(ha:PL X a ta)(hb:PL X b tb)(I:Mt X pins σ H s)(E:aA X.K Pr H σ ρ)
  (h:ta ρ λx ρ1=>Na x λdx=>tb ρ1 λy ρ2=>Na y λdy=>R dx dy ρ2) {α:Type} {Q:α->Shared->Prop} {f:Value->Value->Sem α}
  (hf:∀v u s2 x y H2 dx dy ρ2,Mt X pins σ H2 s2->cq x v->cq y u->aA X.K Pr H2 (some y::some x::σ) (.d dy::.d dx::ρ2)->M7 X.K H2 x dx->M7 X.K H2 y dy->R dx dy ρ2->wpAny (model X.prog X.w) X.A (f v u) Q X.xe s2) :
  wpAny (model X.prog X.w) X.A (eval a X.env) (λv s₁=>wpAny (model X.prog X.w) X.A (eval b X.env) (λu s₂=>wpAny (model X.prog X.w) X.A (f v u) Q X.xe s₂) X.xe s₁) X.xe s:=by
 refine Mv (ha pins s σ H Pr ρ _ I E h) λv s1 q=>?_;obtain⟨x,H1,dx,ρ1,I1,r1,E1,q1⟩:=EL.frz (post:=λdx ρ1=>tb ρ1 λy ρ2=>Na y λdy=>R dx dy ρ2) q;refine Mv (hb pins s1 σ H1 _ ρ1 _ I1 E1.tail.wide q1) λu s2 q=>?_;obtain⟨y,H2,dy,ρ2,I2,r2,E2,q2⟩:=EL.frz (post:=λdy ρ2=>R dx dy ρ2) q;have E3:aA X.K Pr H2 (some y::some x::σ) (.d dy::.d dx::ρ2):=aA.step (τ:=[some x]) (lam:=[.d dx]) (w:=[some y]) (μ:=[.d dy]) E1 rfl E2 rfl;obtain⟨_,e1,p1⟩:=E3.head_d;obtain⟨_,e2,p2⟩:=E3.tail.head_d;cases e1;cases e2;exact hf v u s2 x y H2 dx dy ρ2 I2 r1 r2 E3 p2 p1 q2
abbrev Nc:=D->D->(L->Prop)->Prop
def Nd(X:Cx)(f:Value->Value->Sem Value)(op:Nc):Prop :=
 ∀(pins:List (Addr×Obj))(s:Shared)(σ:St)(H Pr:Hp)(ρ:Ev)(x y:V)(v u:Value)(dx dy:D)(post:L->Prop),Mt X pins σ H s->cq x v->cq y u->aA X.K Pr H σ ρ->M7 X.K H x dx->M7 X.K H y dy->op dx dy post ->
  wpAny (model X.prog X.w) X.A (f v u) (λw s'=>∃z H' r,Mt X pins σ H' s'/\cq z w/\aA X.K Pr H' (some z::σ) (r::ρ)/\post r) X.xe s
theorem Nd.of{f:Value->Value->Sem Value}{r:R2}{op:Nc}(h:MH X f r)(q:∀σ H Pr ρ x y dx dy post,aA X.K Pr H σ ρ->M7 X.K H x dx->M7 X.K H y dy->op dx dy post->r x y H λz H'=>∃r,aA X.K Pr H' (some z::σ) (r::ρ)/\post r):Nd X f op :=
 λpins s σ H Pr ρ x y v u dx dy post I rx ry E px py ho=>Mv (h pins s σ H x y v u _ I rx ry (q σ H Pr ρ x y dx dy post E px py ho)) λw s' ⟨z,H',I',rz,r,E',p⟩=>⟨z,H',r,I',rz,E',p⟩
theorem Nd.imp{f:Value->Value->Sem Value}{o1 o2:Nc}(h1:Nd X f o1)(h:∀x y p,o2 x y p->o1 x y p):Nd X f o2 :=
 λpins s σ H Pr ρ x y v u dx dy post I rx ry E px py ho=>h1 pins s σ H Pr ρ x y v u dx dy post I rx ry E px py (h _ _ _ ho)
def ax(op:Nc)(ta tb:W L):W L:=λρ post=>ta ρ λx ρ1=>Na x λdx=>tb ρ1 λy ρ2=>Na y λdy=>op dx dy λr=>post r ρ2
theorem au{op:Operator}{o:Nc}(ho:Nd X (binaryOp op) o)(ha:PL X a ta)(hb:PL X b tb):PL X (.BinOp a op b pos) (ax o ta tb):=λpins s σ H Pr ρ post I E h =>
 wpAny_BinOp (two (R:=λdx dy ρ2=>o dx dy λr=>post r ρ2) ha hb I E h λv u s2 x y H2 dx dy ρ2 I2 r1 r2 E2 p1 p2 q =>
  Mv (ho pins s2 σ H2 Pr ρ2 x y v u dx dy _ I2 r1 r2 E2.tail.tail p1 p2 q) λw s3 ⟨z,H3,r,I3,rz,E3,p⟩=>⟨z,H3,r,ρ2,I3,rz,E3,p⟩)
theorem fX{op:CmpOp}{o:Nc}(ho:Nd X (compareOp op) o)(ha:PL X a ta)(hb:PL X b tb)(hm:behindInMarks op b=false):PL X (.Compare a [op] [b] pos) (ax o ta tb):=λpins s σ H Pr ρ post I E h =>
 wpAny_Compare1 (two (R:=λdx dy ρ2=>o dx dy λr=>post r ρ2) ha hb I E h λv u s2 x y H2 dx dy ρ2 I2 r1 r2 E2 p1 p2 q =>
  Mv (ho pins s2 σ H2 Pr ρ2 x y v u dx dy _ I2 r1 r2 E2.tail.tail p1 p2 q) λw s3 ⟨z,H3,r,I3,rz,E3,p⟩=>⟨z,H3,r,ρ2,I3,rz,E3,p⟩) hm
def wC(x:D):W L:=λρ post=>post (.d x) ρ
theorem ah {i j pos}:PL X (.Constant (.int i) j pos) (wC (.int i)):=PL.of Hj λσ H Pr ρ post E h=>⟨_,_,E.cons_d (.int i),h⟩
theorem jM {b j pos}:PL X (.Constant (.bool b) j pos) (wC (.bl b)):=PL.of JP λσ H Pr ρ post E h=>⟨_,_,E.cons_d (.bl b),h⟩
theorem m8 {j pos}:PL X (.Constant .none j pos) (wC .non):=PL.of Hl λσ H Pr ρ post E h=>⟨_,_,E.cons_d .non,h⟩
theorem a6 {x j pos}:PL X (.Constant (.str x) j pos) (wC (.str x)):=PL.of zw λσ H Pr ρ post E h=>⟨_,_,E.cons_d (.str x),h⟩
def HQ(o:Option L)(i:Nat)(ρ:Ev)(post:L->Ev->Prop):Prop:=match o with
 |some (.d x)=>post (.d x) ρ
 |some (.own _ xs)=>post (.d (.lst xs)) (ρ.set i (.d (.lst xs)))
 |some (.bx a ls)=>zk a ls λx=>post (.d x) (ρ.set i (.d x))
 |_=>False
def ak(i:Nat):W L:=λρ post=>HQ ρ[i]? i ρ post
theorem HR(x:D)(i:Nat)(ρ:Ev)(post:L->Ev->Prop):HQ (some (.d x)) i ρ post=post (.d x) ρ:=(rfl)
theorem Ct(a:Addr)(xs:List D)(i:Nat)(ρ:Ev)(post:L->Ev->Prop):HQ (some (.own a xs)) i ρ post=post (.d (.lst xs)) (ρ.set i (.d (.lst xs))):=(rfl)
theorem Fm(a:Option Addr)(ls:List L)(i:Nat)(ρ:Ev)(post:L->Ev->Prop):HQ (some (.bx a ls)) i ρ post=zk a ls λx=>post (.d x) (ρ.set i (.d x)):=(rfl)
theorem aA.slot{K:PySem.W.Frag}{Pr H:Hp}{σ:St}{ρ:Ev}{i:Nat}{l:L}(E:aA K Pr H σ ρ)(h:ρ[i]?=some l):∃s,σ[i]?=some s/\bR K H s l:=Paired.get2 E.sl h
theorem af(i:Nat){x:Str}{pos:Pos}(hN:X.N[i]?=some x:=by rfl)(hv:Mr X.env.scope x:=by first | exact Or.inl rfl | exact Or.inr (Or.inl rfl) | exact Or.inr (Or.inr rfl)) (hd:(x == ("__debug__" : Str))=false:=by decide)
  (hcd:(x == ("__classdict__" : Str))=false:=by decide):PL X (.Name x pos) (ak i):=by
 intro pins s σ H Pr ρ post I E h;unfold ak HQ at h
 cases q:ρ[i]? with
 |none=>rw[q]at h;exact h.elim
 | some l =>
  rw[q]at h;obtain⟨sv,hs,sl⟩:=E.slot q
  cases l with
  |un=>exact h.elim
  |dic a kvs=>exact h.elim
  | d y =>
   obtain⟨v,rfl,r⟩:=sl;exact Mv (ib hN hv hd hcd pins s σ H (λw H'=>w=v/\H'=H) I ⟨v,hs,rfl,rfl⟩) λu s1 ⟨w,H1,I1,r1,e1,e2⟩=>by subst e1 e2;exact⟨w,H1,_,ρ,I1,r1,E.cons_d r,h⟩
  | own a xs =>
   obtain⟨rfl,vs,ha,r⟩:=sl;refine Mv (ib hN hv hd hcd pins s σ H (λw H'=>w=.ref a/\H'=H) I ⟨.ref a,hs,rfl,rfl⟩) λu s1 ⟨w,H1,I1,r1,e1,e2⟩=>?_;subst e1 e2;obtain⟨o,I2⟩:=I1.freezeL ha;have E2:=(E.out q).freeze ha o;have hi:i<ρ.length:=(List.getElem?_eq_some_iff.mp q).1;have E3:=E2.back (i:=i) (by simp[hi]) hs;rw[List.set_set]at E3;obtain⟨_,e,p⟩:=E2.head_d;cases e;exact⟨_,_,_,_,I2,r1,E3.cons_d p,h⟩
  | bx a ls =>
   obtain⟨y,ey,h⟩:=zZ h
   have hv':∃b,sv=some (.ref b):=by
    cases a with
    |none=>simp only[bR]at sl;obtain⟨b,_,e,_⟩:=sl;exact⟨b,e⟩
    |some b=>simp only[bR]at sl;exact⟨b,sl.1⟩
   obtain⟨b,rfl⟩:=hv';refine Mv (ib hN hv hd hcd pins s σ H (λw H'=>w=.ref b/\H'=H) I ⟨.ref b,hs,rfl,rfl⟩) λu s1 ⟨w,H1,I1,r1,e1,e2⟩=>?_;subst e1 e2;obtain⟨H2,I2,E2,_⟩:=JH (.bx a ls) I1 (E.outL q hs) ey;have hi:i<ρ.length:=(List.getElem?_eq_some_iff.mp q).1;have E3:=E2.back (i:=i) (by simp[hi]) hs;rw[List.set_set]at E3;obtain⟨_,e,p⟩:=E2.head_d;cases e;exact⟨_,_,_,_,I2,r1,E3.cons_d p,h⟩
def HS(o:Option L)(i:Nat)(ρ:Ev)(post:L->Ev->Prop):Prop:=match o with
 |some (.d x)=>post (.d x) ρ
 |some (.own a xs)=>post (.own a xs) (ρ.set i .un)
 |some (.bx a ls)=>post (.bx a ls) (ρ.set i .un)
 |_=>False
def lg(i:Nat):W L:=λρ post=>HS ρ[i]? i ρ post
theorem HU(x:D)(i:Nat)(ρ:Ev)(post:L->Ev->Prop):HS (some (.d x)) i ρ post=post (.d x) ρ:=(rfl)
theorem Cu(a:Addr)(xs:List D)(i:Nat)(ρ:Ev)(post:L->Ev->Prop):HS (some (.own a xs)) i ρ post=post (.own a xs) (ρ.set i .un):=(rfl)
theorem Fn(a:Option Addr)(ls:List L)(i:Nat)(ρ:Ev)(post:L->Ev->Prop):HS (some (.bx a ls)) i ρ post=post (.bx a ls) (ρ.set i .un):=(rfl)
theorem eK(i:Nat){x:Str}{pos:Pos}(hN:X.N[i]?=some x:=by rfl)(hv:Mr X.env.scope x:=by first | exact Or.inl rfl | exact Or.inr (Or.inl rfl) | exact Or.inr (Or.inr rfl)) (hd:(x == ("__debug__" : Str))=false:=by decide)
  (hcd:(x == ("__classdict__" : Str))=false:=by decide):PL X (.Name x pos) (lg i):=by
 intro pins s σ H Pr ρ post I E h;unfold lg HS at h
 cases q:ρ[i]? with
 |none=>rw[q]at h;exact h.elim
 | some l =>
  rw[q]at h;obtain⟨sv,hs,sl⟩:=E.slot q
  cases l with
  |un=>exact h.elim
  |dic a kvs=>exact h.elim
  | d y =>
   obtain⟨v,rfl,r⟩:=sl;exact Mv (ib hN hv hd hcd pins s σ H (λw H'=>w=v/\H'=H) I ⟨v,hs,rfl,rfl⟩) λu s1 ⟨w,H1,I1,r1,e1,e2⟩=>by subst e1 e2;exact⟨w,H1,_,ρ,I1,r1,E.cons_d r,h⟩
  | own a xs =>
   obtain⟨rfl,vs,ha,r⟩:=sl;refine Mv (ib hN hv hd hcd pins s σ H (λw H'=>w=.ref a/\H'=H) I ⟨.ref a,hs,rfl,rfl⟩) λu s1 ⟨w,H1,I1,r1,e1,e2⟩=>?_;subst e1 e2;exact⟨_,_,_,_,I1,r1,E.out q,h⟩
  | bx a ls =>
   have hv':∃b,sv=some (.ref b):=by
    cases a with
    |none=>simp only[bR]at sl;obtain⟨b,_,e,_⟩:=sl;exact⟨b,e⟩
    |some b=>simp only[bR]at sl;exact⟨b,sl.1⟩
   obtain⟨b,rfl⟩:=hv';refine Mv (ib hN hv hd hcd pins s σ H (λw H'=>w=.ref b/\H'=H) I ⟨.ref b,hs,rfl,rfl⟩) λu s1 ⟨w,H1,I1,r1,e1,e2⟩=>?_;subst e1 e2;exact⟨_,_,_,_,I1,r1,E.outL q hs,h⟩
theorem Fo{x:Str}{v:V}{u:Value}{y:D}{pos:Pos}(hg:Gl X x)(hm:X.mg x=some u)(r:cq v u)(hy:∀ H,M7 X.K H v y) (hd:(x == ("__debug__" : Str))=false:=by decide):PL X (.Name x pos) (wC y) :=
 PL.of (vi hg hm r hd) λσ H Pr ρ post E h=>⟨_,_,E.cons_d (hy H),h⟩
def w7:L->(Bool->Prop)->Prop
 |.d (.bl b),k=>k b
 |_,_=>False
def aO(t:W L):W Bool:=λρ post=>t ρ λr ρ1=>w7 r λb=>post b ρ1
theorem oE{r:L}{k:Bool->Prop}(h:w7 r k):∃b,r=.d (.bl b)/\k b:=by
 cases r with
 | d x=>cases x with
  |bl b=>exact⟨b,rfl,h⟩
  |_=>exact h.elim
 |_=>exact h.elim
theorem bD{t:W L}(h:PL X e t)(he:∀whole,isTrue e X.env whole=(do let v ← whole;standAt e.pos;holding [v] (truthy v)):=by intro _;rfl):PB X e (aO t):=by intro pins s σ H Pr ρ post I E ht;rw[he];refine wpAny_bind (Mv (h pins s σ H Pr ρ _ I E ht) λu s1 ⟨v,H1,r,ρ1,I1,rv,E1,p⟩=>wpAny_bind (wpAny_standAt (wpAny_holding ?_)));obtain⟨b,rfl,p⟩:=oE p;obtain⟨_,e1,p1⟩:=E1.head_d;cases e1;cases p1;cases rv;exact wpAny_truthy_bool ⟨H1,ρ1,I1,E1.tail,p⟩
end
section
variable{X:Cx}{e a b c:Expr}{eh:List Expr}{pos:Pos}{ta tb:W L}{tA tB:W Bool}
def Ng(X:Cx)(e:Expr)(t:W Bool):Prop :=
 ∀(whole:Sem Value)(pins:List (Addr×Obj))(s:Shared)(σ:St)(H Pr:Hp)(ρ:Ev)(post:Bool->Ev->Prop),Mt X pins σ H s->aA X.K Pr H σ ρ->t ρ post->wpAny (model X.prog X.w) X.A (isTrue e X.env whole) (EB X pins σ Pr post) X.xe s
theorem Ng.pb{t:W Bool}(h:Ng X e t):PB X e t:=h _
def Cv(t u:W Bool):W Bool:=λρ post=>t ρ λc ρ1=>if c=true then u ρ1 post else post false ρ1
def Nh(t u:W Bool):W Bool:=λρ post=>t ρ λc ρ1=>if c=true then post true ρ1 else u ρ1 post
def nG(t:W Bool):W Bool:=λρ post=>t ρ λc ρ1=>post (!c) ρ1
theorem nV(ha:PB X a tA):Ng X (.BoolOp .And [a] pos) tA:=by
 intro wh pins s σ H Pr ρ post I E h;refine isTrue_and (Mv (ha pins s σ H Pr ρ post I E h) λc s1 e=>?_)
 cases c with
 |true=>exact isTrue_and_nil e
 |false=>exact e
theorem d5(ha:PB X a tA):Ng X (.BoolOp .Or [a] pos) tA:=by
 intro wh pins s σ H Pr ρ post I E h;refine isTrue_or (Mv (ha pins s σ H Pr ρ post I E h) λc s1 e=>?_)
 cases c with
 |false=>exact isTrue_or_nil e
 |true=>exact e
theorem oF(ha:PB X a tA)(hb:Ng X (.BoolOp .And (b::eh) pos) tB):Ng X (.BoolOp .And (a::b::eh) pos) (Cv tA tB):=by
 intro wh pins s σ H Pr ρ post I E h;refine isTrue_and (Mv (ha pins s σ H Pr ρ _ I E h) λc s1 ⟨H1,ρ1,I1,E1,q1⟩=>?_)
 cases c with
 |true=>exact hb wh pins s1 σ H1 Pr ρ1 post I1 E1 q1
 |false=>exact⟨H1,ρ1,I1,E1,q1⟩
theorem eL(ha:PB X a tA)(hb:Ng X (.BoolOp .Or (b::eh) pos) tB):Ng X (.BoolOp .Or (a::b::eh) pos) (Nh tA tB):=by
 intro wh pins s σ H Pr ρ post I E h;refine isTrue_or (Mv (ha pins s σ H Pr ρ _ I E h) λc s1 ⟨H1,ρ1,I1,E1,q1⟩=>?_)
 cases c with
 |true=>exact⟨H1,ρ1,I1,E1,q1⟩
 |false=>exact hb wh pins s1 σ H1 Pr ρ1 post I1 E1 q1
theorem cI(ha:PB X a tA):PB X (.UnaryOp .Not a pos) (nG tA):=by intro pins s σ H Pr ρ post I E h;exact isTrue_not (ha pins s σ H Pr ρ (λc ρ1=>post (!c) ρ1) I E h)
theorem Ni{op:CmpOp}{o:Nc}(ho:Nd X (compareOp op) o)(ha:PL X a ta)(hb:PL X b tb)(hm:behindInMarks op b=false):PB X (.Compare a [op] [b] pos) (aO (ax o ta tb)):=by intro pins s σ H Pr ρ post I E h;refine wpAny_isTrue_Compare1 (two (R:=λdx dy ρ2=>o dx dy λr=>w7 r λb=>post b ρ2) ha hb I E h λv u s2 x y H2 dx dy ρ2 I2 r1 r2 E2 p1 p2 q=>?_) hm;refine Mv (ho pins s2 σ H2 Pr ρ2 x y v u dx dy _ I2 r1 r2 E2.tail.tail p1 p2 q) λw s3 ⟨z,H3,r,I3,rz,E3,p⟩=>?_;obtain⟨b,rfl,p⟩:=oE p;obtain⟨_,e1,p1⟩:=E3.head_d;cases e1;cases p1;cases rz;exact wpAny_truthy_bool ⟨H3,ρ2,I3,E3.tail,p⟩
def mv(ta tb:W L):W L:=λρ post=>ta ρ λr ρ1=>w7 r λc=>if c=true then tb ρ1 post else post (.d (.bl false)) ρ1
def J5(ta tb:W L):W L:=λρ post=>ta ρ λr ρ1=>w7 r λc=>if c=true then post (.d (.bl true)) ρ1 else tb ρ1 post
def z8(t:W Bool):W L:=λρ post=>t ρ λc ρ1=>post (.d (.bl (!c))) ρ1
theorem m9 {op} {t:W L} (h:PL X a t):PL X (.BoolOp op [a] pos) t:=λpins s σ H Pr ρ post I E hw=>BoolOp_one (h pins s σ H Pr ρ post I E hw)
theorem EL.bl{pins:List (Addr×Obj)}{σ:St}{Pr:Hp}{post:Bool->Ev->Prop}{u:Value}{s':Shared}(h:EL X pins σ Pr (λr ρ=>w7 r λb=>post b ρ) u s') :
  ∃H' b ρ',u=.bool b/\Mt X pins σ H' s'/\aA X.K Pr H' σ ρ'/\post b ρ':=by
 obtain⟨v,H',r,ρ',I,rv,E,p⟩:=h;obtain⟨b,rfl,p⟩:=oE p;obtain⟨_,e1,p1⟩:=E.head_d;cases e1;cases p1;cases rv;exact⟨H',b,ρ',rfl,I,E.tail,p⟩
theorem iN(ha:PL X a ta)(hb:PL X (.BoolOp .And (b::eh) pos) tb):PL X (.BoolOp .And (a::b::eh) pos) (mv ta tb):=by
 intro pins s σ H Pr ρ post I E h;refine BoolOp_and (Mv (ha pins s σ H Pr ρ _ I E h) λv s1 q=>?_)
 obtain⟨H1,c,ρ1,rfl,I1,E1,q1⟩:=EL.bl (post:=λc ρ1=>if c=true then tb ρ1 post else post (.d (.bl false)) ρ1) q
 refine wpAny_truthy_bool ?_
 cases c with
 |true=>exact hb pins s1 σ H1 Pr ρ1 post I1 E1 q1
 |false=>exact⟨.bl false,H1,_,ρ1,I1,rfl,E1.cons_d (.bl false),q1⟩
theorem J6(ha:PL X a ta)(hb:PL X (.BoolOp .Or (b::eh) pos) tb):PL X (.BoolOp .Or (a::b::eh) pos) (J5 ta tb):=by
 intro pins s σ H Pr ρ post I E h;refine BoolOp_or (Mv (ha pins s σ H Pr ρ _ I E h) λv s1 q=>?_)
 obtain⟨H1,c,ρ1,rfl,I1,E1,q1⟩:=EL.bl (post:=λc ρ1=>if c=true then post (.d (.bl true)) ρ1 else tb ρ1 post) q
 refine wpAny_truthy_bool ?_
 cases c with
 |false=>exact hb pins s1 σ H1 Pr ρ1 post I1 E1 q1
 |true=>exact⟨.bl true,H1,_,ρ1,I1,rfl,E1.cons_d (.bl true),q1⟩
theorem z9(ha:PL X a ta):PL X (.UnaryOp .Not a pos) (z8 (aO ta)):=by intro pins s σ H Pr ρ post I E h;refine UnaryOp_ (Mv (ha pins s σ H Pr ρ _ I E h) λv s1 q=>?_);obtain⟨H1,c,ρ1,rfl,I1,E1,q1⟩:=EL.bl (post:=λc ρ1=>post (.d (.bl (!c))) ρ1) q;exact not_of (wpAny_truthy_bool ⟨.bl (!c),H1,_,ρ1,I1,rfl,E1.cons_d (.bl _),q1⟩)
def HV(t:W Bool)(ta tb:W L):W L:=λρ post=>t ρ λc ρ1=>if c=true then ta ρ1 post else tb ρ1 post
theorem Aa(hc:PB X c tA)(ha:PL X a ta)(hb:PL X b tb):PL X (.IfExp c a b pos) (HV tA ta tb):=by
 intro pins s σ H Pr ρ post I E h;refine wpAny_IfExp (Mv (hc pins s σ H Pr ρ _ I E h) λd s1 ⟨H1,ρ1,I1,E1,q1⟩=>?_)
 cases d with
 |true=>exact ha pins s1 σ H1 Pr ρ1 post I1 E1 q1
 |false=>exact hb pins s1 σ H1 Pr ρ1 post I1 E1 q1
def Nj(op:D->(L->Prop)->Prop)(t:W L):W L:=λρ post=>t ρ λx ρ1=>Na x λdx=>op dx λr=>post r ρ1
def Ab:D->(L->Prop)->Prop
 |.int i,k=>k (.d (.int (-i)))
 |_,_=>False
theorem D3(ha:PL X a ta):PL X (.UnaryOp .USub a pos) (Nj Ab ta):=by
 intro pins s σ H Pr ρ post I E h;refine UnaryOp_ (Mv (ha pins s σ H Pr ρ _ I E h) λv s1 q=>?_);obtain⟨x,H1,dx,ρ1,I1,r1,E1,q1⟩:=EL.frz (post:=λdx ρ1=>Ab dx λr=>post r ρ1) q;obtain⟨_,e1,p1⟩:=E1.head_d;cases e1
 cases p1 with
 | int i =>
  exact Mv (Hu pins s1 σ H1 _ v (λw H'=>w=.int (-i)/\H'=H1) I1 r1 ⟨i,rfl,rfl,rfl⟩) λu s2 ⟨w,H2,I2,r2,e1,e2⟩=>by subst e1 e2;exact⟨_,_,_,ρ1,I2,r2,E1.tail.cons_d (.int _),q1⟩
 |_=>exact q1.elim
variable{st:Stmt}{sts:List Stmt}{t u:W Fl}
def bN:W Fl:=λρ post=>post .nx ρ
def aV(t u:W Fl):W Fl:=λρ post=>t ρ λf ρ1=>match f with
 |.nx=>u ρ1 post
 |f=>post f ρ1
theorem aU:M9 X [] bN:=λ_ _ σ H Pr ρ post I E h=>wpAny_execs_nil ⟨σ,H,ρ,I,E,h⟩
theorem ai(h1:PM X st t)(h2:M9 X sts u):M9 X (st::sts) (aV t u):=by
 intro pins s σ H Pr ρ post I E h;refine wpAny_execs_cons (Mv (h1 pins s σ H Pr ρ _ I E h) λf s1 q=>?_)
 cases f with
 | next =>
  obtain⟨σ',H',ρ',I',E',q⟩:=q;exact h2 pins s1 σ' H' Pr ρ' post I' E' q
 |ret v=>exact q
 |brk=>exact q
 |cont=>exact q
theorem aq(h1:PM X st t):M9 X [st] t:=by
 intro pins s σ H Pr ρ post I E h;refine wpAny_execs_cons (Mv (h1 pins s σ H Pr ρ _ I E h) λf s1 q=>?_)
 cases f with
 |next=>exact wpAny_execs_nil q
 |ret v=>exact q
 |brk=>exact q
 |cont=>exact q
def vt(t:W L):W Fl:=λρ post=>t ρ λ_ ρ1=>post .nx ρ1
theorem oG{te:W L}(he:PL X e te)(hs:swapsWith e none pos.line X.env=pure false:=by rfl):PM X (.Expr e pos) (vt te):=by intro pins s σ H Pr ρ post I E h;exact wpAny_Expr_any (Mv (he pins s σ H Pr ρ _ I E h) λv s1 ⟨x,H1,r,ρ1,I1,r1,E1,q1⟩=>⟨σ,H1,ρ1,I1,E1.tail,q1⟩) I.quiet hs
def bS(t:W L):W Fl:=λρ post=>t ρ λr ρ1=>post (.rt r) ρ1
theorem aD{te:W L}(he:PL X e te):PM X (.Return (some e) pos) (bS te):=by intro pins s σ H Pr ρ post I E h;exact wpAny_Return_some (Mv (he pins s σ H Pr ρ _ I E h) λv s1 ⟨x,H1,r,ρ1,I1,r1,E1,q1⟩=>⟨x,σ,H1,r,ρ1,σ,I1,r1,E1,q1⟩)
def Nk(c:W Bool)(t u:W Fl):W Fl:=λρ post=>c ρ λb ρ1=>if b=true then t ρ1 post else u ρ1 post
theorem bW{sa sb:List Stmt}(hc:PB X c tA)(ha:M9 X sa t)(hb:M9 X sb u):PM X (.If c sa sb pos) (Nk tA t u):=by
 intro pins s σ H Pr ρ post I E h;refine wpAny_If (Mv (hc pins s σ H Pr ρ _ I E h) λd s1 ⟨H1,ρ1,I1,E1,q1⟩=>?_)
 cases d with
 |true=>exact ha pins s1 σ H1 Pr ρ1 post I1 E1 q1
 |false=>exact hb pins s1 σ H1 Pr ρ1 post I1 E1 q1
theorem aA.forget{K:PySem.W.Frag}{Pr H:Hp}{σ:St}{ρ:Ev}(E:aA K Pr H σ ρ)(i:Nat)(v:Option V):aA K Pr H (σ.set i v) (ρ.set i .un):=by
 have hsub:(owns (ρ.set i .un)).Sublist (owns ρ):=by
  have:∀(ρ:Ev)(i:Nat),(owns (ρ.set i .un)).Sublist (owns ρ):=by
   intro ρ
   induction ρ with
   |nil=>intro i;exact List.Sublist.refl _
   | cons l ρ ih =>
    intro i
    cases i with
    | zero =>
     show(owns ρ).Sublist (owns (l::ρ));rw[aH];exact List.sublist_append_right _ _
    | succ i =>
     show(owns (l::ρ.set i .un)).Sublist (owns (l::ρ));rw[aH,aH];exact(List.Sublist.refl _).append (ih i)
  exact this ρ i
 exact⟨E.sub,E.nd.sublist hsub,λa h=>E.off a (hsub.subset h),Paired.set2 True.intro i E.sl⟩
theorem aA.store{K:PySem.W.Frag}{Pr H:Hp}{σ:St}{ρ:Ev}{v:Option V}{l:L}(E:aA K Pr H (v::σ) (l::ρ)){i:Nat}(hi:i<σ.length):aA K Pr H (σ.set i v) (ρ.set i l):=by have E1:=E.forget (i+1) v;have E2:aA K Pr H (v::σ.set i v) (l::ρ.set i .un):=E1;have hl:=E.tail.len;have E3:=E2.back (i:=i) (by rw[List.getElem?_set_self (by omega)]) (by rw[List.getElem?_set_self hi]);rw[List.set_set]at E3;exact E3
def bq(i:Nat)(t:W L):W Fl:=λρ post=>t ρ λr ρ1=>post .nx (ρ1.set i r)
theorem az{i:Nat}{x:Str}{te:W L}{pos':Pos}(hN:X.N.Nodup)(hi:X.N[i]?=some x)(hx:Ms X.env.scope x)(he:PL X e te)(hs:swapsWith e (some (.Name x pos')) pos.line X.env=pure false:=by rfl)(hf:X.fn x=true∨X.env.scope.names.lookup x=some .local:=by first|exact .inl rfl|exact .inr rfl|assumption) :
  PM X (.Assign [.Name x pos'] e pos) (bq i te):=by
 intro pins s σ H Pr ρ post I E h;refine wpAny_Assign_Name (Mv (he pins s σ H Pr ρ _ I E h) λv s1 ⟨y,H1,r,ρ1,I1,r1,E1,q1⟩=>?_) hs;exact gv I1 hN hi hx r1 (λs2 I2=>⟨_,H1,_,I2,E1.store (by rw[I1.len];exact(List.getElem?_eq_some_iff.mp hi).1),q1⟩) hf
end
theorem iO{a b:Ev}(h:a.Perm b):(owns a).Perm (owns b):=by
 induction h with
 |nil=>exact .refl _
 |cons x _ ih=>rw[aH,aH];exact ih.append_left _
 | swap x y l =>
  rw[aH,aH,aH,aH,← List.append_assoc,← List.append_assoc];exact List.Perm.append_right _ List.perm_append_comm
 |trans _ _ h1 h2=>exact h1.trans h2
theorem Cw{a b:Ev}(h:a.Sublist b):(owns a).Sublist (owns b):=by
 induction h with
 |slnil=>exact .refl _
 |cons x _ ih=>rw[aH];exact ih.trans (List.sublist_append_right _ _)
 |cons_cons x _ ih=>rw[aH,aH];exact(List.Sublist.refl _).append ih
def tL(K:PySem.W.Frag)(t:W L):TE:=λσ H Q=>∃Pr ρ post,aA K Pr H σ ρ/\t ρ post/\∀v H' r ρ',aA K Pr H' (some v::σ) (r::ρ')->post r ρ'->Q v H'
def tW(K:PySem.W.Frag)(t:W Fl):TS:=λD σ H=>∃Pr ρ post,aA K Pr H σ ρ/\t ρ post/\(∀σ' H' ρ',aA K Pr H' σ' ρ'->post .nx ρ'->D.nx σ' H')/\(∀σ' H' ρ',aA K Pr H' σ' ρ'->post .bk ρ'->D.bk σ' H')/\(∀σ' H' ρ',aA K Pr H' σ' ρ'->post .ct ρ'->D.ct σ' H') /\
 ∀v τ H' r ρ',aA K Pr H' (some v::τ) (r::ρ')->post (.rt r) ρ'->D.rt v H'
noncomputable def Nl(K:PySem.W.Frag)(t:W Bool):TT:=λσ H Q=>∃Pr ρ post,aA K Pr H σ ρ/\t ρ post/\∀b H' ρ',aA K Pr H' σ ρ'->post b ρ'->Q b H'
section
variable{X:Cx}{e a b:Expr}{es:List Expr}{pos:Pos}{st:Stmt}{sts:List Stmt}{t u:W Fl}
theorem PL.pe{t:W L}(h:PL X e t):PE X e (tL X.K t):=λpins s σ H Q I ⟨Pr,ρ,post,E,ht,q⟩ =>
 Mv (h pins s σ H Pr ρ post I E ht) λu s1 ⟨v,H1,r,ρ1,I1,rv,E1,p⟩=>⟨v,H1,I1,rv,q v H1 r ρ1 E1 p⟩
theorem PB.pt{t:W Bool}(h:PB X e t):PT X e (Nl X.K t):=λpins s σ H Q I ⟨Pr,ρ,post,E,ht,q⟩ =>
 Mv (h pins s σ H Pr ρ post I E ht) λb s1 ⟨H1,ρ1,I1,E1,p⟩=>⟨H1,I1,q b H1 ρ1 E1 p⟩
theorem M9.pss(h:M9 X sts t):Mu X sts (tW X.K t):=λpins s σ H D I ⟨Pr,ρ,post,E,ht,q1,q2,q3,q4⟩ =>
 Mv (h pins s σ H Pr ρ post I E ht) λf s1 q=>by
  cases f with
  |next=>obtain⟨σ',H',ρ',I',E',p⟩:=q;exact⟨σ',H',I',q1 σ' H' ρ' E' p⟩
  |brk=>obtain⟨σ',H',ρ',I',E',p⟩:=q;exact⟨σ',H',I',q2 σ' H' ρ' E' p⟩
  |cont=>obtain⟨σ',H',ρ',I',E',p⟩:=q;exact⟨σ',H',I',q3 σ' H' ρ' E' p⟩
  |ret u=>obtain⟨v,σ',H',r,ρ',τ,I',rv,E',p⟩:=q;exact⟨v,σ',H',I',rv,q4 v τ H' r ρ' E' p⟩
noncomputable def HW(K:PySem.W.Frag)(Pr:Hp)(post:Fl->Ev->Prop):G6 where
 nx:=λσ' H'=>∃ρ',aA K Pr H' σ' ρ'/\post .nx ρ'
 rt:=λv H'=>∃τ r ρ',aA K Pr H' (some v::τ) (r::ρ')/\post (.rt r) ρ'
 bk:=λσ' H'=>∃ρ',aA K Pr H' σ' ρ'/\post .bk ρ'
 ct:=λσ' H'=>∃ρ',aA K Pr H' σ' ρ'/\post .ct ρ'
theorem PM.of{ts:TS}(h:PS X st ts)(q:∀σ H Pr ρ post,σ.length=X.N.length->aA X.K Pr H σ ρ->t ρ post->ts (HW X.K Pr post) σ H):PM X st t:=λpins s σ H Pr ρ post I E ht =>
 Mv (h pins s σ H _ I (q σ H Pr ρ post I.len E ht)) λf s1 q=>by
  cases f with
  |next=>obtain⟨σ',H',I',ρ',E',p⟩:=q;exact⟨σ',H',ρ',I',E',p⟩
  |brk=>obtain⟨σ',H',I',ρ',E',p⟩:=q;exact⟨σ',H',ρ',I',E',p⟩
  |cont=>obtain⟨σ',H',I',ρ',E',p⟩:=q;exact⟨σ',H',ρ',I',E',p⟩
  |ret u=>obtain⟨v,σ',H',I',rv,τ,r,ρ',E',p⟩:=q;exact⟨v,σ',H',r,ρ',τ,I',rv,E',p⟩
theorem aA.narrow{K:PySem.W.Frag}{Pr H1 H:Hp}{σ1 σ:St}{ρ1 ρ:Ev}(E1:aA K Pr H1 σ1 ρ1)(E:aA K (bz H1 ρ1) H σ ρ):aA K Pr H σ ρ:=by
 refine⟨λb o e=>E.sub b o ?_,E.nd,λa ha=>?_,E.sl⟩
 · unfold bz;rw[if_neg,E1.sub b o e];intro hm;have z:=E1.off b hm;rw[e]at z;cases z
 ·
  have z:=E.off a ha;unfold bz at z;by_cases hm:a∈owns ρ1
  · exact E1.off a hm
  ·
   rw[if_neg hm]at z
   cases q:Pr a with
   |none=>rfl
   |some o=>rw[E1.sub a o q]at z;cases z
def aB:W (List L):=λρ post=>post [] ρ
def ao(t:W L)(r:W (List L)):W (List L):=λρ post=>t ρ λx ρ1=>r ρ1 λxs ρ2=>post (x::xs) ρ2
def jE(i:Nat)(r:W (List L)):W (List L):=λρ post=>match ρ[i]? with
 |some (.own _ _)=>r ρ λxs ρ2=>post (.un::xs) ρ2
 |_=>False
theorem ag:M8 X [] [] aB:=λ_ pins s σ H Pr ρ post I E h=>Calls.spliced_nil ⟨[],H,[],ρ,I,.nil,rfl,rfl,E,λk i e=>by simp at e,h⟩
theorem ae{bs:List (Option Nat)}{r:W (List L)}{t:W L}(ha:PL X e t)(hr:M8 X es bs r)(hs:starEach (e::es) X.env=(false,eval e X.env)::starEach es X.env:=by rfl):M8 X (e::es) (none::bs) (ao t r):=by
 intro pos pins s σ H Pr ρ post I E h;rw[hs];show wpAny _ _ (spliced ((false,eval e X.env)::backTo pos (starEach es X.env))) _ _ s;refine Calls.spliced_cons (Mv (ha pins s σ H Pr ρ _ I E h) λu s1 ⟨x,H1,l,ρ1,I1,r1,E1,q1⟩=>?_);refine Mv (hr pos pins s1 σ H1 _ ρ1 _ I1 E1.tail.wide q1) λus s2 ⟨vs,H2,ls,ρ2,I2,r2,hl,hb,E2,hv,q2⟩=>?_;have E3:aA X.K Pr H2 (vs.map some++(some x::σ)) (ls++(l::ρ2)):=aA.step (τ:=[some x]) (lam:=[l]) E1 rfl E2 (by simp[hl])
 have E4:aA X.K Pr H2 (some x::(vs.map some++σ)) (l::(ls++ρ2)):=by
  have pm:(owns (ls++(l::ρ2))).Perm (owns (l::(ls++ρ2))):=iO List.perm_middle;have s1:=Paired.unapp (by simp[hl]) E3.sl;obtain⟨s1,s2⟩:=s1
  cases s2 with
  |cons q t=>exact⟨E3.sub,pm.nodup_iff.mp E3.nd,λa h=>E3.off a (pm.mem_iff.mpr h),.cons q (Paired.app s1 t)⟩
 refine⟨x::vs,H2,l::ls,ρ2,I2,.cons r1 r2,by simp[hl],by simp[hb],E4,λk i e=>?_,q2⟩
 cases k with
 |zero=>simp at e
 |succ k=>simpa using hv k i (by simpa using e)
theorem a7(i:Nat){x:Str}{p:Pos}{bs:List (Option Nat)}{r:W (List L)}(hr:M8 X es bs r)(hN:X.N[i]?=some x:=by rfl)(hv:Mr X.env.scope x:=by first | exact Or.inl rfl | exact Or.inr (Or.inl rfl) | exact Or.inr (Or.inr rfl)) (hd:(x == ("__debug__" : Str))=false:=by decide)
  (hcd:(x == ("__classdict__" : Str))=false:=by decide) (hs:starEach (.Name x p::es) X.env=(false,eval (.Name x p) X.env)::starEach es X.env:=by rfl):M8 X (.Name x p::es) (some i::bs) (jE i r):=by
 intro pos pins s σ H Pr ρ post I E h;unfold jE at h
 cases q:ρ[i]? with
 |none=>rw[q]at h;exact h.elim
 | some l =>
  rw[q]at h
  cases l with
  |un=>exact h.elim
  |d y=>exact h.elim
  |bx _ _=>exact h.elim
  |dic _ _=>exact h.elim
  | own a xs =>
   obtain⟨sv,hsl,sl⟩:=E.slot q;obtain⟨rfl,_⟩:=sl;rw[hs];show wpAny _ _ (spliced ((false,eval (.Name x p) X.env)::backTo pos (starEach es X.env))) _ _ s;refine Calls.spliced_cons (Mv (ib hN hv hd hcd pins s σ H (λw H'=>w=.ref a/\H'=H) I ⟨.ref a,hsl,rfl,rfl⟩) λu s1 ⟨w,H1,I1,r1,e1,e2⟩=>?_);subst e1 e2;refine Mv (hr pos pins s1 σ H1 Pr ρ _ I1 E h) λus s2 ⟨vs,H2,ls,ρ2,I2,r2,hl,hb,E2,hv,q2⟩=>?_;refine⟨.ref a::vs,H2,.un::ls,ρ2,I2,.cons r1 r2,by simp[hl],by simp[hb],E2.cons_un,λk j e=>?_,q2⟩
   cases k with
   |zero=>simp at e;subst e;exact⟨rfl,.ref a,rfl,hsl⟩
   |succ k=>simpa using hv k j (by simpa using e)
def Cy:List L->(List D->Prop)->Prop
 |[],k=>k []
 |.d x::r,k=>Cy r λxs=>k (x::xs)
 |_::_,_=>False
theorem gA:∀{ls:List L}{k:List D->Prop},Cy ls k->∃xs,ls=xs.map .d/\k xs
 |[],_,h=>⟨[],rfl,h⟩
 | .d x::r,k,h=>by obtain⟨xs,e,q⟩:=gA (ls:=r) h;exact⟨x::xs,by rw[e];rfl,q⟩
 |.un::_,_,h=>h.elim
 |.own _ _::_,_,h=>h.elim
theorem gB{K:PySem.W.Frag}{Pr H:Hp}{σ:St}{ρ:Ev}:∀{vs:List V}{xs:List D},vs.length=xs.length->aA K Pr H (vs.map some++σ) (xs.map .d++ρ)->b7 K H vs xs
 |[],[],_,_=>.nil
 | v::vs,x::xs,hl,E=>by obtain⟨w,e,r⟩:=aA.head_d (v:=some v) (x:=x) E;cases e;exact .cons r (gB (by simpa using hl) (aA.tail (v:=some v) (l:=.d x) E))
 |[],_::_,hl,_=>by simp at hl
 |_::_,[],hl,_=>by simp at hl
def cz(t:W (List L)):W L:=λρ post=>t ρ λls ρ1=>Cy ls λxs=>xs.length≤sizeLine/\post (.d (.tup xs)) ρ1
def fF(t:W (List L)):W L:=λρ post=>t ρ λls ρ1=>Cy ls λxs=>xs.length≤sizeLine/\∀a,post (.own a xs) ρ1
theorem aJ {x1} {bs:List (Option Nat)} {t:W (List L)} (h:M8 X es bs t):PL X (.Tuple es x1 pos) (cz t):=by
 intro pins s σ H Pr ρ post I E hq;refine wpAny_Tuple_spliced (Mv (h pos pins s σ H Pr ρ _ I E hq) λus s1 ⟨vs,H1,ls,ρ1,I1,r,hl,hb,E1,hv,q⟩=>?_);obtain⟨xs,rfl,z,q⟩:=gA q;have hlen:vs.length=xs.length:=by simpa using hl
 refine⟨by rw[← r.length,hlen];exact z,?_⟩;have hf:H1 s1.heap.objs.size=none:=I1.hok.fresh (Nat.le_refl _);refine⟨.ref s1.heap.objs.size,Ml H1 s1.heap.objs.size (.tup vs),_,ρ1,I1.laid (t':=s1.toks) (λb u e=>Heap.get?_push_of_some _ e) (Nat.le_refl _) ?_,rfl,(E1.drop (by simp[hlen])).cons_tup hf (gB hlen E1),q⟩;exact⟨by rw[hlen];exact z,us,r,⟨_,Heap.get?_push_size _ rfl,rfl,_,rfl⟩⟩
theorem bf{bs:List (Option Nat)}{t:W (List L)}(h:M8 X es bs t):PL X (.List es pos) (fF t):=by
 intro pins s σ H Pr ρ post I E hq;refine wpAny_List_spliced (Mv (h pos pins s σ H Pr ρ _ I E hq) λus s1 ⟨vs,H1,ls,ρ1,I1,r,hl,hb,E1,hv,q⟩=>?_);obtain⟨xs,rfl,z,q⟩:=gA q;have hlen:vs.length=xs.length:=by simpa using hl
 refine⟨by rw[← r.length,hlen];exact z,?_⟩;have hf:H1 s1.heap.objs.size=none:=I1.hok.fresh (Nat.le_refl _);refine⟨.ref s1.heap.objs.size,Ml H1 s1.heap.objs.size (.lst vs),_,ρ1,I1.laid (t':=s1.toks) (λb u e=>Heap.get?_push_of_some _ e) (Nat.le_refl _) ?_,rfl,(E1.drop (by simp[hlen])).cons_own hf (gB hlen E1),q _⟩;exact⟨by rw[hlen];exact z,us,0,r,Heap.get?_push_size _ rfl⟩
abbrev FS:=List L->(L->List L->Prop)->Prop
noncomputable def spF(K:PySem.W.Frag)(n:Nat)(fs:FS):Sp:=λvs H Q _=>vs.length=n/\∃Pr ls post,aA K Pr H (vs.map some) ls/\fs ls post/\∀v H' r ls',aA K Pr H' (some v::vs.map some) (r::ls')->post r ls'->Q v H'
theorem aA.swap{K:PySem.W.Frag}{Pr H:Hp}{σ τ:St}{ρ lam:Ev}(hl:τ.length=lam.length)(E:aA K Pr H (τ++σ) (lam++ρ)):aA K Pr H (σ++τ) (ρ++lam):=by have pm:(owns (lam++ρ)).Perm (owns (ρ++lam)):=iO List.perm_append_comm;obtain⟨s1,s2⟩:=Paired.unapp hl E.sl;exact⟨E.sub,pm.nodup_iff.mp E.nd,λa h=>E.off a (pm.mem_iff.mpr h),Paired.app s2 s1⟩
theorem D4{K:PySem.W.Frag}{Pr H H':Hp}{σ τ:St}{ρ ls ls':Ev}{v:Option V}{r:L}(hl:τ.length=ls.length)(E:aA K Pr H (τ++σ) (ls++ρ))(E':aA K (bz H ls) H' (v::τ) (r::ls')):aA K Pr H' (v::(τ++σ)) (r::(ls'++ρ)):=by
 have hρ:σ.length=ρ.length:=(E.drop hl).len;have z:=aA.step (τ:=σ) (σ:=τ) (lam:=ρ) (ρ:=ls) (w:=[v]) (μ:=[r]) (E.swap hl) hρ E' rfl;have hl':τ.length=ls'.length:=by have:=E'.len;simpa using this
 obtain⟨s1,s2⟩:=Paired.unapp (a:=[v]) (b:=[r]) rfl z.sl;obtain⟨s2,s3⟩:=Paired.unapp hρ s2;have pm:(owns ([r]++(ρ++ls'))).Perm (owns (r::(ls'++ρ))):=iO (List.Perm.cons r (List.perm_append_comm (l₁:=ρ) (l₂:=ls')));exact⟨z.sub,pm.nodup_iff.mp z.nd,λa h=>z.off a (pm.mem_iff.mpr h),Paired.app s1 (Paired.app s3 s2)⟩
def aP(fs:FS)(t:W (List L)):W L:=λρ post=>t ρ λls ρ1=>fs ls λr _=>post r ρ1
def bp(fs:FS)(k i:Nat)(t:W (List L)):W L:=λρ post=>t ρ λls ρ1=>match ρ1[i]? with
 |some (.own a xs)=>fs (ls.set k (.own a xs)) λr ls'=>∃ys,ls'[k]?=some (.own a ys)/\post r (ρ1.set i (.own a ys))
 |_=>False
section
variable{CX:MO}{k n:Nat}{f:Addr}{fd:FuncData}{ps:List Str}{fs:FS}{E:XK}{x:Str}{p:Pos}{bs:List (Option Nat)}{t:W (List L)}
theorem aA.drop1{K:PySem.W.Frag}{Pr H:Hp}{σ τ:St}{ρ lam:Ev}{v:Option V}{r:L}(hl:τ.length=lam.length)(E:aA K Pr H (v::(τ++σ)) (r::(lam++ρ))):aA K Pr H (v::σ) (r::ρ):=by obtain⟨s1,s2⟩:=Paired.unapp (a:=[v]) (b:=[r]) rfl E.sl;obtain⟨s2,s3⟩:=Paired.unapp hl s2;have sb:(owns (r::ρ)).Sublist (owns (r::(lam++ρ))):=Cw (List.Sublist.cons_cons r (List.sublist_append_right _ _));exact⟨E.sub,E.nd.sublist sb,λa h=>E.off a (sb.subset h),Paired.app s1 s3⟩
theorem Fp(F:FnOk X.prog X.w X.K X.mg X.base CX k f fd ps (spF X.K n fs))(hr:iI k X.A)(hg:Gl X x)(hm:X.mg x=some (.ref f))(hk:PySem.W.keepIn X.K (.ref f)=true)(hb:mq X.K fd ps [])(hx:wX CX X E)
  (ha:M8 X (e::es) bs t) (hn:bs.length=n) (hdb:(x == ("__debug__" : Str))=false:=by decide) (he:starEach (e::es) X.env=(false,eval e X.env)::starEach es X.env:=by rfl) (hpl:(backTo pos (starEach es X.env)).any (·.1)=false:=by rfl) :
  PL X (.Call (.Name x p) (e::es) [] pos) (aP fs t):=by
 intro pins s σ H Pr ρ post I E0 h;refine wpAny_Call_Name_kw (iH I hg hm ?_ hdb);refine PySem.W.callWith_K (h₀:=X.base) I.ok.mod.kin hk (Mv (ha pos pins s σ H Pr ρ _ I E0 h) λus s1 ⟨vs,H1,ls,ρ1,I1,r,hl,hbl,E1,hv,q⟩=>⟨I1.kIn,?_⟩) he hpl;have hl':(vs.map some).length=ls.length:=by simp[hl]
 refine Mv (zL (Q:=λv H'=>∃r ρ',aA X.K Pr H' (some v::σ) (r::ρ')/\post r ρ') F hr hb .nil hx I1 r ?_) λu s2 ⟨v,H2,I2,rv,r,ρ',E2,p⟩=>⟨v,H2,r,ρ',I2,rv,E2,p⟩;rw[List.append_nil];refine⟨hbl.trans hn,bz H1 ls,ls,_,(E1.left hl').wide,q,λv H' r ls' E2 p=>⟨r,ρ1,?_,p⟩⟩;have z:=D4 hl' E1 E2;have hl2:(vs.map some).length=ls'.length:=by have:=E2.len;simpa using this
 exact z.drop1 hl2
theorem Cz(F:FnOk X.prog X.w X.K X.mg X.base CX k f fd ps (spF X.K n fs))(hr:iI k X.A)(hg:Gl X x)(hm:X.mg x=some (.ref f))(hk:PySem.W.keepIn X.K (.ref f)=true)(hb:mq X.K fd ps [])(hx:wX CX X E)
  (j i:Nat) (ha:M8 X (e::es) bs t) (hj:bs[j]?=some (some i)) (hn:bs.length=n) (hdb:(x == ("__debug__" : Str))=false:=by decide) (he:starEach (e::es) X.env=(false,eval e X.env)::starEach es X.env:=by rfl) (hpl:(backTo pos (starEach es X.env)).any (·.1)=false:=by rfl) :
  PL X (.Call (.Name x p) (e::es) [] pos) (bp fs j i t):=by
 intro pins s σ H Pr ρ post I E0 h;refine wpAny_Call_Name_kw (iH I hg hm ?_ hdb);refine PySem.W.callWith_K (h₀:=X.base) I.ok.mod.kin hk (Mv (ha pos pins s σ H Pr ρ _ I E0 h) λus s1 ⟨vs,H1,ls,ρ1,I1,r,hl,hbl,E1,hv,q⟩=>⟨I1.kIn,?_⟩) he hpl;have hl':(vs.map some).length=ls.length:=by simp[hl]
 refine Mv (zL (Q:=λv H'=>∃r ρ',aA X.K Pr H' (some v::σ) (r::ρ')/\post r ρ') F hr hb .nil hx I1 r ?_) λu s2 ⟨v,H2,I2,rv,r,ρ',E2,p⟩=>⟨v,H2,r,ρ',I2,rv,E2,p⟩;rw[List.append_nil];dsimp only at q
 cases qi:ρ1[i]? with
 |none=>rw[qi]at q;exact q.elim
 | some l =>
  rw[qi]at q
  cases l with
  |un=>exact q.elim
  |d y=>exact q.elim
  |bx _ _=>exact q.elim
  |dic _ _=>exact q.elim
  | own a xs =>
   obtain⟨hun,w,hw,hσ⟩:=hv j i hj;obtain⟨sv,hs2,rfl,_⟩:=(E1.drop hl').slot qi;rw[hσ]at hs2;cases hs2;have hjl:j<ls.length:=(List.getElem?_eq_some_iff.mp hun).1;have hjv:j<vs.length:=by omega
   have hil:i<ρ1.length:=(List.getElem?_eq_some_iff.mp qi).1;have E2:=E1.out (i:=ls.length+i) (a:=a) (xs:=xs) (by rw[List.getElem?_append_right (by omega)];simpa using qi);rw[List.set_append_right _ _ (by omega),Nat.add_sub_cancel_left]at E2;have E3:=E2.back (i:=j) (by rw[List.getElem?_append_left hjl];exact hun) (by rw[List.getElem?_append_left (by simp;omega)];simp[hw]);rw[List.set_append_left _ _ hjl]at E3;have hl3:(vs.map some).length=(ls.set j (.own a xs)).length:=by simp[hl]
   refine⟨hbl.trans hn,bz H1 (ls.set j (.own a xs)),_,_,(E3.left hl3).wide,q,λv H' r ls' E4 p=>?_⟩;obtain⟨ys,hys,p⟩:=p;refine⟨r,ρ1.set i (.own a ys),?_,p⟩;have z:=D4 hl3 E3 E4;have hl4:(vs.map some).length=ls'.length:=by have:=E4.len;simpa using this
   have hjl':j<ls'.length:=by simp at hl4;omega
   have z1:=z.out (i:=1+j) (a:=a) (xs:=ys) (by rw[Nat.add_comm];simp only[List.getElem?_cons_succ];rw[List.getElem?_append_left hjl'];exact hys);rw[Nat.add_comm 1 j,List.set_cons_succ,List.set_append_left _ _ hjl']at z1
   have z2:=z1.back (i:=(1+ls'.length)+i) (by
    rw[Nat.add_comm 1,Nat.add_right_comm,List.getElem?_cons_succ,List.getElem?_append_right (by simp)]
    simp[hil]) (by
    rw[Nat.add_comm 1,Nat.add_right_comm,List.getElem?_cons_succ,List.getElem?_append_right (by simp at hl4 ⊢;omega)];simp at hl4 ⊢;rw[← hl4,Nat.add_sub_cancel_left]
    exact hσ)
   rw[Nat.add_comm 1,Nat.add_right_comm,List.set_cons_succ,List.set_append_right _ _ (by simp)]at z2;simp only[List.length_set,Nat.add_sub_cancel_left,List.set_set]at z2;exact z2.drop1 (by simp at hl4 ⊢;exact hl4)
end
end
def qf(ρ:Ev):List L->List L->Prop:=Paired λl l'=>match l with
 |.own a _=>(∃ys,l'=.own a ys/\L.own a ys∈ρ)∨l'=.un
 |.bx _ _=>l'=.un
 |.dic _ _=>l'=.un
 |l=>l'=l
def aY(ls:List L)(post:L->List L->Prop):Fl->Ev->Prop:=λf ρ=>match f with
 |.rt r=>∃ls',qf ρ ls ls'/\post r ls'
 |.nx=>∃ls',qf ρ ls ls'/\post (.d .non) ls'
 |_=>False
theorem qf.owns{ρ:Ev}:∀{ls ls':List L},qf ρ ls ls'->(owns ls').Sublist (owns ls)
 |_,_,.nil=>.refl _
 | l::ls,l'::ls',.cons h t=>by
  have ih:=qf.owns t;rw[aH,aH]
  cases l with
  | own a xs =>
   rcases h with⟨ys,rfl,_⟩|rfl
   · exact(List.Sublist.refl _).append ih
   · exact ih.trans (List.sublist_append_right _ _)
  |un=>have e:l'=.un:=h;subst e;exact(List.Sublist.refl _).append ih
  |d x=>have e:l'=.d x:=h;subst e;exact(List.Sublist.refl _).append ih
  |bx k ms=>have e:l'=.un:=h;subst e;exact ih.trans (List.sublist_append_right _ _)
  |dic k ms=>have e:l'=.un:=h;subst e;exact ih.trans (List.sublist_append_right _ _)
theorem qf.sub{ρ:Ev}:∀{ls ls':List L},qf ρ ls ls'->∀a∈L2.owns ls',a∈L2.owns ρ
 |_,_,.nil=>λa ha=>by simp[L2.owns]at ha
 | l::ls,l'::ls',.cons h t=>λa ha=>by
  have ih:=qf.sub t;rw[aH]at ha;rcases List.mem_append.mp ha with z|z
  ·
   cases l with
   | own b xs =>
    rcases h with⟨ys,rfl,hm⟩|rfl
    ·
     have e:a=b:=by simpa[bM]using z
     subst e;exact Fh hm
    · simp[bM]at z
   |un=>have e:l'=.un:=h;subst e;simp[bM]at z
   |d x=>have e:l'=.d x:=h;subst e;simp[bM]at z
   |bx k ms=>have e:l'=.un:=h;subst e;simp[bM]at z
   |dic k ms=>have e:l'=.un:=h;subst e;simp[bM]at z
  · exact ih a z
theorem w8{K:PySem.W.Frag}{Pr H H':Hp}{σ τ:St}{ls ls' ρ:Ev}{v:Option V}{r:L}(E:aA K Pr H σ ls)(E':aA K (bz H ls) H' (v::τ) (r::ρ))(B:qf ρ ls ls'):aA K Pr H' (v::σ) (r::ls'):=by
 have E1:=E.narrow E';have p:tD H H':=qL E E'.sub;have sub:=B.sub;have nd1:(owns ls').Nodup:=E.nd.sublist B.owns;refine⟨E1.sub,?_,λa ha=>?_,?_⟩
 · have nd:=E'.nd;rw[aH]at nd ⊢;obtain⟨n1,n2,n3⟩:=List.nodup_append.mp nd;exact List.nodup_append.mpr ⟨n1,nd1,λa ha b hb=>n3 a ha b (sub b hb)⟩
 ·
  rw[aH]at ha;refine E1.off a ?_;rw[aH];rcases List.mem_append.mp ha with z|z
  · exact List.mem_append_left _ z
  · exact List.mem_append_right _ (sub a z)
 ·
  have s1:=E'.sl
  cases s1 with
  | cons q t =>
   refine .cons q ?_;have sl:=E.sl;clear E E' E1 nd1 sub
   induction B generalizing σ with
   |nil=>cases sl;exact .nil
   | cons h u ih =>
    rename_i l l' _ _
    cases sl with
    | cons s0 s2 =>
     refine .cons ?_ (ih s2)
     cases l with
     | own a xs =>
      rcases h with⟨ys,rfl,hm⟩|rfl
      · obtain⟨e,_⟩:=s0;obtain⟨_,_,_,z⟩:=Paired.mem2 t hm;exact⟨e,z⟩
      · unfold bR;exact True.intro
     |un=>have e:l'=.un:=h;subst e;unfold bR;exact True.intro
     |bx k ms=>have e:l'=.un:=h;subst e;unfold bR;exact True.intro
     |dic k ms=>have e:l'=.un:=h;subst e;unfold bR;exact True.intro
     | d x =>
      have e:l'=.d x:=h;subst e;obtain⟨w,e,r⟩:=s0;exact⟨w,e,r.pres p⟩
section
variable{P:Program}{w:World}{K:PySem.W.Frag}{mg:Str->Option Value}{base:Heap}
theorem aA.uns{K:PySem.W.Frag}{Pr H:Hp}{σ:St}{ρ:Ev}(E:aA K Pr H σ ρ):∀n,aA K Pr H (σ++List.replicate n none) (ρ++List.replicate n .un):=λn=>by
 have e:owns (ρ++List.replicate n .un)=owns ρ:=by
  rw[aI]
  have:owns (List.replicate n L.un)=[]:=by
   induction n with
   |zero=>rfl
   |succ n ih=>rw[List.replicate_succ,m7];exact ih
  rw[this,List.append_nil]
 refine⟨E.sub,by rw[e];exact E.nd,λa h=>E.off a (by rw[e]at h;exact h),Paired.app E.sl ?_⟩
 induction n with
 |zero=>exact .nil
 | succ n ih =>
  rw[List.replicate_succ,List.replicate_succ];refine .cons True.intro (ih ?_)
  have:owns (List.replicate n L.un)=[]:=by
   clear ih e
   induction n with
   |zero=>rfl
   |succ n ih=>rw[List.replicate_succ,m7];exact ih
  rw[aI,this,List.append_nil]
theorem br{x qual:Str}{st:Stmt}{f:Addr}{fd:FuncData}{N ps:List Str}{k:Nat}{fs:FS}(F:M5 K x qual st f fd)(S:aF N ps (ar st))(t:W Fl)
  (hbody:∀(cdv:Value)(A:Around)(outer:List Env)(s:Shared)(H:Hp)(E:XK),iI k (A.deeper (envOfC qual (ar st) s.heap.objs.size f cdv))->M9 (Cg CX0 P w K mg base N qual (ar st) f cdv A outer s H E).nox (eG st) t)
  (h:∀ls post,ls.length=ps.length->fs ls post->t (ls++List.replicate (N.length-ps.length) .un) (aY ls post)):FnOk P w K mg base CX0 (k+1) f fd ps (spF K ps.length fs):=by
 refine F.ok S (λvs H Q E q=>q.1) (λcdv A outer s H vs Q E hr q=>?_);obtain⟨hl,Pr,ls,post,E0,hf,q⟩:=q;refine⟨_,(hbody cdv A outer s H E hr).pss,bz H ls,ls++List.replicate (N.length-ps.length) .un,aY ls post,?_,h ls post (by rw[← hl];have:=E0.len;simpa using this.symm) hf,λσ' H' ρ' E' p=>?_,λ_ _ _ _ p=>p.elim,λ_ _ _ _ p=>p.elim,λv τ H' r ρ' E' p=>?_⟩
 · unfold nE;rw[hl];exact E0.wide.uns _
 · obtain⟨ls',B,p⟩:=p;exact q .non H' (.d .non) ls' (w8 E0 (E'.cons_d .non) B) p
 · obtain⟨ls',B,p⟩:=p;exact q v H' r ls' (w8 E0 E' B) p
end
theorem aL{ρ:Ev}:qf ρ [] []:=.nil
theorem aj{ρ:Ev}{x:D}{a b:List L}(t:qf ρ a b):qf ρ (.d x::a) (.d x::b):=.cons rfl t
theorem dF{ρ:Ev}{p:Addr}{xs ys:List D}{a b:List L}(h:L.own p ys∈ρ)(t:qf ρ a b):qf ρ (.own p xs::a) (.own p ys::b):=.cons (.inl ⟨ys,rfl,h⟩) t
section
variable{X:Cx}{e a b c tg:Expr}{es:List Expr}{pos:Pos}{tA:W Bool}{t u:W Fl}
def oH(c:W Bool)(b:W Fl):W Fl:=λρ post=>∃J:Nat->Ev->Prop,(∃n,J n ρ)/\∀n ρ,J n ρ->c ρ λt ρ1=>if t=true then b ρ1 λf ρ2=>(match f with
 |.nx=>∃m,m<n/\J m ρ2
 |.ct=>∃m,m<n/\J m ρ2
 |.bk=>post .nx ρ2
 |.rt r=>post (.rt r) ρ2)else post .nx ρ1
theorem lh{body:List Stmt}(hp:PassesOwn (model X.prog X.w) X.A X.env X.xe)(hc:PB X c tA)(hb:M9 X body t):PM X (.While c body [] pos) (oH tA t):=by
 refine PM.of (Cc hp hc.pt hb.pss) λσ H Pr ρ post hlen E h=>?_;obtain⟨J,⟨n0,j0⟩,turn⟩:=h;refine⟨λn σ H=>∃ρ,aA X.K Pr H σ ρ/\J n ρ,⟨n0,ρ,E,j0⟩,λn σ1 H1 ⟨ρ1,E1,j1⟩=>⟨Pr,ρ1,_,E1,turn n ρ1 j1,λb H2 ρ2 E2 q=>?_⟩⟩
 cases b with
 |false=>exact⟨ρ2,E2,q⟩
 | true =>
  refine⟨λσ' H'=>∃ρ' m,aA X.K Pr H' σ' ρ'/\m<n/\J m ρ',λσ' H' ⟨ρ',m,E',hm,j⟩=>⟨m,hm,ρ',E',j⟩,Pr,ρ2,_,E2,q,λσ' H' ρ' E' ⟨m,hm,j⟩=>⟨ρ',m,E',hm,j⟩,λσ' H' ρ' E' p=>⟨ρ',E',p⟩,λσ' H' ρ' E' ⟨m,hm,j⟩=>⟨ρ',m,E',hm,j⟩,λv τ H' r ρ' E' p=>⟨τ,r,ρ',E',p⟩⟩
abbrev Tg:=D->Ev->(Ev->Prop)->Prop
def Nm(X:Cx)(tg:Expr)(g:Tg):Prop:=∃gg:TG,PG X tg gg/\∀v σ H Pr ρ x k,σ.length=X.N.length->aA X.K Pr H σ ρ->M7 X.K H v x->g x ρ k->gg v σ H λσ' H'=>H'=H/\σ'.length=X.N.length/\∃ρ',aA X.K Pr H σ' ρ'/\k ρ'
def b8(i:Nat):Tg:=λx ρ k=>k (ρ.set i (.d x))
theorem mw{i:Nat}{x:Str}(hN:X.N.Nodup)(hi:X.N[i]?=some x)(hx:Ms X.env.scope x)(hf:X.fn x=true∨X.env.scope.names.lookup x=some .local:=by first|exact .inl rfl|exact .inr rfl|assumption):Nm X (.Name x pos) (b8 i) :=
 ⟨_,qF hN hi hx hf,λv σ H Pr ρ x k hl E r h=>⟨rfl,by simpa using hl,_,(E.cons_d r).store (by rw[hl];exact(List.getElem?_eq_some_iff.mp hi).1),h⟩⟩
def gC:List Nat->List D->Ev->(Ev->Prop)->Prop
 |[],[],ρ,k=>k ρ
 |i::is,x::xs,ρ,k=>gC is xs (ρ.set i (.d x)) k
 |_,_,_,_=>False
def Nn(X:Cx)(es:List Expr)(is:List Nat):Prop:=∃gg:MB,MC X es gg/\es.length=is.length/\∀vs σ H Pr ρ xs k,σ.length=X.N.length->aA X.K Pr H σ ρ->b7 X.K H vs xs->gC is xs ρ k->gg vs σ H λσ' H'=>H'=H/\σ'.length=X.N.length/\∃ρ',aA X.K Pr H σ' ρ'/\k ρ'
theorem d6:Nn X [] []:=⟨_,zz,rfl,λvs σ H Pr ρ xs k hl E r h=>by
 cases r with
 |nil=>exact⟨rfl,rfl,hl,ρ,E,h⟩
 |cons _ _=>exact h.elim⟩
theorem aK{i:Nat}{is:List Nat}{x:Str}(hN:X.N.Nodup)(hi:X.N[i]?=some x)(hx:Ms X.env.scope x)(hr:Nn X es is)(hf:X.fn x=true∨X.env.scope.names.lookup x=some .local:=by first|exact .inl rfl|exact .inr rfl|assumption)
  (hs:(assignEach (.Name x pos::es) X.env).map (·.2)=assign (.Name x pos) X.env::(assignEach es X.env).map (·.2):=by rfl):Nn X (.Name x pos::es) (i::is):=by
 obtain⟨gg,hg,hlen,q⟩:=hr;refine⟨_,wV (qF hN hi hx hf) hg hs,by simp[hlen],λvs σ H Pr ρ xs k hl E r h=>?_⟩
 cases r with
 |nil=>exact h.elim
 | cons r0 t =>
  refine⟨_,_,rfl,?_⟩;exact q _ _ H Pr _ _ k (by simpa using hl) ((E.cons_d r0).store (by rw[hl];exact(List.getElem?_eq_some_iff.mp hi).1)) t h
def iP(is:List Nat):Tg:=λx ρ k=>match x with
 |.tup xs=>gC is xs ρ k
 |_=>False
theorem kb:∀{is:List Nat}{xs:List D}{ρ:Ev}{k:Ev->Prop},gC is xs ρ k->xs.length=is.length
 |[],[],_,_,_=>rfl
 |_::is,_::xs,_,_,h=>by simp[kb (is:=is) (xs:=xs) h]
 |[],_::_,_,_,h=>h.elim
 |_::_,[],_,_,h=>h.elim
theorem ig{is:List Nat}{k:Nat}(hc:X.calm=true)(h:Nn X es is)(hn:(assignEach es X.env).length=is.length:=by rfl)(hst:(assignEach es X.env).findIdx? (·.1)=none:=by rfl):Nm X (.Tuple es k pos) (iP is):=by
 obtain⟨gg,hg,hlen,q⟩:=h;refine⟨_,DY hc hg hn hst,λv σ H Pr ρ x k hl E r h=>?_⟩
 cases r with
 |tup hs rs=>exact⟨_,_,rfl,hs,by rw[rs.length];exact kb h,q _ σ H Pr ρ _ k hl E rs h⟩
 |_=>exact h.elim
def cu(g:Tg)(b:W Fl):List D->W Fl
 |[]=>λρ post=>post .nx ρ
 | x::xs=>λρ post=>g x ρ λρ1=>b ρ1 λf ρ2=>match f with
  |.nx=>cu g b xs ρ2 post
  |.ct=>cu g b xs ρ2 post
  |.bk=>post .nx ρ2
  |.rt r=>post (.rt r) ρ2
def iQ:D->(List D->Prop)->Prop
 |.lst xs,k=>k xs
 |.tup xs,k=>k xs
 |_,_=>False
def HX(H H':Hp):Prop:=H'=H∨∃p o,H p=none/\H'=Ml H p o
theorem aA.grown{K:PySem.W.Frag}{Pr H H':Hp}{σ:St}{ρ:Ev}(E:aA K Pr H σ ρ)(g:HX H H'):aA K Pr H' σ ρ:=by
 rcases g with rfl|⟨p,o,h,rfl⟩
 · exact E
 · exact E.new h
def Ac(K:PySem.W.Frag)(H:Hp)(J:It)(xs:List D):Prop:=∀H',tD H H' ->
 (∀i x,xs[i]?=some x->J.go i H'/\∀v H2,J.yld i H' v H2->HX H' H2/\M7 K H2 v x)/\J.stop xs.length H'
def EI(X:Cx)(pins:List (Addr×Obj))(σ:St)(tg:Expr)(Pr:Hp)(post:List D->Ev->Prop)(itv:Value)(s2:Shared):Prop :=
 ∃(it:Addr)(fp:List Addr)(tn:Nat->Heap->Prop)(J:It)(H':Hp)(xs:List D)(ρ':Ev),itv=.ref it/\Mt X pins σ H' s2/\G7 X.prog X.w X.K tg J fp it tn/\tn 0 s2.heap/\(∀b∈fp,B4 X pins H' b)/\aA X.K Pr H' σ ρ'/\Ac X.K H' J xs/\post xs ρ'
def Np(X:Cx)(tg iter:Expr)(w:W (List D)):Prop :=
 ∀(pins:List (Addr×Obj))(s:Shared)(σ:St)(H Pr:Hp)(ρ:Ev)(post:List D->Ev->Prop),Mt X pins σ H s->aA X.K Pr H σ ρ->w ρ post ->
  wpAny (model X.prog X.w) X.A (eval iter X.env) (λv s1=>wpAny (model X.prog X.w) X.A (pyIter v) (EI X pins σ tg Pr post) X.xe s1) X.xe s
def zl(t:W L):W (List D):=λρ post=>t ρ λr ρ1=>Na r λx=>iQ x λxs=>post xs ρ1
theorem yA{K:PySem.W.Frag}{H:Hp}{a:Addr}{vs:List V}{xs:List D}(h:M6 K H a vs)(r:b7 K H vs xs):Ac K H (ME K a) xs:=λH' p=>by have h':=(h.pres p).l;refine⟨λi x e=>?_,⟨vs,h',by rw[r.length];exact Nat.le_refl _⟩⟩;obtain⟨v,ev,rv⟩:=r.get e;refine⟨⟨vs,v,h',ev⟩,λw H2 ⟨e1,e2⟩=>?_⟩;have e3:=e2 vs h';rw[ev]at e3;cases e3;subst e1;exact⟨.inl rfl,rv.pres p⟩
theorem Ad{K:PySem.W.Frag}{H:Hp}{a:Addr}{vs:List V}{xs:List D}(h:MA K H a vs)(r:b7 K H vs xs):Ac K H (MF K a) xs:=λH' p=>by have h':=h.pres p;refine⟨λi x e=>?_,⟨vs,h',by rw[r.length];exact Nat.le_refl _⟩⟩;obtain⟨v,ev,rv⟩:=r.get e;refine⟨⟨vs,v,h',ev⟩,λw H2 ⟨e1,e2⟩=>?_⟩;have e3:=e2 vs h';rw[ev]at e3;cases e3;subst e1;exact⟨.inl rfl,rv.pres p⟩
theorem fG{t:W L}(h:PL X e t):Np X tg e (zl t):=by
 intro pins s σ H Pr ρ post I E ht;refine Mv (h pins s σ H Pr ρ _ I E ht) λu s1 q=>?_;obtain⟨v,H1,x,ρ1,I1,r1,E1,q2⟩:=EL.frz (post:=λx ρ1=>iQ x λxs=>post xs ρ1) q;obtain⟨_,e1,p⟩:=E1.head_d;cases e1
 cases p with
 | lst hz rs =>
  cases r1;obtain⟨its,rv,pl,hz'⟩:=I1.list hz.l;refine wpAny_pyIter_list pl.isList ?_;refine⟨s1.heap.objs.size,[s1.heap.objs.size],_,_,H1,_,ρ1,rfl,I1.kept (t':=s1.toks) λb o e=>Heap.get?_push_of_some _ e,zA _ _,⟨_,Heap.get?_push_size _ rfl,rfl,rfl⟩,λb hb=>?_,E1.tail,yA hz rs,q2⟩;have e:b=s1.heap.objs.size:=by simpa using hb
  subst e;exact I1.fpOk (Nat.le_refl _) (I1.hok.fresh (Nat.le_refl _))
 | tup hz rs =>
  cases r1;obtain⟨its,rv,pl,hz'⟩:=I1.tuple hz;refine wpAny_pyIter_tuple (show s1.heap.IsTuple _ its.toArray from pl) ?_;refine⟨s1.heap.objs.size,[s1.heap.objs.size],_,_,H1,_,ρ1,rfl,I1.kept (t':=s1.toks) λb o e=>Heap.get?_push_of_some _ e,ym _ _,⟨_,Heap.get?_push_size _ rfl,rfl,rfl⟩,λb hb=>?_,E1.tail,Ad hz rs,q2⟩;have e:b=s1.heap.objs.size:=by simpa using hb
  subst e;exact I1.fpOk (Nat.le_refl _) (I1.hok.fresh (Nat.le_refl _))
 |_=>exact q2.elim
noncomputable def ve(lo:Int)(n:Nat):List D:=(List.range n).map λ(i:Nat)=>.int (lo+(i:Int))
theorem tG{K:PySem.W.Frag}{H:Hp}(lo:Int)(n:Nat):Ac K H (MG lo n) (ve lo n):=λH' p=>by
 refine⟨λi x e=>?_,?_⟩
 ·
  have hi:i<n:=by have:=(List.getElem?_eq_some_iff.mp e).1;simpa[ve]using this
  refine⟨hi,λv H2 ⟨e1,e2⟩=>?_⟩;subst e1 e2;have:x=.int (lo+(i:Int)):=by unfold ve at e;rw[List.getElem?_map,List.getElem?_range hi]at e;simpa using e.symm
  subst this;exact⟨.inl rfl,.int _⟩
 · show n≤(ve lo n).length;simp[ve]
def nH:L->(Int->Prop)->Prop
 |.d (.int i),k=>k i
 |_,_=>False
theorem eA{r:L}{k:Int->Prop}(h:nH r k):∃i,r=.d (.int i)/\k i:=by
 cases r with
 | d x=>cases x with
  |int i=>exact⟨i,rfl,h⟩
  |_=>exact h.elim
 |_=>exact h.elim
def Ae(j:Int):Prop:=-(2^62)≤j/\j<2^62
def tH(t:W L):W (List D):=λρ post=>t ρ λr ρ1=>nH r λj=>Ae j/\post (ve 0 j.toNat) ρ1
def Fq(t u:W L):W (List D):=λρ post=>t ρ λr ρ1=>nH r λi=>u ρ1 λr ρ2=>nH r λj=>Ae i/\Ae j/\post (ve i (j-i).toNat) ρ2
theorem jF{t:W L}{p pos:Pos} (hg:Gl X "range") (hm:X.mg "range"=none) (ha:PL X a t) (hs:starEach [a] X.env=[(false,eval a X.env)]:=by rfl):Np X tg (.Call (.Name "range" p) [a] [] pos) (tH t):=by
 intro pins s σ H Pr ρ post I E h;refine Mv (zB (tg:=tg) hg hm (bV ha.pe ic hs) hs pins s σ H (λJ H1=>∃ρ1 n,J=MG 0 n/\aA X.K Pr H1 σ ρ1/\post (ve 0 n) ρ1) I ?_) λv s1 q=>Mv q λitv s2 ⟨it,fp,tn,J,H',e,I',T,t0,hf,ρ1,n,eJ,E1,q⟩=>?_
 · refine⟨Pr,ρ,_,E,h,λv H' r ρ' E' p=>?_⟩;obtain⟨j,rfl,hj,p⟩:=eA p;obtain⟨_,e1,p1⟩:=E'.head_d;cases e1;cases p1;exact⟨j,rfl,hj.1,hj.2,ρ',_,rfl,E'.tail,p⟩
 · subst eJ;exact⟨it,fp,tn,_,H',_,ρ1,e,I',T,t0,hf,E1,tG 0 n,q⟩
theorem CA{t u:W L}{p pos:Pos} (hg:Gl X "range") (hm:X.mg "range"=none) (ha:PL X a t) (hb:PL X b u) (hs:starEach [a,b] X.env=[(false,eval a X.env),(false,eval b X.env)]:=by rfl) (hs2:starEach [b] X.env=[(false,eval b X.env)]:=by rfl):Np X tg (.Call (.Name "range" p) [a,b] [] pos) (Fq t u):=by
 intro pins s σ H Pr ρ post I E h;refine Mv (zC (tg:=tg) hg hm (bV ha.pe (bV hb.pe ic hs2) (hs.trans (by rw[hs2]))) hs hs2 pins s σ H (λJ H1=>∃ρ1 lo n,J=MG lo n/\aA X.K Pr H1 σ ρ1/\post (ve lo n) ρ1) I ?_) λv s1 q=>Mv q λitv s2 ⟨it,fp,tn,J,H',e,I',T,t0,hf,ρ1,lo,n,eJ,E1,q⟩=>?_
 · refine⟨Pr,ρ,_,E,h,λv H' r ρ' E' p=>?_⟩;obtain⟨i,rfl,p⟩:=eA p;obtain⟨_,e1,p1⟩:=E'.head_d;cases e1;cases p1;refine⟨Pr,ρ',_,E'.tail,p,λv H2 r ρ2 E2 p=>?_⟩;obtain⟨j,rfl,hi,hj,p⟩:=eA p;obtain⟨_,e1,p1⟩:=E2.head_d;cases e1;cases p1;exact⟨i,j,rfl,⟨hi.1,hi.2,hj.1,hj.2⟩,ρ2,_,_,rfl,E2.tail,p⟩
 · subst eJ;exact⟨it,fp,tn,_,H',_,ρ1,e,I',T,t0,hf,E1,tG lo n,q⟩
def vw(s:W (List D))(g:Tg)(b:W Fl):W Fl:=λρ post=>s ρ λxs ρ1=>cu g b xs ρ1 post
theorem fY{iter:Expr}{body:List Stmt}{w:W (List D)}{g:Tg}(hp:PassesOwn (model X.prog X.w) X.A X.env X.xe)(hc:X.calm=true)(hi:Np X tg iter w)(hg:Nm X tg g)(hb:M9 X body t)
  (hs:∀x,foldedSetIterable iter X.env x=pure x:=by intro _;rfl):PM X (.For tg iter body [] pos) (vw w g t):=by
 intro pins s σ H Pr ρ post I E h;obtain⟨gg,hg,hgg⟩:=hg;refine wpAny_For (Mv (hi pins s σ H Pr ρ _ I E h) λv s1 h1=>Mv h1 λitv s2 h2=>?_) hs;obtain⟨it,fp,tn,J,H2,xs,ρ2,e,I2,T,st2,f2,E2,G,w0⟩:=h2;subst e;have stat:∀{H':Hp},(∀b∈fp,H' b=none)->∀b∈fp,B4 X pins H' b:=λhn b hb=>⟨hn b hb,(f2 b hb).2⟩;refine codeAny_forLoop_any (λn s'=>∃i σ' H' ρ',n+i=xs.length/\Mt X pins σ' H' s'/\tn i s'.heap/\(∀b∈fp,H' b=none)/\aA X.K (bz H2 ρ2) H' σ' ρ'/\cu g t (xs.drop i) ρ' post) ?_ xs.length ⟨0,σ,H2,ρ2,by omega,I2,st2,λb hb=>(f2 b hb).1,E2.wide,by simpa using w0⟩;rintro n s3 ⟨i,σ3,H3,ρ3,hn,I3,st3,fr3,E3,w3⟩;obtain⟨go,stop⟩:=G H3 (qL E2 E3.sub);by_cases hlt:i<xs.length
 ·
  obtain⟨hgo,hy⟩:=go i xs[i] (List.getElem?_eq_getElem hlt);rw[List.drop_eq_getElem_cons hlt]at w3;refine wpAny_passesOwn hp (Mv (T.item X rfl rfl rfl hc i pins s3 σ3 H3 X.xe I3 (stat fr3) st3 hgo) λr s4 ⟨u,hr,h4⟩=>?_);subst hr;refine wpAny_passesOwn hp (Mv h4 λ_ s5 ⟨x,H5,I5,r5,y5,st5,fr5⟩=>?_);obtain⟨gr,rx⟩:=hy x H5 y5;have I5':=I5.pinned (stat fr5) (T.obj _ _ st5);have E5:=E3.grown gr;refine wpAny_passesOwn hp (Mv (hg _ s5 σ3 H5 x u _ I5' r5 (hgg x σ3 H5 _ ρ3 xs[i] _ I5.len E5 rx w3)) λ_ s6 ⟨σ6,H6,I6,e6,hl6,ρ6,E6,q6⟩=>?_);subst e6;refine wpAny_passesOwn hp (Mv (hb _ s6 σ6 _ _ ρ6 _ I6 E6 q6) λf s7 q7=>?_)
  have again:∀{σ7:St}{H7:Hp}{ρ7:Ev},Mt X (pins++sQ fp s5.heap) σ7 H7 s7->aA X.K (bz H2 ρ2) H7 σ7 ρ7->cu g t (xs.drop (i+1)) ρ7 post ->
    ∃m,m<n/\∃i σ' H' ρ',m+i=xs.length/\Mt X pins σ' H' s7/\tn i s7.heap/\(∀b∈fp,H' b=none)/\aA X.K (bz H2 ρ2) H' σ' ρ'/\cu g t (xs.drop i) ρ' post:=λ{σ7 H7 ρ7} I7 E7 n7=>by
   refine⟨n-1,by omega,i+1,σ7,H7,ρ7,by omega,I7.unpinned,T.keep _ _ _ st5 λb hb o e=>(I7.pin (b,o) (List.mem_append_right _ (List.mem_append_right _ (jB hb e)))).1,λb hb=>?_,E7,n7⟩;obtain⟨o,e,d⟩:=T.obj _ _ st5 b hb;exact(I7.pin (b,o) (List.mem_append_right _ (List.mem_append_right _ (jB hb e)))).2.1
  cases f with
  |next=>obtain⟨σ7,H7,ρ7,I7,E7,n7⟩:=q7;exact again I7 E7 n7
  |cont=>obtain⟨σ7,H7,ρ7,I7,E7,n7⟩:=q7;exact again I7 E7 n7
  |brk=>obtain⟨σ7,H7,ρ7,I7,E7,q7⟩:=q7;exact⟨σ7,H7,ρ7,I7.unpinned,E2.narrow E7,q7⟩
  |ret v=>obtain⟨x7,σ7,H7,r,ρ7,τ,I7,r7,E7,q7⟩:=q7;exact⟨x7,σ7,H7,r,ρ7,τ,I7.unpinned,r7,E2.narrow E7,q7⟩
 ·
  have e:i=xs.length:=by omega
  subst e;refine wpAny_passesOwn hp (Mv (T.done X rfl rfl rfl hc xs.length pins s3 σ3 H3 X.xe I3 (stat fr3) st3 stop) λr s4 ⟨hr,I4⟩=>?_);subst hr;rw[List.drop_length]at w3;exact wpAny_execs_nil ⟨σ3,H3,ρ3,I4,E2.narrow E3,w3⟩
end
section
variable{X:Cx}{e a b c:Expr}{pos:Pos}{ta tb:W L}
def cJ(i:Int):Prop:=i.natAbs<2^1000000
def bA:Nc:=λx y k=>match x,y with
 |.int i,.int j=>k (.d (.int (i+j)))
 |.str i,.str j=>i.length+j.length≤sizeLine/\k (.d (.str (i++j)))
 |.lst xs,.lst ys=>xs.length+ys.length≤sizeLine/\∀a,k (.own a (xs++ys))
 |_,_=>False
def iD:Nc:=λx y k=>match x,y with
 |.int i,.int j=>k (.d (.int (i-j)))
 |_,_=>False
def pP:Nc:=λx y k=>match x,y with
 |.int i,.int j=>j≠0/\j.natAbs<2^9000/\k (.d (.int (i.fdiv j)))
 |_,_=>False
def eB:Nc:=λx y k=>match x,y with
 |.int i,.int j=>j≠0/\k (.d (.int (i.fmod j)))
 |_,_=>False
def yB:Nc:=λx y k=>match x,y with
 |.int i,.int j=>0≤j/\j≤1000000/\i.natAbs<2^64/\k (.d (.int (i^j.toNat)))
 |_,_=>False
def qM:Nc:=λx y k=>match x,y with
 |.int i,.int j=>k (.d (.bl (decide (i<j))))
 |_,_=>False
def Fs:Nc:=λx y k=>match x,y with
 |.int i,.int j=>k (.d (.bl (decide (i≤j))))
 |_,_=>False
def G8:Nc:=λx y k=>match x,y with
 |.int i,.int j=>k (.d (.bl (decide (j<i))))
 |_,_=>False
def HY:Nc:=λx y k=>match x,y with
 |.int i,.int j=>k (.d (.bl (decide (j≤i))))
 |_,_=>False
theorem Af{i j:Int}(h1:cJ i)(h2:cJ j):IntMulOk i j:=IntMulOk.of_le (PySem.intBits_le_iff.mpr h1) (PySem.intBits_le_iff.mpr h2) (by decide)
theorem Ft:MH X (binaryOp .Mult) (rI (λi j=>cJ i/\cJ j) λi j=>.int (i*j)):=ML λ_ _ _ _ _ _ _ hc q=>mul_int q (Af hc.1 hc.2)
theorem Fu:MH X (binaryOp .FloorDiv) (rI (λi j=>j≠0/\j.natAbs<2^9000) λi j=>.int (i.fdiv j)):=ML λi j _ _ _ _ _ hc q=>floordiv_int hc.1 q (.inl (PyProof.noPylong_of_log2 ((Nat.log2_lt (by have:=hc.1;omega)).mpr hc.2)))
theorem Fv:MH X (binaryOp .Add) (λx y H Q=>∃l b xs zs,x=.ref l/\y=.ref b/\Mz X.K H l xs/\Mz X.K H b zs/\xs.length+zs.length≤sizeLine/\∀p,H p=none->Q (.ref p) (Ml H p (.lst (xs++zs)))):=by
 intro pins s σ H x y v u Q I rx ry h;obtain⟨l,b,xs,zs,rfl,rfl,hH,hB,hz,q⟩:=h;cases rx;cases ry;obtain⟨its,r,⟨o,n,e,c,d,f⟩,z⟩:=I.list hH;obtain⟨its2,r2,⟨o2,n2,e2,c2,d2,f2⟩,z2⟩:=I.list hB;obtain⟨cl,dd,dt,sl⟩:=o;obtain⟨cl2,dd2,dt2,sl2⟩:=o2;simp only at c f c2 f2;subst c f c2 f2;have hl:=r.length;have hl2:=r2.length;refine concat_meets ⟨_,e,rfl⟩ ⟨_,e2,rfl⟩ noFill_list_add seq_list_add PySem.F.slot_list_add PySem.F.entry_list_add (PySem.F.args_list_add_2 _ _) (list_addW l b its.toArray its2.toArray n n2 dd dd2 sl sl2 (by rw[List.size_toArray,List.size_toArray];omega)) ⟨e,e2,?_⟩;have ea:its.toArray++its2.toArray=(its++its2).toArray:=by simp
 rw[ea];exact⟨.ref _,_,I.lnew (t':=s.toks) (r.append r2) (by rw[List.length_append];omega),rfl,q _ I.fresh⟩
theorem CB{x y:D}{k:L->Prop}(h:bA x y k):(∃i j,x=.int i/\y=.int j/\k (.d (.int (i+j))))∨(∃i j,x=.str i/\y=.str j/\i.length+j.length≤sizeLine/\k (.d (.str (i++j))))∨∃xs ys,x=.lst xs/\y=.lst ys/\xs.length+ys.length≤sizeLine/\∀a,k (.own a (xs++ys)):=by
 unfold bA at h;split at h
 · exact .inl ⟨_,_,rfl,rfl,h⟩
 · exact .inr (.inl ⟨_,_,rfl,rfl,h⟩)
 · exact .inr (.inr ⟨_,_,rfl,rfl,h⟩)
 · exact h.elim
theorem Fw:Nd X (binaryOp .Add) (λx y k=>∃i j,x=.int i/\y=.int j/\k (.d (.int (i+j)))):=Nd.of Hr λσ H Pr ρ x y dx dy post E px py ⟨i,j,e1,e2,h⟩=>by subst e1 e2;cases px;cases py;exact⟨i,j,rfl,rfl,_,E.cons_d (.int _),h⟩
theorem Fx:Nd X (binaryOp .Add) (λx y k=>∃i j,x=.str i/\y=.str j/\i.length+j.length≤sizeLine/\k (.d (.str (i++j)))):=Nd.of yo λσ H Pr ρ x y dx dy post E px py ⟨i,j,e1,e2,z,h⟩=>by subst e1 e2;cases px;cases py;exact⟨i,j,rfl,rfl,z,_,E.cons_d (.str _),h⟩
theorem Fy:Nd X (binaryOp .Add) (λx y k=>∃xs ys,x=.lst xs/\y=.lst ys/\xs.length+ys.length≤sizeLine/\∀a,k (.own a (xs++ys))):=Nd.of Fv λσ H Pr ρ x y dx dy post E px py ⟨xs,ys,e1,e2,z,h⟩=>by
 subst e1 e2
 cases px with
 | lst h1 r1 =>
  cases py with
  |lst h2 r2=>exact⟨_,_,_,_,rfl,rfl,h1.l,h2.l,by rw[r1.length,r2.length];exact z,λp hp=>⟨_,E.cons_own hp (r1.append r2),h p⟩⟩
theorem aZ:Nd X (binaryOp .Add) bA:=by
 intro pins s σ H Pr ρ x y v u dx dy post I rx ry E px py ho;rcases CB ho with h|h|h
 · exact Fw pins s σ H Pr ρ x y v u dx dy post I rx ry E px py h
 · exact Fx pins s σ H Pr ρ x y v u dx dy post I rx ry E px py h
 · exact Fy pins s σ H Pr ρ x y v u dx dy post I rx ry E px py h
theorem w9{f:Value->Value->Sem Value}{C:Int->Int->Prop}{g:Int->Int->V}{gd:Int->Int->D}(h:MH X f (rI C g))(hg:∀K H i j,M7 K H (g i j) (gd i j)) :
  Nd X f (λx y k=>∃i j,x=.int i/\y=.int j/\C i j/\k (.d (gd i j))) :=
 Nd.of h λσ H Pr ρ x y dx dy post E px py ⟨i,j,e1,e2,z,h⟩=>by subst e1 e2;cases px;cases py;exact⟨i,j,rfl,rfl,z,_,E.cons_d (hg _ _ _ _),h⟩
theorem oI{f:Value->Value->Sem Value}{g:Int->Int->V}{gd:Int->Int->D}(h:MH X f (MK g))(hg:∀K H i j,M7 K H (g i j) (gd i j)) :
  Nd X f (λx y k=>∃i j,x=.int i/\y=.int j/\k (.d (gd i j))) :=
 Nd.of h λσ H Pr ρ x y dx dy post E px py ⟨i,j,e1,e2,h⟩=>by subst e1 e2;cases px;cases py;exact⟨i,j,rfl,rfl,_,E.cons_d (hg _ _ _ _),h⟩
theorem eM:Nd X (binaryOp .Sub) iD:=(oI Hs (gd:=λi j=>.int (i-j)) λ_ _ _ _=>.int _).imp λx y k h=>by
 unfold iD at h;split at h
 · exact⟨_,_,rfl,rfl,h⟩
 · exact h.elim
theorem H0:Nd X (binaryOp .Mult) (λx y k=>∃i j,x=.int i/\y=.int j/\(cJ i/\cJ j)/\k (.d (.int (i*j)))):=w9 Ft (gd:=λi j=>.int (i*j)) λ_ _ _ _=>.int _
def bG:Nc:=λx y k=>match x,y with
 |.int i,.int j=>cJ i/\cJ j/\k (.d (.int (i*j)))
 |_,_=>False
theorem bj:Nd X (binaryOp .Mult) bG:=H0.imp λx y k h=>by
 unfold bG at h;split at h
 · exact⟨_,_,rfl,rfl,⟨h.1,h.2.1⟩,h.2.2⟩
 · exact h.elim
theorem oJ:Nd X (binaryOp .FloorDiv) pP:=(w9 Fu (gd:=λi j=>.int (i.fdiv j)) λ_ _ _ _=>.int _).imp λx y k h=>by
 unfold pP at h;split at h
 · exact⟨_,_,rfl,rfl,⟨h.1,h.2.1⟩,h.2.2⟩
 · exact h.elim
theorem cK:Nd X (binaryOp .Mod) eB:=(w9 ES (gd:=λi j=>.int (i.fmod j)) λ_ _ _ _=>.int _).imp λx y k h=>by
 unfold eB at h;split at h
 · exact⟨_,_,rfl,rfl,h.1,h.2⟩
 · exact h.elim
theorem Ag:Nd X (binaryOp .Pow) yB:=(w9 Ht (gd:=λi j=>.int (i^j.toNat)) λ_ _ _ _=>.int _).imp λx y k h=>by
 unfold yB at h;split at h
 · exact⟨_,_,rfl,rfl,⟨h.1,h.2.1,h.2.2.1⟩,h.2.2.2⟩
 · exact h.elim
theorem mx:Nd X (compareOp .Lt) qM:=(oI Hw (gd:=λi j=>.bl (decide (i<j))) λ_ _ _ _=>.bl _).imp λx y k h=>by
 unfold qM at h;split at h
 · exact⟨_,_,rfl,rfl,h⟩
 · exact h.elim
theorem J8:Nd X (compareOp .LtE) Fs:=(oI Hx (gd:=λi j=>.bl (decide (i≤j))) λ_ _ _ _=>.bl _).imp λx y k h=>by
 unfold Fs at h;split at h
 · exact⟨_,_,rfl,rfl,h⟩
 · exact h.elim
theorem Fz:Nd X (compareOp .Gt) G8:=(oI JW (gd:=λi j=>.bl (decide (j<i))) λ_ _ _ _=>.bl _).imp λx y k h=>by
 unfold G8 at h;split at h
 · exact⟨_,_,rfl,rfl,h⟩
 · exact h.elim
theorem Ib:Nd X (compareOp .GtE) HY:=(oI JX (gd:=λi j=>.bl (decide (j≤i))) λ_ _ _ _=>.bl _).imp λx y k h=>by
 unfold HY at h;split at h
 · exact⟨_,_,rfl,rfl,h⟩
 · exact h.elim
mutual
noncomputable def Nq:D->PyData
 |.non=>.none
 |.bl b=>.bool b
 |.int i=>.int i
 |.str x=>.str x
 |.tup xs=>.tuple (de xs)
 |.lst xs=>.list (de xs)
 |.dct _=>.dict []
 |.exc _ _ _=>.dict []
 |.fn _ _=>.dict []
noncomputable def de:List D->List PyData
 |[]=>[]
 |x::xs=>Nq x::de xs
end
noncomputable def Nr(x y:D):Bool:=PyData.eqv (Nq x) (Nq y)
def ej(x:D):Prop:=SeqAt.shaped (Nq x)=true
def oK:Nc:=λx y k=>ej x/\ej y/\k (.d (.bl (Nr x y)))
def yC:Nc:=λx y k=>ej x/\ej y/\k (.d (.bl (!Nr x y)))
mutual
theorem lj{pins:List (Addr×Obj)}{σ:St}{H:Hp}{s:Shared}(I:Mt X pins σ H s):∀(d:D)(x:V)(u:Value),cq x u->M7 X.K H x d->(Nq d).canLay0=true->∃as,Reads s.heap u (Nq d) as
 |.non,_,_,rv,r,_=>by cases r;cases rv;exact⟨_,.none⟩
 |.bl b,_,_,rv,r,_=>by cases r;cases rv;exact⟨_,.bool b⟩
 |.int i,_,_,rv,r,_=>by cases r;obtain⟨t,rfl⟩:=rv;exact⟨_,.int i t⟩
 |.str z,_,_,rv,r,_=>by cases r;obtain⟨t,rfl⟩:=rv;exact⟨_,.str z t⟩
 | .tup xs,_,_,rv,r,hc=>by
  cases r with
  | tup h rs =>
   cases rv
   obtain⟨its,vs,⟨o,e,c,n,d⟩,_⟩:=I.tuple h
   obtain⟨as,ra⟩:=kc I xs _ _ vs rs hc
   exact⟨_,.tuple (xs:=de xs) e c d (by simpa using ra)⟩
 | .lst xs,_,_,rv,r,hc=>by
  cases r with
  | lst h rs =>
   cases rv
   obtain⟨its,vs,⟨o,n,e,c,_,d⟩,_⟩:=I.list h.l
   obtain⟨as,ra⟩:=kc I xs _ _ vs rs hc
   exact⟨_,.list (xs:=de xs) e c d (by simpa using ra)⟩
 |.dct _,_,_,_,_,hc=>nomatch hc
 |.exc _ _ _,_,_,_,_,hc=>nomatch hc
 |.fn _ _,_,_,_,_,hc=>nomatch hc
theorem kc{pins:List (Addr×Obj)}{σ:St}{H:Hp}{s:Shared}(I:Mt X pins σ H s):∀(ds:List D)(vs:List V)(us:List Value),cB vs us->b7 X.K H vs ds->PyData.canLayAll0 (de ds)=true->∃as,ReadsAll s.heap us (de ds) as
 |[],_,_,rv,r,_=>by cases r;cases rv;exact⟨_,.nil⟩
 | d::ds,_,_,rv,r,hc=>by
  have hc':(Nq d).canLay0=true/\PyData.canLayAll0 (de ds)=true:=by simpa[de,PyData.canLayAll0]using hc
  cases r with
  | cons r0 rs =>
   cases rv with
   | cons v0 vs =>
    obtain⟨as,ra⟩:=lj I d _ _ v0 r0 hc'.1
    obtain⟨bs,rb⟩:=kc I ds _ _ vs rs hc'.2
    exact⟨_,.cons ra rb⟩
end
theorem fH(hu:X.A.units+64<cLine):Nd X (compareOp .Eq) oK:=by intro pins s σ H Pr ρ x y v u dx dy post I rx ry E px py ⟨h1,h2,ho⟩;obtain⟨as,ra⟩:=lj I dx x v rx px (SeqAt.canLay_of_shaped h1);obtain⟨bs,rb⟩:=lj I dy y u ry py (SeqAt.canLay_of_shaped h2);exact eq_dataH ra rb h1 h2 hu ⟨.bl _,H,_,I,rfl,E.cons_d (.bl _),ho⟩
theorem pQ(hu:X.A.units+64<cLine):Nd X (compareOp .NotEq) yC:=by intro pins s σ H Pr ρ x y v u dx dy post I rx ry E px py ⟨h1,h2,ho⟩;obtain⟨as,ra⟩:=lj I dx x v rx px (SeqAt.canLay_of_shaped h1);obtain⟨bs,rb⟩:=lj I dy y u ry py (SeqAt.canLay_of_shaped h2);exact ne_dataH ra rb h1 h2 hu ⟨.bl _,H,_,I,rfl,E.cons_d (.bl _),ho⟩
theorem K2:Nd X (compareOp .Is) (λx y k=>y=.non/\k (.d (.bl (match x with | .non=>true|_=>false)))):=Nd.of Hy λσ H Pr ρ x y dx dy post E px py ⟨e,h⟩=>by subst e;cases py;refine⟨rfl,_,E.cons_d (.bl _),?_⟩;cases px<;>exact h
theorem FC:Nd X (compareOp .IsNot) (λx y k=>y=.non/\k (.d (.bl (match x with | .non=>false|_=>true)))):=Nd.of EW λσ H Pr ρ x y dx dy post E px py ⟨e,h⟩=>by subst e;cases py;refine⟨rfl,_,E.cons_d (.bl _),?_⟩;cases px<;>exact h
def aN:Nc:=λx y k=>match x,y with
 |.lst xs,.int i=>∃v,MT xs i=some v/\k (.d v)
 |.tup xs,.int i=>∃v,MT xs i=some v/\k (.d v)
 |.str z,.int i=>z.length≤sizeLine/\∃c,MT z.cps.toList i=some c/\k (.d (.str ⟨#[c]⟩))
 |_,_=>False
theorem vx{K:PySem.W.Frag}{H:Hp}{vs:List V}{xs:List D}(r:b7 K H vs xs){i:Int}{x:D}(h:MT xs i=some x):∃v,MT vs i=some v/\M7 K H v x:=by
 unfold MT at h ⊢;rw[r.length]
 cases q:MS xs.length i with
 |none=>rw[q]at h;cases h
 | some j =>
  rw[q]at h;exact r.get h
theorem FD{x y:D}{k:L->Prop}(h:aN x y k):∃i,y=.int i/\((∃xs,x=.lst xs/\∃v,MT xs i=some v/\k (.d v))∨(∃xs,x=.tup xs/\∃v,MT xs i=some v/\k (.d v))∨∃z,x=.str z/\z.length≤sizeLine/\∃c,MT z.cps.toList i=some c/\k (.d (.str ⟨#[c]⟩))):=by
 unfold aN at h;split at h
 · exact⟨_,rfl,.inl ⟨_,rfl,h⟩⟩
 · exact⟨_,rfl,.inr (.inl ⟨_,rfl,h⟩)⟩
 · exact⟨_,rfl,.inr (.inr ⟨_,rfl,h⟩)⟩
 · exact h.elim
theorem ay(ha:PL X a ta)(hb:PL X b tb)(hs:vk b):PL X (.Subscript a b pos) (ax aN ta tb):=by
 intro pins s σ H Pr ρ post I E h;refine Subscript_ (two (R:=λdx dy ρ2=>aN dx dy λr=>post r ρ2) ha hb I E h λv u s2 x y H2 dx dy ρ2 I2 r1 r2 E2 p1 p2 q=>?_);have Mx:∀(Q:VK),(∀z H',Q z H'->∃r,aA X.K Pr H' (some z::σ) (r::ρ2)/\post r ρ2)->∀w s',EP X pins σ Q w s'->EL X pins σ Pr post w s':=λQ hQ w s' ⟨z,H',I',rz,q⟩=>by obtain⟨r,E',p⟩:=hQ z H' q;exact⟨z,H',r,ρ2,I',rz,E',p⟩
 have Eσ:=E2.tail.tail;obtain⟨i,rfl,⟨xs,rfl,z,hz',q⟩|⟨xs,rfl,z,hz',q⟩|⟨z,rfl,hz,c,hc,q⟩⟩:=FD q
 ·
  cases p2
  cases p1 with
  | lst hz rs =>
   obtain⟨w,hw,rw⟩:=vx rs hz';exact Mv (zP a b pins s2 σ H2 _ _ v u (λz H'=>z=w/\H'=H2) I2 r1 r2 ⟨_,_,i,w,rfl,rfl,hz.l,hw,rfl,rfl⟩ (hs _ _)) (Mx _ λz H' ⟨e1,e2⟩=>by subst e1 e2;exact⟨_,Eσ.cons_d rw,q⟩)
 ·
  cases p2
  cases p1 with
  | tup hz rs =>
   obtain⟨w,hw,rw⟩:=vx rs hz';exact Mv (HH a b pins s2 σ H2 _ _ v u (λz H'=>z=w/\H'=H2) I2 r1 r2 ⟨_,_,i,w,rfl,rfl,hz,hw,rfl,rfl⟩ (hs _ _)) (Mx _ λz H' ⟨e1,e2⟩=>by subst e1 e2;exact⟨_,Eσ.cons_d rw,q⟩)
 · cases p2;cases p1;exact Mv (HI a b pins s2 σ H2 _ _ v u (λz H'=>z=.str ⟨#[c]⟩/\H'=H2) I2 r1 r2 ⟨z,i,c,rfl,rfl,hz,hc,rfl,rfl⟩ (hs _ _)) (Mx _ λz H' ⟨e1,e2⟩=>by subst e1 e2;exact⟨_,Eσ.cons_d (.str _),q⟩)
end
section
variable{X:Cx}{e a b c:Expr}{es:List Expr}{pos p:Pos}{ta:W L}{x:Str}{bs:List (Option Nat)}{t:W (List L)}{id T:String}
abbrev Nu:=List D->(L->Prop)->Prop
def fJ(X:Cx)(f:Value)(op:Nu):Prop :=
 ∀(pins:List (Addr×Obj))(s:Shared)(σ:St)(H Pr:Hp)(ρ:Ev)(vs:List V)(us:List Value)(ds:List D)(post:L->Prop),Mt X pins σ H s->cB vs us->aA X.K Pr H σ ρ->b7 X.K H vs ds->op ds post ->
  wpAny (model X.prog X.w) X.A (call f us) (λw s'=>∃z H' r,Mt X pins σ H' s'/\cq z w/\aA X.K Pr H' (some z::σ) (r::ρ)/\post r) X.xe s
theorem fJ.of{f:Value}{r:List V->Hp->VK->Prop}{op:Nu}(h:iC X f r)(q:∀σ H Pr ρ vs ds post,aA X.K Pr H σ ρ->b7 X.K H vs ds->op ds post->r vs H λz H'=>∃r,aA X.K Pr H' (some z::σ) (r::ρ)/\post r):fJ X f op :=
 λpins s σ H Pr ρ vs us ds post I rv E ps ho=>Mv (h pins s σ H vs us _ I rv (q σ H Pr ρ vs ds post E ps ho)) λw s' ⟨z,H',I',rz,r,E',p⟩=>⟨z,H',r,I',rz,E',p⟩
def a8(op:Nu)(t:W (List L)):W L:=λρ post=>t ρ λls ρ1=>Cy ls λds=>op ds λr=>post r ρ1
theorem aQ(hc:fJ X (.builtin id) op)(hg:Gl X x)(hm:X.mg x=none)(hv:bootBuiltins x=some (.builtin id))(ha:M8 X (e::es) bs t) (hn:x≠"__name__":=by decide) (hdb:(x == ("__debug__" : Str))=false:=by decide)
  (he:starEach (e::es) X.env=(false,eval e X.env)::starEach es X.env:=by rfl) (hpl:(backTo pos (starEach es X.env)).any (·.1)=false:=by rfl):PL X (.Call (.Name x p) (e::es) [] pos) (a8 op t):=by
 intro pins s σ H Pr ρ post I E h;refine wpAny_Call_Name_kw (m5 I hg hm hv ?_ hn hdb);refine PyProof.Rows.callWith_builtin1 (Mv (ha pos pins s σ H Pr ρ _ I E h) λus s1 ⟨vs,H1,ls,ρ1,I1,r1,hl,hb,E1,_,q1⟩=>?_) he hpl;obtain⟨ds,rfl,q2⟩:=gA q1;have hlen:vs.length=ds.length:=by simpa using hl
 exact Mv (hc pins s1 σ H1 Pr ρ1 vs us ds _ I1 r1 (E1.drop (by simp[hlen])) (gB hlen E1) q2) λw s2 ⟨z,H2,r,I2,rz,E2,q⟩=>⟨z,H2,r,ρ1,I2,rz,E2,q⟩
theorem eN(hc:fJ X (.type T) op)(hg:Gl X x)(hm:X.mg x=none)(hv:bootBuiltins x=some (.type T))(ha:M8 X (e::es) bs t) (hn:x≠"__name__":=by decide) (hdb:(x == ("__debug__" : Str))=false:=by decide)
  (he:starEach (e::es) X.env=(false,eval e X.env)::starEach es X.env:=by rfl) (hpl:(backTo pos (starEach es X.env)).any (·.1)=false:=by rfl):PL X (.Call (.Name x p) (e::es) [] pos) (a8 op t):=by
 intro pins s σ H Pr ρ post I E h;refine wpAny_Call_Name_kw (m5 I hg hm hv ?_ hn hdb);refine PyProof.Rows.callWith_type1 (Mv (ha pos pins s σ H Pr ρ _ I E h) λus s1 ⟨vs,H1,ls,ρ1,I1,r1,hl,hb,E1,_,q1⟩=>?_) he hpl;obtain⟨ds,rfl,q2⟩:=gA q1;have hlen:vs.length=ds.length:=by simpa using hl
 exact Mv (hc pins s1 σ H1 Pr ρ1 vs us ds _ I1 r1 (E1.drop (by simp[hlen])) (gB hlen E1) q2) λw s2 ⟨z,H2,r,I2,rz,E2,q⟩=>⟨z,H2,r,ρ1,I2,rz,E2,q⟩
def df:Nu:=λds k=>match ds with
 |[.lst xs]=>k (.d (.int xs.length))
 |[.tup xs]=>k (.d (.int xs.length))
 |[.str x]=>x.length≤sizeLine/\k (.d (.int x.length))
 |_=>False
theorem nI{K:PySem.W.Frag}{H:Hp}{vs:List V}{d:D}(r:b7 K H vs [d]):∃v,vs=[v]/\M7 K H v d:=by
 cases r with
 |cons h t=>cases t;exact⟨_,rfl,h⟩
theorem Ic{K:PySem.W.Frag}{H:Hp}{vs:List V}{d d':D}(r:b7 K H vs [d,d']):∃v w,vs=[v,w]/\M7 K H v d/\M7 K H w d':=by
 cases r with
 | cons h t=>cases t with
  |cons h' t=>cases t;exact⟨_,_,rfl,h,h'⟩
theorem dQ:fJ X (.builtin "len") df:=fJ.of (m6.or sX) λσ H Pr ρ vs ds post E ps h=>by
 unfold df at h;split at h
 ·
  obtain⟨v,rfl,r⟩:=nI ps
  cases r with
  |lst hz rs=>exact .inl ⟨_,_,rfl,.inl hz.l,_,E.cons_d (.int _),by rw[rs.length];exact h⟩
 ·
  obtain⟨v,rfl,r⟩:=nI ps
  cases r with
  |tup hz rs=>exact .inl ⟨_,_,rfl,.inr hz,_,E.cons_d (.int _),by rw[rs.length];exact h⟩
 ·
  obtain⟨v,rfl,r⟩:=nI ps
  cases r with
  |str z=>exact .inr ⟨_,rfl,h.1,_,E.cons_d (.int _),h.2⟩
 · exact h.elim
def yD:Nu:=λds k=>match ds with
 |[.int i]=>k (.d (.int (if i<0 then -i else i)))
 |_=>False
theorem Ah:fJ X (.builtin "abs") yD:=fJ.of Cf λσ H Pr ρ vs ds post E ps h=>by
 unfold yD at h;split at h
 ·
  obtain⟨v,rfl,r⟩:=nI ps
  cases r with
  |int i=>exact⟨_,rfl,_,E.cons_d (.int _),h⟩
 · exact h.elim
def yE:Nu:=λds k=>match ds with
 |[.int i,.int j]=>k (.d (.int (if j > i then j else i)))
 |_=>False
def yF:Nu:=λds k=>match ds with
 |[.int i,.int j]=>k (.d (.int (if j<i then j else i)))
 |_=>False
theorem Ai(hc:X.calm=true):fJ X (.builtin "max") yE:=fJ.of (zF hc) λσ H Pr ρ vs ds post E ps h=>by
 unfold yE at h;split at h
 ·
  obtain⟨v,w,rfl,r,r'⟩:=Ic ps
  cases r with
  | int i=>cases r' with
   |int j=>exact⟨_,_,rfl,_,E.cons_d (.int _),h⟩
 · exact h.elim
theorem Aj(hc:X.calm=true):fJ X (.builtin "min") yF:=fJ.of (zG hc) λσ H Pr ρ vs ds post E ps h=>by
 unfold yF at h;split at h
 ·
  obtain⟨v,w,rfl,r,r'⟩:=Ic ps
  cases r with
  | int i=>cases r' with
   |int j=>exact⟨_,_,rfl,_,E.cons_d (.int _),h⟩
 · exact h.elim
def Ak:Nu:=λds k=>match ds with
 |[.int i]=>k (.d (.int i))
 |[.bl b]=>k (.d (.int (if b then 1 else 0)))
 |_=>False
theorem D5:fJ X (.type "int") Ak:=fJ.of zH λσ H Pr ρ vs ds post E ps h=>by
 unfold Ak at h;split at h
 ·
  obtain⟨v,rfl,r⟩:=nI ps
  cases r with
  |int i=>exact .inl ⟨_,rfl,_,E.cons_d (.int _),h⟩
 ·
  obtain⟨v,rfl,r⟩:=nI ps
  cases r with
  |bl i=>exact .inr ⟨_,rfl,_,E.cons_d (.int _),h⟩
 · exact h.elim
def oM:Nu:=λds k=>match ds with
 |[.lst xs]=>∀a,k (.own a xs)
 |[.tup xs]=>∀a,k (.own a xs)
 |_=>False
theorem qN:fJ X (.type "list") oM:=fJ.of sY λσ H Pr ρ vs ds post E ps h=>by
 unfold oM at h;split at h
 ·
  obtain⟨v,rfl,r⟩:=nI ps
  cases r with
  |lst hz rs=>exact⟨_,_,rfl,.inl hz.l,λl hl=>⟨_,E.cons_own hl rs,h l⟩⟩
 ·
  obtain⟨v,rfl,r⟩:=nI ps
  cases r with
  |tup hz rs=>exact⟨_,_,rfl,.inr hz,λl hl=>⟨_,E.cons_own hl rs,h l⟩⟩
 · exact h.elim
def qO:Nu:=λds k=>match ds with
 |[.lst xs]=>k (.d (.tup xs))
 |[.tup xs]=>k (.d (.tup xs))
 |_=>False
theorem CC:fJ X (.type "tuple") qO:=fJ.of qI λσ H Pr ρ vs ds post E ps h=>by
 unfold qO at h;split at h
 ·
  obtain⟨v,rfl,r⟩:=nI ps
  cases r with
  |lst hz rs=>exact⟨_,_,rfl,.inl ⟨hz.l,λl hl=>⟨_,E.cons_tup hl rs,h⟩⟩⟩
 ·
  obtain⟨v,rfl,r⟩:=nI ps
  cases r with
  |tup hz rs=>exact⟨_,_,rfl,.inr ⟨hz,_,E.cons_d (.tup hz rs),h⟩⟩
 · exact h.elim
noncomputable def Nv:D->Value
 |.non=>.type "NoneType"
 |.bl _=>.type "bool"
 |.int _=>.type "int"
 |.str _=>.type "str"
 |.tup _=>.type "tuple"
 |.lst _=>.type "list"
 |.dct _=>.type "dict"
 |.exc _ _ _=>.none
 |.fn _ _=>.type "function"
def Nw(K:PySem.W.Frag)(d:D)(t:Value):Prop:=match d with
 |.exc c _ _=>∃C,t=.ref C/\iM K c C=true
 |d=>t=Nv d
theorem qP{pins:List (Addr×Obj)}{σ:St}{H:Hp}{s:Shared}{a:Addr}{o:Obj}{u:HO}{C:Addr}{ns:List Str}{vs:List V}(I:Mt X pins σ H s)(h:H a=some (.frz o u))(hc:o.cls=.ref C)(hn:PySem.W.notCls o=true)(hf:XF H o.dict ns vs):∃od,PySem.W.InstAt s.heap a o C od/\∀d,o.dict=some d->∃q,od=some q/\s.heap.get? d=some q:=by
 have e:=(show s.heap.get? a=some o/\_ from I.hok a _ h).1;rcases hf with⟨_,_,z⟩|⟨d,od,z,h2,_⟩
 · exact⟨none,⟨e,hc,hn,by rw[z];trivial⟩,λd q=>by rw[z]at q;cases q⟩
 · have e2:=(show s.heap.get? d=some od/\_ from I.hok d _ h2).1;exact⟨some od,⟨e,hc,hn,by rw[z];exact e2⟩,λd' q=>by rw[z]at q;cases q;exact⟨od,rfl,e2⟩⟩
theorem xa{pins:List (Addr×Obj)}{σ:St}{H:Hp}{s:Shared}{x:V}{u c:Value}{d:D}{b:Bool}{Q:Value->Shared->Prop}{A:Around}{E:Value->Shared->Prop}(I:Mt X pins σ H s)(rx:cq x u)(r:M7 X.K H x d)(e:∀t,Nw X.K d t->PySem.W.kitOne X.K t c=some b)(h:∀tk,Q (.bool b) {s with toks:=tk}) :
  wpAny (model X.prog X.w) A (call (.builtin "isinstance") [u,c]) Q E s:=by
 cases r with
 |non=>cases rx;exact PySem.W.kia_one PySem.W.kitx_none I.kIn True.intro (e _ rfl) (λz=>nomatch z) h
 |bl y=>cases rx;exact PySem.W.kia_one PySem.W.kitx_bool I.kIn True.intro (e _ rfl) (λz=>nomatch z) h
 |int i=>obtain⟨t,rfl⟩:=rx;exact PySem.W.kia_one PySem.W.kitx_int I.kIn True.intro (e _ rfl) (λz=>nomatch z) h
 |str y=>obtain⟨t,rfl⟩:=rx;exact PySem.W.kia_one PySem.W.kitx_str I.kIn True.intro (e _ rfl) (λz=>nomatch z) h
 | lst hz rs =>
  cases rx;obtain⟨its,_,⟨o,n,e1,c1,_,_⟩,_⟩:=I.list hz.l;exact PySem.W.kia_one PySem.W.kitx_list I.kIn ⟨o,e1,c1⟩ (e _ rfl) (λz=>nomatch z) h
 | tup hz rs =>
  cases rx;obtain⟨its,_,⟨o,e1,c1,_⟩,_⟩:=I.tuple hz;exact PySem.W.kia_one PySem.W.kitx_tuple I.kIn ⟨o,e1,c1⟩ (e _ rfl) (λz=>nomatch z) h
 | @dct a o kvs hz =>
  cases rx;obtain⟨_,_,_,vs,_,o',es,ep,h1,h2,_⟩:=(show c8 X.prog X.w H s.heap a (.frz o (.dK kvs))from I.hok a _ hz);exact PySem.W.kia_one PySem.W.kitx_dict I.kIn ⟨o',h1,h2.1⟩ (e _ rfl) (λz=>nomatch z) h
 | @exc a o u cc C ns vs ds h1 hv hc hn hs hq hf rs =>
  cases rx;obtain⟨od,Ia,_⟩:=qP I h1 hc hn hf;obtain⟨LL,cd,S⟩:=dO hs;exact PySem.W.kia_one (w4 S) I.kIn ⟨_,_,Ia⟩ (e _ ⟨C,rfl,hs⟩) (λz=>nomatch z) h
 | fn hl hf hq hc hz hd hv hm r =>
  cases rx;exact PySem.W.kia_one zU I.kIn ⟨_,(I.hok _ _ hf).1,rfl⟩ (e _ rfl) (λz=>nomatch z) h
noncomputable def jS(T:String):D->Bool
 |.non=>T == "NoneType"
 |.bl _=>T == "bool" ||T == "int"
 |.int _=>T == "int"
 |.str _=>T == "str"
 |.tup _=>T == "tuple"
 |.lst _=>T == "list"
 |.dct _=>T == "dict"
 |.exc _ _ _=>(["ValueError","Exception","BaseException","object"]:List String).contains T
 |.fn _ _=>T == "function"
def fK(T:String):D->(L->Prop)->Prop:=λd k=>k (.d (.bl (jS T d)))
theorem dR{T:String}{y:Str}{py:Pos}(hT:∀ K d t,Nw K d t->PySem.W.kitOne K t (.type T)=some (jS T d)) (hg:Gl X "isinstance") (hm:X.mg "isinstance"=none) (hy:Gl X y) (hmy:X.mg y=none) (hby:bootBuiltins y=some (.type T)) (ha:PL X a ta)
  (hny:y≠"__name__":=by decide) (hdy:(y == ("__debug__" : Str))=false:=by decide)
  (h1:starEach [a,.Name y py] X.env=(false,eval a X.env)::starEach [.Name y py] X.env:=by rfl) (h2:starEach [.Name y py] X.env=[(false,eval (.Name y py) X.env)]:=by rfl) (hpl:(backTo pos (starEach [.Name y py] X.env)).any (·.1)=false:=by rfl) :
  PL X (.Call (.Name "isinstance" p) [a,.Name y py] [] pos) (Nj (fK T) ta):=by
 have cr:iC X (.builtin "isinstance") (λxs H Q=>∃ x d,xs=[x,.ty T]/\M7 X.K H x d/\Q (.bl (jS T d)) H):=by intro pins s σ H xs us Q I rv h;obtain⟨x,d,rfl,r,q⟩:=h;obtain⟨u,w,rfl,r1,r2⟩:=yp rv;cases r2;exact xa I r1 r (hT _ d) λtk=>⟨.bl _,H,I.tok _,rfl,q⟩
 refine PL.of (nU cr hg hm (by decide +kernel) (bV (av ha).pe (bV (EN hy hmy hby (v:=.ty T) rfl hny hdy) ic h2) h1) (he:=h1) (hpl:=hpl)) λσ H Pr ρ post E h=>?_
 refine⟨Pr,ρ,λr ρ1=>match r with
  |.d x=>fK T x λr=>post r ρ1
  |_=>False,E,h,λv H' r ρ' E' p=>?_⟩
 cases r with
 | d x =>
  obtain⟨_,e1,p1⟩:=E'.head_d;cases e1;exact⟨_,x,rfl,p1,_,ρ',E'.tail.cons_d (.bl _),p⟩
 |_=>exact p.elim
end
section
variable{X:Cx}{e a b:Expr}{pos p apos cpos:Pos}{tb te:W L}{x:Str}
theorem aA.updOwn{K:PySem.W.Frag}{Pr H:Hp}{σ:St}{ρ:Ev}{i:Nat}{l:Addr}{xs ys:List D}{vs:List V}(E:aA K Pr H σ ρ)(q:ρ[i]?=some (.own l xs))(r:b7 K H vs ys):aA K Pr (Ml H l (.lst vs)) σ (ρ.set i (.own l ys)):=by obtain⟨sv,hs,rfl,_⟩:=E.slot q;have hi:i<ρ.length:=(List.getElem?_eq_some_iff.mp q).1;have E1:=(E.out q).write r;have E2:=E1.back (i:=i) (by simp[hi]) hs;rw[List.set_set]at E2;exact E2
theorem aA.ownAt{K:PySem.W.Frag}{Pr H:Hp}{σ:St}{ρ:Ev}{i:Nat}{l:Addr}{xs:List D}(E:aA K Pr H σ ρ)(q:ρ[i]?=some (.own l xs)):σ[i]?=some (some (.ref l))/\∃vs,H l=some (.lst vs)/\b7 K H vs xs:=by obtain⟨sv,hs,rfl,r⟩:=E.slot q;exact⟨hs,r⟩
def yG(i:Nat)(ρ:Ev)(k:Addr->List D->Prop):Prop:=match ρ[i]? with
 |some (.own a xs)=>k a xs
 |_=>False
theorem kd{i:Nat}{ρ:Ev}{k:Addr->List D->Prop}(h:yG i ρ k):∃a xs,ρ[i]?=some (.own a xs)/\k a xs:=by
 unfold yG at h
 cases q:ρ[i]? with
 |none=>rw[q]at h;exact h.elim
 | some l =>
  rw[q]at h
  cases l with
  |own a xs=>exact⟨a,xs,rfl,h⟩
  |un=>exact h.elim
  |d x=>exact h.elim
  |bx _ _=>exact h.elim
  |dic _ _=>exact h.elim
def FE(i:Nat)(te:W L):W L:=λρ post=>yG i ρ λ_ _=>te ρ λr ρ1=>Na r λy=>yG i ρ1 λa xs=>xs.length<sizeLine/\post (.d .non) (ρ1.set i (.own a (xs++[y])))
theorem iR(i:Nat)(he:PL X e te)(hN:X.N[i]?=some x:=by rfl)(hv:Mr X.env.scope x:=by first | exact Or.inl rfl | exact Or.inr (Or.inl rfl) | exact Or.inr (Or.inr rfl)) (hd:(x == ("__debug__" : Str))=false:=by decide)
  (hcd:(x == ("__classdict__" : Str))=false:=by decide) (hs1:starEach [e] X.env=[(false,eval e X.env)]:=by rfl) (hbase:attributeBase (.Name x p) "append" X.env (eval (.Name x p) X.env)=eval (.Name x p) X.env:=by rfl)
  (hfew:((backTo cpos (starEach [e] X.env)).all (λx=>!x.1) && (backToKw cpos (keywordEach [] X.env)).all (λx=>x.1.isSome)
   && decide (([e]).length+([]:List Keyword).length+(if([]:List Keyword).isEmpty then 0 else 1)<30))=true:=by rfl)
  (hline:(apos.endLine == cpos.line)=true:=by rfl) (hplain:(backTo cpos (starEach ([]:List Expr) X.env)).any (·.1)=false:=by rfl) :
  PL X (.Call (.Attribute (.Name x p) "append" apos) [e] [] cpos) (FE i te):=by
 refine PL.of (HL PySem.F.plainAttrs_list PySem.F.slot_list_append PySem.F.type_list_append td (ib hN hv hd hcd) (bV (av he).pe ic hs1) (hbase:=hbase) (hfew:=hfew) (hline:=hline) (hs:=hs1) (hplain:=hplain)) λσ H Pr ρ post E h=>?_;obtain⟨l,xs0,q0,h⟩:=kd h;obtain⟨hσ,vs0,hl0,_⟩:=E.ownAt q0
 refine⟨.ref l,hσ,.inl ⟨rfl,vs0,Mz.of hl0⟩,Pr,ρ,λr ρ1=>match r with
  |.d y=>yG i ρ1 λa xs=>xs.length<sizeLine/\post (.d .non) (ρ1.set i (.own a (xs++[y])))
  |_=>False,E,h,λv H' r ρ' E' pp=>?_⟩
 cases r with
 | d y =>
  obtain⟨l',xs,q,hlen,pp⟩:=kd pp;obtain⟨hσ',vs,hl,r⟩:=E'.tail.ownAt q;rw[hσ]at hσ';cases hσ';obtain⟨_,e1,p1⟩:=E'.head_d;cases e1;exact⟨l,vs,v,rfl,rfl,hl,by rw[r.length];exact hlen,_,_,(E'.tail.updOwn q (r.append (.cons p1 .nil))).cons_d .non,pp⟩
 |_=>exact pp.elim
def yH(i:Nat)(tb:W L):W L:=λρ post=>yG i ρ λ_ _=>tb ρ λr ρ1=>nH r λj=>yG i ρ1 λ_ xs=>∃y,MT xs j=some y/\post (.d y) ρ1
theorem iS(i:Nat)(hb:PL X b tb)(hs:vk b)(hN:X.N[i]?=some x:=by rfl)(hv:Mr X.env.scope x:=by first | exact Or.inl rfl | exact Or.inr (Or.inl rfl) | exact Or.inr (Or.inr rfl)) (hd:(x == ("__debug__" : Str))=false:=by decide)
  (hcd:(x == ("__classdict__" : Str))=false:=by decide):PL X (.Subscript (.Name x p) b pos) (yH i tb):=by
 refine PL.of (J1 zP (ib hN hv hd hcd) hb.pe hs) λσ H Pr ρ post E h=>?_;obtain⟨l,xs0,q0,h⟩:=kd h;obtain⟨hσ,vs0,hl0,_⟩:=E.ownAt q0;refine⟨.ref l,hσ,Pr,ρ,_,E,h,λv H' r ρ' E' pp=>?_⟩;obtain⟨j,rfl,pp⟩:=eA pp;obtain⟨l',xs,q,y,hy,pp⟩:=kd pp;obtain⟨hσ',vs,hl,r⟩:=E'.tail.ownAt q;rw[hσ]at hσ';cases hσ';obtain⟨_,e1,p1⟩:=E'.head_d;cases e1;cases p1;obtain⟨w,hw,rw⟩:=vx r hy;exact⟨l,vs,j,w,rfl,rfl,Mz.of hl,hw,_,ρ',E'.tail.cons_d rw,pp⟩
def FF(i:Nat):W L:=λρ post=>yG i ρ λ_ xs=>post (.d (.int xs.length)) ρ
theorem FG(i:Nat) (hg:Gl X "len") (hm:X.mg "len"=none) (hN:X.N[i]?=some x:=by rfl) (hv:Mr X.env.scope x:=by first | exact Or.inl rfl | exact Or.inr (Or.inl rfl) | exact Or.inr (Or.inr rfl)) (hd:(x == ("__debug__" : Str))=false:=by decide)
  (hcd:(x == ("__classdict__" : Str))=false:=by decide) (h1:starEach [.Name x p] X.env=[(false,eval (.Name x p) X.env)]:=by rfl) (hpl:(backTo pos (starEach ([]:List Expr) X.env)).any (·.1)=false:=by rfl) :
  PL X (.Call (.Name "len" apos) [.Name x p] [] pos) (FF i):=by
 refine PL.of (nU m6 hg hm PySem.boot_len (bV (ib hN hv hd hcd) ic h1) (he:=h1) (hpl:=hpl)) λσ H Pr ρ post E h=>?_;obtain⟨l,xs0,q0,h⟩:=kd h;obtain⟨hσ,vs0,hl0,r⟩:=E.ownAt q0;exact⟨.ref l,hσ,l,vs0,rfl,.inl (Mz.of hl0),_,ρ,E.cons_d (.int _),by rw[r.length];exact h⟩
def qQ(i:Nat)(tb te:W L):W Fl:=λρ post=>te ρ λr ρ1=>Na r λy=>yG i ρ1 λ_ _=>tb ρ1 λr ρ2=>nH r λj=>yG i ρ2 λa xs=>∃k,MS xs.length j=some k/\post .nx (ρ2.set i (.own a (xs.set k y)))
theorem ke(i:Nat){b:Expr}{ps:Pos}(hb:PL X b tb)(he:PL X e te)(hN:X.N[i]?=some x:=by rfl)(hv:Mr X.env.scope x:=by first | exact Or.inl rfl | exact Or.inr (Or.inl rfl) | exact Or.inr (Or.inr rfl)) (hd:(x == ("__debug__" : Str))=false:=by decide)
  (hcd:(x == ("__classdict__" : Str))=false:=by decide)
  (ha:∀v,assign (.Subscript (.Name x p) b ps) X.env v=(do
   let ov ← holding [v] (eval (.Name x p) X.env)
   let iv ← holding [v,ov] (eval b X.env)
   standAt ps
   holding [v,ov,iv] (setItem ov iv v)
   release [v,ov,iv] []):=by intro _;rfl)
  (hs:swapsWithSole [.Subscript (.Name x p) b ps] e pos.line X.env=pure false:=by rfl) (hw:swappedStores [.Subscript (.Name x p) b ps] e X.env=pure none:=by rfl)
  (h1:(assignEach [.Subscript (.Name x p) b ps] X.env).map (·.2)=[assign (.Subscript (.Name x p) b ps) X.env]:=by rfl):PM X (.Assign [.Subscript (.Name x p) b ps] e pos) (qQ i tb te):=by
 refine PM.of (Hn (av he).pe (Hm (ib hN hv hd hcd) hb.pe Ck ha) hs hw h1) λσ H Pr ρ post hlen E h=>?_
 refine⟨Pr,ρ,λr ρ1=>match r with
  |.d y=>yG i ρ1 λ_ _=>tb ρ1 λr ρ2=>nH r λj=>yG i ρ2 λa xs=>∃k,MS xs.length j=some k/\post .nx (ρ2.set i (.own a (xs.set k y)))
  |_=>False,E,h,λv H' r ρ' E' pp=>?_⟩
 cases r with
 | d y =>
  obtain⟨l,xs0,q0,pp⟩:=kd pp;obtain⟨hσ,vs0,hl0,_⟩:=E'.tail.ownAt q0;refine⟨.ref l,hσ,bz H' ρ',ρ',_,E'.tail.wide,pp,λw H2 r2 ρ2 E2 pp=>?_⟩;obtain⟨j,rfl,pp⟩:=eA pp;obtain⟨l',xs,q,k,hk,pp⟩:=kd pp;obtain⟨_,e1,p1⟩:=E2.head_d;cases e1;cases p1;have E3:aA X.K Pr H2 (some (.int j)::some v::σ) (.d (.int j)::.d y::ρ2):=aA.step (τ:=[some v]) (lam:=[.d y]) (w:=[some (.int j)]) (μ:=[.d (.int j)]) E' rfl E2 rfl;obtain⟨_,e1,p1⟩:=E3.tail.head_d;cases e1;obtain⟨hσ',vs,hl,r⟩:=E3.tail.tail.ownAt q;rw[hσ]at hσ';cases hσ';refine⟨l,vs,j,k,rfl,rfl,hl,by rw[r.length];exact hk,_,E3.tail.tail.updOwn q (r.set p1 k),pp⟩
 |_=>exact pp.elim
def yI:Option (W L)->Ev->(Option Int->Ev->Prop)->Prop
 |none=>λρ k=>k none ρ
 |some t=>λρ k=>t ρ λr ρ1=>nH r λi=>k (some i) ρ1
noncomputable def vf{α:Type}(xs:List α)(lo hi:Option Int):List α:=(xs.drop (HT.sIx xs.length 0 lo)).take (HT.sIx xs.length xs.length hi-HT.sIx xs.length 0 lo)
end
noncomputable def bu:List Nat->Ev->Ev
 |[],ρ=>ρ
 |j::r,ρ=>(bu r ρ).set j .un
noncomputable def cA(fi:List Nat)(ρ:Ev):Ev:=fi.map λj=>(ρ[j]?).getD .un
noncomputable def b9(fi:List Nat)(σ:St):St:=fi.map λj=>(σ[j]?).getD none
noncomputable def fZ:List Nat->Ev->Ev->Ev
 |j::r,c::cs,ρ=>fZ r cs (ρ.set j c)
 |_,_,ρ=>ρ
theorem eO:∀(fi:List Nat)(ρ:Ev),(bu fi ρ).length=ρ.length
 |[],_=>rfl
 |j::r,ρ=>by unfold bu;rw[List.length_set,eO r ρ]
theorem tI:∀(fi:List Nat)(ρ:Ev)(j:Nat),j∉fi->(bu fi ρ)[j]?=ρ[j]?
 |[],_,_,_=>rfl
 | i::r,ρ,j,h=>by unfold bu;rw[List.getElem?_set_ne (λe=>h (by simp[e])),tI r ρ j λe=>h (List.mem_cons_of_mem _ e)]
theorem xb:∀(fi:List Nat)(ρ:Ev)(j:Nat),j∈fi->j<ρ.length->(bu fi ρ)[j]?=some .un
 | i::r,ρ,j,h,hl=>by
  unfold bu;by_cases e:i=j
  · subst e;rw[List.getElem?_set_self (by rw[eO];exact hl)]
  · rw[List.getElem?_set_ne e];exact xb r ρ j ((List.mem_cons.mp h).resolve_left λz=>e z.symm) hl
section
variable{K:PySem.W.Frag}{Pr H:Hp}{σ:St}{ρ:Ev}
theorem aA.takeAt(E:aA K Pr H σ ρ){i:Nat}{l:L}{s:Option V}(h:ρ[i]?=some l)(hs:σ[i]?=some s):aA K Pr H (s::σ) (l::ρ.set i .un):=E.outL h hs
theorem aA.takes(E:aA K Pr H σ ρ):∀(fi:List Nat),fi.Nodup->(∀j∈fi,j<ρ.length)->aA K Pr H (b9 fi σ++σ) (cA fi ρ++bu fi ρ)
 |[],_,_=>E
 | j::r,nd,hl=>by
  have ih:=E.takes r (List.nodup_cons.mp nd).2 λi hi=>hl i (List.mem_cons_of_mem _ hi);have hj:j<ρ.length:=hl j List.mem_cons_self;have hjs:j<σ.length:=by rw[E.len];exact hj
  have e1:(cA r ρ++bu r ρ)[r.length+j]?=some ρ[j]:=by rw[List.getElem?_append_right (by simp[cA])];simp only[cA,List.length_map,Nat.add_sub_cancel_left];rw[tI r ρ j (List.nodup_cons.mp nd).1];exact List.getElem?_eq_getElem hj
  have e2:(b9 r σ++σ)[r.length+j]?=some σ[j]:=by rw[List.getElem?_append_right (by simp[b9])];simp only[b9,List.length_map,Nat.add_sub_cancel_left];exact List.getElem?_eq_getElem hjs
  have z:=ih.takeAt e1 e2;rw[List.set_append_right _ _ (by simp[cA])]at z;simp only[cA,List.length_map,Nat.add_sub_cancel_left]at z;have c1:b9 (j::r) σ=σ[j]::b9 r σ:=by simp[b9,hjs]
  have c2:cA (j::r) ρ=ρ[j]::cA r ρ:=by simp[cA,hj]
  rw[c1,c2];exact z
theorem aA.backs:∀(fi:List Nat){cs ρ:Ev},fi.Nodup->cs.length=fi.length->(∀j∈fi,ρ[j]?=some .un)->(∀j∈fi,j<σ.length)->aA K Pr H (b9 fi σ++σ) (cs++ρ)->aA K Pr H σ (fZ fi cs ρ)
 |[],[],ρ,_,_,_,_,E=>E
 | j::r,c::cs,ρ,nd,hl,hu,hs,E=>by
  have hjs:j<σ.length:=hs j List.mem_cons_self;have hj:=hu j List.mem_cons_self;have c1:b9 (j::r) σ=σ[j]::b9 r σ:=by simp[b9,hjs]
  rw[c1]at E;have hlr:cs.length=r.length:=by simpa using hl
  have z:=aA.back (σ:=b9 r σ++σ) (ρ:=cs++ρ) (l:=c) E (i:=r.length+j) (by
   rw[List.getElem?_append_right (by omega),hlr,Nat.add_sub_cancel_left];exact hj) (by
   rw[List.getElem?_append_right (by simp[b9])];simp only[b9,List.length_map,Nat.add_sub_cancel_left]
   exact List.getElem?_eq_getElem hjs)
  rw[List.set_append_right _ _ (by omega),hlr,Nat.add_sub_cancel_left]at z
  exact aA.backs r (List.nodup_cons.mp nd).2 hlr (λi hi=>by
   rw[List.getElem?_set_ne (λe=>(List.nodup_cons.mp nd).1 (by rw[e];exact hi))];exact hu i (List.mem_cons_of_mem _ hi)) (λi hi=>hs i (List.mem_cons_of_mem _ hi)) z
 |[],_::_,_,_,hl,_,_,_=>by simp at hl
 |_::_,[],_,_,hl,_,_,_=>by simp at hl
end
noncomputable def yJ(cells:List (Str×Addr)):List (Str×NameKind)->List (Str×Addr)->List (Str×Addr)
 |[],acc=>acc
 |(n,k)::r,acc=>yJ cells r (if k == .free then(match cells.lookup n with|some c=>(n,c)::acc|none=>acc)else acc)
theorem my{env:Env}:∀(names:List (Str×NameKind))(acc:List (Str×Addr)),(∀x∈names,x.2=.free->∃c,env.cells.lookup x.1=some c) ->
  (forIn names acc λ(x:Str×NameKind) (cs:List (Str×Addr))=>(if x.2 == .free then do let c ← cellOf env x.1;pure (ForInStep.yield ((x.1,c)::cs))else pure (ForInStep.yield cs):Sem (ForInStep (List (Str×Addr)))))=pure (yJ env.cells names acc)
 |[],acc,_=>rfl
 | (n,k)::r,acc,h=>by
  rw[List.forIn_cons];by_cases hk:(k == NameKind.free)=true
  ·
   obtain⟨c,hc⟩:=h (n,k) List.mem_cons_self (by simpa using hk);have e:cellOf env n=pure c:=by unfold cellOf;rw[show env.cells.lookup n=some c from hc]
   simp only[hk,if_true,e,pure_bind,yJ,hc];exact my r _ λx hx=>h x (List.mem_cons_of_mem _ hx)
  · simp only[hk,yJ,if_false,pure_bind];exact my r _ λx hx=>h x (List.mem_cons_of_mem _ hx)
theorem qR{scope:Scope}{env:Env}(h:∀x∈scope.names,x.2=.free->∃c,env.cells.lookup x.1=some c):closureFor scope env=pure (yJ env.cells scope.names []):=by have:=my (env:=env) scope.names [] h;unfold closureFor;simp only[bind_pure_comp]at this ⊢;rw[this];rfl
theorem xc{cells:List (Str×Addr)}:∀(names:List (Str×NameKind))(acc:List (Str×Addr)),(∀x c,acc.lookup x=some c->cells.lookup x=some c)->∀x c,(yJ cells names acc).lookup x=some c->cells.lookup x=some c
 |[],acc,h,x,c,e=>h x c e
 | (n,k)::r,acc,h,x,c,e=>by
  unfold yJ at e;refine xc r _ (λy d ey=>?_) x c e;split at ey
  ·
   split at ey
   ·
    rename_i q;rw[List.lookup_cons]at ey;split at ey
    ·
     rename_i e2;have:y=n:=by simpa using e2
     cases ey;rw[this];exact q
    · exact h y d ey
   · exact h y d ey
  · exact h y d ey
theorem nJ{n:Str}{c:Addr}{acc:List (Str×Addr)}{x:Str}(h:∃d,acc.lookup x=some d):∃d,((n,c)::acc).lookup x=some d:=by
 rw[List.lookup_cons];split
 · exact⟨_,rfl⟩
 · exact h
theorem qS{cells:List (Str×Addr)}:∀(names:List (Str×NameKind))(acc:List (Str×Addr))(x:Str),((∃d,acc.lookup x=some d)∨((x,NameKind.free)∈names/\∃c,cells.lookup x=some c))->∃d,(yJ cells names acc).lookup x=some d
 | [],acc,x,h=>by
  rcases h with h|⟨h,_⟩
  · exact h
  · simp at h
 | (n,k)::r,acc,x,h=>by
  unfold yJ;refine qS r _ x ?_;rcases h with h|⟨hm,c,hc⟩
  ·
   left;split
   ·
    split
    · exact nJ h
    · exact h
   · exact h
  ·
   rcases List.mem_cons.mp hm with e|hm
   · cases e;left;simp only[hc,beq_self_eq_true,if_true];exact⟨c,by simp[List.lookup_cons]⟩
   · exact .inr ⟨hm,c,hc⟩
noncomputable def ll(X:Cx)(scope:Scope)(cl:List (Str×Addr))(Nb:List Str)(s₀:Shared)(H₀:Hp)(fp:List Addr):Cx :=
 {X with N:=Nb,s₀:=s₀,H₀:=H₀,env:=compEnvC scope cl s₀.heap.objs.size X.env,outer:=X.stack,stack:=X.stack,ex:=fp,fn:=λ_=>false,pn:=[],xe:=λ_ _=>False}
theorem jG{α β:Type}{F:α->β->Prop}:∀{a:List α}{b:List β},Paired F a b↔a.length=b.length/\∀p∈a.zip b,F p.1 p.2
 |[],[]=>⟨λ_=>⟨rfl,λ_ h=>by simp at h⟩,λ_=>.nil⟩
 |[],_::_=>⟨(λh=>nomatch h),λh=>by simp at h⟩
 |_::_,[]=>⟨(λh=>nomatch h),λh=>by simp at h⟩
 | x::a,y::b=>by
  constructor
  ·
   intro h
   cases h with
   | cons r t =>
    obtain⟨h1,h2⟩:=jG.mp t
    exact⟨by simp[h1],λp hp=>by
     rw[List.zip_cons_cons]at hp;rcases List.mem_cons.mp hp with rfl|hp
     · exact r
     ·
      exact h2 p hp⟩
  · rintro⟨hl,h⟩;exact .cons (h (x,y) (by simp)) (jG.mpr ⟨by simpa using hl,λp hp=>h p (by rw[List.zip_cons_cons];exact List.mem_cons_of_mem _ hp)⟩)
theorem qT:∀{σ:St}{ρ:Ev},σ.length=ρ.length->(σ.zip ρ).map (·.2)=ρ
 |[],[],_=>rfl
 | _::σ,l::ρ,h=>by have ih:=qT (σ:=σ) (ρ:=ρ) (by simpa using h);rw[List.zip_cons_cons,List.map_cons,ih]
 |[],_::_,h=>by simp at h
 |_::_,[],h=>by simp at h
theorem aA.rearr{K:PySem.W.Frag}{Pr H:Hp}{σ σ2:St}{ρ ρ2:Ev}(E:aA K Pr H σ ρ)(hl:σ2.length=ρ2.length)(extra:List (Option V×L))(h:(σ.zip ρ).Perm (σ2.zip ρ2++extra)):aA K Pr H σ2 ρ2:=by
 have pm:(owns ρ).Perm (owns ρ2++owns (extra.map (·.2))):=by have q:=iO (h.map (·.2));rw[List.map_append,qT E.len,qT hl,aI]at q;exact q
 refine⟨E.sub,(List.nodup_append.mp (pm.nodup_iff.mp E.nd)).1,λa ha=>E.off a (pm.mem_iff.mpr (List.mem_append_left _ ha)),jG.mpr ⟨hl,λp hp=>?_⟩⟩;exact(jG.mp E.sl).2 p (h.mem_iff.mpr (List.mem_append_left _ hp))
theorem tJ{fi:List Nat}{σ τ:St}(h:∀j∈fi,j<σ.length):b9 fi (σ++τ)=b9 fi σ:=by unfold b9;refine List.map_congr_left λj hj=>?_;rw[List.getElem?_append_left (h j hj)]
theorem yK{fi:List Nat}{σ τ:Ev}(h:∀j∈fi,j<σ.length):cA fi (σ++τ)=cA fi σ:=by unfold cA;refine List.map_congr_left λj hj=>?_;rw[List.getElem?_append_left (h j hj)]
theorem tK{τ:Ev}:∀{fi:List Nat}{ρ:Ev},(∀j∈fi,j<ρ.length)->bu fi (ρ++τ)=bu fi ρ++τ
 |[],_,_=>rfl
 | j::r,ρ,h=>by unfold bu;rw[tK λi hi=>h i (List.mem_cons_of_mem _ hi),List.set_append_left _ _ (by rw[eO];exact h j List.mem_cons_self)]
theorem qg{τ:Ev}:∀{fi:List Nat}{cs ρ:Ev},(∀j∈fi,j<ρ.length)->fZ fi cs (ρ++τ)=fZ fi cs ρ++τ
 |[],[],_,_=>rfl
 |[],_::_,_,_=>rfl
 |_::_,[],_,_=>rfl
 | j::r,c::cs,ρ,h=>by unfold fZ;rw[List.set_append_left _ _ (h j List.mem_cons_self)];exact qg λi hi=>by rw[List.length_set];exact h i (List.mem_cons_of_mem _ hi)
theorem eP{env:Env}:∀{names:List (Str×NameKind)}{x:Str},names.lookup x=some .free ->
  (names.map λ(n,k)=>if(k == NameKind.free && env.scope.kind == .function && env.kindOf n == some .cell)then(n,NameKind.cell)else(n,k)).lookup x=some .cell ∨
  (names.map λ(n,k)=>if(k == NameKind.free && env.scope.kind == .function && env.kindOf n == some .cell)then(n,NameKind.cell)else(n,k)).lookup x=some .free
 |[],_,h=>by simp at h
 | (n,k)::r,x,h=>by
  have ih:=@eP env r x;rw[List.map_cons]
  cases hx:x == n with
  | true =>
   simp only[List.lookup_cons,hx]at h;cases h;dsimp only;by_cases hc:(NameKind.free == NameKind.free && env.scope.kind == .function && env.kindOf n == some .cell)=true
   · left;rw[if_pos hc];simp[List.lookup_cons,hx]
   · right;rw[if_neg hc];simp[List.lookup_cons,hx]
  | false =>
   simp only[List.lookup_cons,hx]at h;dsimp only;by_cases hc:(k == NameKind.free && env.scope.kind == .function && env.kindOf n == some .cell)=true
   · rw[if_pos hc];simp only[List.lookup_cons,hx];exact ih h
   · rw[if_neg hc];simp only[List.lookup_cons,hx];exact ih h
theorem gD{env:Env}:∀{names:List (Str×NameKind)}{x:Str}{k:NameKind},(∀y∈names,y.2≠.cell)->(k=.cell∨k=.free) ->
  (names.map λ(n,k)=>if(k == NameKind.free && env.scope.kind == .function && env.kindOf n == some .cell)then(n,NameKind.cell)else(n,k)).lookup x=some k->(x,NameKind.free)∈names
 |[],_,_,_,_,h=>by simp at h
 | (n,k0)::r,x,k,hc,hk,h=>by
  rw[List.map_cons]at h;dsimp only at h;by_cases q:(k0 == NameKind.free && env.scope.kind == .function && env.kindOf n == some .cell)=true
  ·
   rw[if_pos q,List.lookup_cons]at h;have e0:k0=.free:=by have:=(Bool.and_eq_true_iff.mp (Bool.and_eq_true_iff.mp q).1).1;simpa using this
   split at h
   ·
    rename_i e;have:x=n:=by simpa using e
    subst this e0;exact List.mem_cons_self
   · exact List.mem_cons_of_mem _ (gD (λy hy=>hc y (List.mem_cons_of_mem _ hy)) hk h)
  ·
   rw[if_neg q,List.lookup_cons]at h;split at h
   ·
    rename_i e;have:x=n:=by simpa using e
    subst this;have e1:k0=k:=by simpa using h
    subst e1;rcases hk with z|z
    · exact absurd z (hc (x,k0) List.mem_cons_self)
    · subst z;exact List.mem_cons_self
   · exact List.mem_cons_of_mem _ (gD (λy hy=>hc y (List.mem_cons_of_mem _ hy)) hk h)
section
variable{prog:Program}{w:World}{A:Around}{R:Result->Shared->Prop}
theorem Al{elt target iter:Expr}{ifs:List Expr}{scope:Scope}{pos:Pos}{it acc:Value}{env:Env}(I:Nat->Shared->Prop)
  (turn:∀n s,I n s->wpAny (model prog w) A (pyNext it) (λr s₁=>match r with
   |none=>R (.ok .next) s₁
   | some v=>wpAny (model prog w) A (letOwnedTupleGo target it v) (λ_ s₀=>wpAny (model prog w) A (assign target env v) (λ_ s₂ =>
     wpAny (model prog w) A (forIn ifs true λc r=>if r=true then do let ok ← isTrue c env (eval c env);pure (ForInStep.yield ok)else pure (ForInStep.yield r)) (λok s₃ =>
      if ok=true then wpAny (model prog w) A (eval elt env) (λx s₄ =>
       wpAny (model prog w) A (call (.builtin "list.append") [acc,x]) (λ_ s₅=>∃ m,m < n/\I m s₅) (λ_ _=>False) s₄) (λ_ _=>False) s₃
      else ∃m,m<n/\I m s₃) (λ_ _=>False) s₂) (λ_ _=>False) s₀) (λ_ _=>False) s₁) (λ_ _=>False) s)
  (n:Nat) {s:Shared} (h:I n s) :
  codeAny (model prog w) A (.compLoop (.ListComp elt [⟨target,iter,ifs,0⟩] scope pos) 0 it acc env) R s:=by
 refine codeAny_loop rfl I (λn s hI=>?_) n h
 show wpAny _ A ((compTurn (.ListComp elt [⟨target,iter,ifs,0⟩] scope pos) 0 it acc env).onRaise (λx=>do noteFrame x env;theTreesLotGoes x)) _ _ s
 refine wpAny_noted ?_;rw[compTurn_list];have fe:∀{α:Type}{t:Sem α}{Q:α->Shared->Prop}{E:Value->Shared->Prop}{s:Shared},wpAny (model prog w) A t Q (λ_ _=>False) s->wpAny (model prog w) A t Q E s:=λh=>wpAny_mono h (λ_ _ q=>q) λ_ _ z=>z.elim;refine wpAny_bind (wpAny_standAt (wpAny_bind (wpAny_mono (turn n s hI) (λr s₁ h₁=>?_) λ_ _ h'=>h'.elim)))
 cases r with
 |none=>exact wpAny_pure h₁
 | some v =>
  refine wpAny_bind (wpAny_mono h₁ (λ_ s₀ h₀=>?_) λ_ _ z=>z.elim);refine wpAny_bind (wpAny_mono h₀ (λ_ s₂ h₂=>wpAny_bind (wpAny_mono h₂ (λok s₃ h₃=>?_) λ_ _ h'=>h'.elim)) λ_ _ h'=>h'.elim)
  cases ok with
  |false=>exact wpAny_pure ⟨rfl,h₃⟩
  | true =>
   exact wpAny_bind (wpAny_bind (wpAny_mono h₃ (λx s₄ h₄=>wpAny_bind (wpAny_mono h₄ (λ_ s₅ h₅=>wpAny_pure (wpAny_pure ⟨rfl,h₅⟩)) λ_ _ h'=>h'.elim)) λ_ _ h'=>h'.elim))
end
def Nx(X:Cx)(tg:Expr)(n:Nat)(g:Tg):Prop:=∃gg:TG,PG X tg gg/\∀v σ H Pr ρ x k,σ.length=X.N.length->aA X.K Pr H σ ρ->M7 X.K H v x->g x ρ k->gg v σ H λσ' H'=>H'=H/\σ'.drop n=σ.drop n/\∃ρ',aA X.K Pr H σ' ρ'/\k ρ'
theorem kf{X:Cx}{i n:Nat}{x:Str}{pos:Pos}(hn:i<n)(hN:X.N.Nodup)(hi:X.N[i]?=some x)(hx:Ms X.env.scope x)(hf:X.fn x=true∨X.env.scope.names.lookup x=some .local:=by first|exact .inl rfl|exact .inr rfl|assumption):Nx X (.Name x pos) n (b8 i) :=
 ⟨_,qF hN hi hx hf,λv σ H Pr ρ x k hl E r h=>⟨rfl,by rw[List.drop_set_of_lt hn],_,(E.cons_d r).store (by rw[hl];exact(List.getElem?_eq_some_iff.mp hi).1),h⟩⟩
def Ny(X:Cx)(ifs:List Expr)(t:W Bool):Prop :=
 ∀(pins:List (Addr×Obj))(s:Shared)(σ:St)(H Pr:Hp)(ρ:Ev)(post:Bool->Ev->Prop),Mt X pins σ H s->aA X.K Pr H σ ρ->t ρ post ->
  wpAny (model X.prog X.w) X.A (forIn ifs true λc r=>if r=true then do let ok ← isTrue c X.env (eval c X.env);pure (ForInStep.yield ok)else pure (ForInStep.yield r)) (EB X pins σ Pr post) X.xe s
def qU:W Bool:=λρ post=>post true ρ
theorem oN{X:Cx}:Ny X [] qU:=λpins s σ H Pr ρ post I E h=>wpAny_tests_nil ⟨H,ρ,I,E,h⟩
theorem vz{X:Cx}{c:Expr}{t:W Bool}(h:PB X c t):Ny X [c] t:=λpins s σ H Pr ρ post I E ht=>wpAny_tests_one (h pins s σ H Pr ρ post I E ht)
def gb(g:Tg)(ti:W Bool)(te:W L):List D->Ev->List D->(List D->Ev->Prop)->Prop
 |[],ρ,acc,k=>k acc ρ
 |x::xs,ρ,acc,k=>g x ρ λρ1=>ti ρ1 λb ρ2=>if b=true then te ρ2 λr ρ3=>Na r λy=>gb g ti te xs ρ3 (acc++[y]) k else gb g ti te xs ρ2 acc k
def oO(n:Nat)(fi:List Nat)(src:W (List D))(g:Tg)(ti:W Bool)(te:W L):W L:=λρ post=>src ρ λxs ρ1=>xs.length≤sizeLine /\
 gb g ti te xs (List.replicate n .un++cA fi ρ1) [] λys ρb=>∀a,post (.own a ys) (fZ fi (ρb.drop n) (bu fi ρ1))
section
variable{X:Cx}
theorem Am{elt tg iter:Expr}{ifs:List Expr}{scope sc:Scope}{pos:Pos}{N Nt Nf:List Str}{fi:List Nat}{src:W (List D)}{g:Tg}{ti:W Bool}{te:W L}
  (hsc:X.env.scope=sc) (hXN:X.N=N) (hc:X.calm=true) (hi:Np X tg iter src)
  (hkind:scope.kind=.function) (hnames:∀x∈scope.names,x.2=.local->scope.names.lookup x.1=some .local) (hcell:∀y∈scope.names,y.2≠.cell)
  (hfr:∀x∈scope.names,x.2=.free->sc.names.lookup x.1=some .cell∨sc.names.lookup x.1=some .free)
  (hnd:fi.Nodup) (hNf:Nf.map some=fi.map (λj=>N[j]?)) (hNk:∀x∈Nf,scope.names.lookup x=some .free) (hfl:∀j∈fi,j<N.length)
  (hg:∀cl s₀ H₀ fp,Nx (ll X scope cl (Nt++Nf) s₀ H₀ fp) tg Nt.length g) (hti:∀cl s₀ H₀ fp,Ny (ll X scope cl (Nt++Nf) s₀ H₀ fp) ifs ti) (hte:∀cl s₀ H₀ fp,PL (ll X scope cl (Nt++Nf) s₀ H₀ fp) elt te)
  {pins:List (Addr×Obj)} {s:Shared} {σ:St} {H Pr:Hp} {ρ:Ev} {post:L->Ev->Prop} {use:Option (Value->Sem Unit)} {Q:Value->Shared->Prop} (I:Mt X pins σ H s) (E:aA X.K Pr H σ ρ) (h:oO Nt.length fi src g ti te ρ post)
  (hRR:∀D C s7 H6 acc ρ'' m,Mt X pins σ H6 s7->s7.heap.Ns C m->H6 C=none->C≠X.env.locals->X.s₀.heap.objs.size≤C->(∀x c,X.env.cells.lookup x=some c->c≠C)->(∀p∈X.pn++pins,p.1≠C)->aA X.K Pr H6 (some (.ref D)::σ) (.own D acc::ρ'')->post (.own D acc) ρ'' ->
   compPost (model X.prog X.w) X.A X.xe use Q (.ref D) C (.ok .next) s7)
  (hs:∀x,foldedSetIterable iter X.env x=pure x):wpAny (model X.prog X.w) X.A (comprehension (.ListComp elt [⟨tg,iter,ifs,0⟩] scope pos) scope X.env (firstIterPos [⟨tg,iter,ifs,0⟩] pos) (newList []) false (eval iter X.env) use) Q X.xe s:=by
 have hcells:∀x∈scope.names,x.2=.free->∃c,X.env.cells.lookup x.1=some c:=λx hx hk=>I.ok.has x.1 (by
  show X.env.scope.names.lookup x.1=_∨X.env.scope.names.lookup x.1=_
  rw[hsc];exact hfr x hx hk)
 have hsub:=xc (cells:=X.env.cells) scope.names [] (λx c e=>by simp at e);refine wpAny_comprehension_free (use:=use) rfl hs (qR hcells) hkind hnames (Mv (hi pins s σ H Pr ρ _ I E h) λv s1 h1=>Mv h1 λitv s2 h2=>?_);obtain⟨it,fp,tn,J,H2,xs,ρ2,e,I2,T,st2,f2,E2,G,hlen,w0⟩:=h2;subst e;refine wpAny_newObj_type (T:="list") ?_;generalize hD:s2.heap.objs.size=D;have fD:H2 D=none:=by rw[← hD];exact I2.fresh
 have I3:Mt X pins σ (Ml H2 D (.lst [])) {s2 with heap:=s2.heap.push {cls:=.type "list",dict:=none,data:=.seq ([]:List Value).toArray} }:=by have:=Mt.lnew (ys:=[]) (its:=[]) (t':=s2.toks) I2 .nil (Nat.zero_le _);rw[hD]at this;exact this
 have E3:=E2.cons_own (p:=D) (vs:=[]) (xs:=[]) fD .nil;have sz3:(s2.heap.push {cls:=.type "list",dict:=none,data:=.seq ([]:List Value).toArray}).objs.size=D+1:=by rw[Heap.size_push,hD]
 generalize hs3:({s2 with heap:=s2.heap.push {cls:=.type "list",dict:=none,data:=.seq ([]:List Value).toArray} }:Shared)=s3 at I3;have hs3h:s3.heap=s2.heap.push {cls:=.type "list",dict:=none,data:=.seq ([]:List Value).toArray}:=by rw[← hs3]
 have fpD:∀b∈fp,b≠D:=λb hb=>by obtain⟨o,e,_⟩:=T.obj 0 _ st2 b hb;rw[← hD];exact Nat.ne_of_lt (Heap.lt_size e)
 have old3:∀b o,s2.heap.get? b=some o->s3.heap.get? b=some o:=λb o e=>by rw[hs3h];exact Heap.get?_push_of_some _ e
 refine wpAny_newFunctionEnv (around:=some X.env) hcell (by intro y hy;simp at hy) (λh4 hns4 hsb4=>?_) hkind
 have hns4':h4.Ns s3.heap.objs.size (λ_=>none):=by
  have:(λx=>(([]:List (Str×Value)).reverse.lookup x))=λ_=>(none:Option Value):=by funext x;rfl
  rw[this]at hns4;exact hns4
 have old4:∀b o,s3.heap.get? b=some o->h4.get? b=some o:=λb o e=>by rw[hsb4.2 b (Nat.ne_of_lt (Heap.lt_size e))];exact Heap.get?_push_of_some _ e
 have hσl:σ.length=N.length:=by rw[← hXN];exact I.len
 have hρ2:σ.length=ρ2.length:=E2.len;have hjσ:∀j∈fi,j<σ.length:=λj hj=>by rw[hσl];exact hfl j hj
 have hjρ:∀j∈fi,j<ρ2.length:=λj hj=>by rw[← hρ2];exact hjσ j hj
 have hfpl:∀b∈fp,b<s3.heap.objs.size:=λb hb=>by obtain⟨o,e,_⟩:=T.obj 0 _ st2 b hb;exact Heap.lt_size (old3 b o e)
 have hlNf:Nf.length=fi.length:=by have:=congrArg List.length hNf;simpa using this
 have Bok:(ll X scope (yJ X.env.cells scope.names []) (Nt++Nf) s3 (Ml H2 D (.lst [])) fp).Ok:=by
  refine⟨I3.ok.mod,hkind,I.ok.glob,I.ok.blt,Nat.le_refl _,λx y c e1 e2=>I.ok.inj x y c (hsub x c e1) (hsub y c e2),λx hx=>?_,λx c hf _=>(Bool.false_ne_true hf).elim,I.ok.hd,I.ok.frames,.inl rfl,λb hb=>⟨Nat.ne_of_lt (hfpl b hb),λx c e=>(f2 b hb).2.2.2.2.1 x c (hsub x c e)⟩,I3.bs,Nat.le_trans I.ok.bsz I3.sz,λb o e hb=>?_,λb hb hm=>?_,I3.stack,I3.stkFree,I3.tbs⟩
  ·
   have hm:(x,NameKind.free)∈scope.names:=by
    rcases hx with hx|hx
    · exact gD (env:=X.env) hcell (.inl rfl) hx
    · exact gD (env:=X.env) hcell (.inr rfl) hx
   exact qS scope.names [] x (.inr ⟨hm,hcells _ hm rfl⟩)
  ·
   rcases(f2 b hb).2.2.2.1 with z|z
   · exact I.ok.noex b o e z
   · exact absurd (Nat.lt_of_lt_of_le (Heap.lt_size (I.ok.bs b o e).1) z) (Nat.lt_irrefl _)
  ·
   rcases List.mem_cons.mp (I3.stkSub b hm)with z|z
   · exact(f2 b hb).2.1 z
   · exact(f2 b hb).2.2.1 z
 have I4:Mt (ll X scope (yJ X.env.cells scope.names []) (Nt++Nf) s3 (Ml H2 D (.lst [])) fp) [] (List.replicate Nt.length none++b9 fi σ) (Ml H2 D (.lst [])) {s3 with heap:=h4,toks:=s3.toks+([]:List (Str×Value)).length}:=by
  refine⟨Bok,rfl,I3.bare,Un.kept old4,⟨_,hns4',λi x v e1 e2 e3=>?_⟩,λx c e=>?_,I3.fresh,λx c e=>(I3.freeC x c (hsub x c e)).imp id λz=>⟨rfl,z.2⟩,λp hp=>absurd (show p∈([]:List (Addr×Obj))from hp) (by simp),I3.hok.kept old4,?_⟩
  ·
   have e1:(Nt++Nf)[i]?=some x:=e1
   have hi':Nt.length≤i:=by
    by_cases q:i<Nt.length
    · rw[List.getElem?_append_left (by simpa using q),List.getElem?_replicate]at e2;split at e2<;>cases e2
    · omega
   rw[List.getElem?_append_right hi']at e1;rw[List.getElem?_append_right (by simpa using hi')]at e2;simp only[List.length_replicate]at e2;generalize i-Nt.length=k at e1 e2;have hk:k<fi.length:=by have:=(List.getElem?_eq_some_iff.mp e1).1;omega
   have e4:(Nf.map some)[k]?=(fi.map λj=>N[j]?)[k]?:=by rw[hNf]
   rw[List.getElem?_map,List.getElem?_map,e1,List.getElem?_eq_getElem hk]at e4;have e5:N[fi[k]]?=some x:=by simpa using e4.symm
   have e6:σ[fi[k]]?=some (some v):=by unfold b9 at e2;rw[List.getElem?_map,List.getElem?_eq_getElem hk]at e2;have hjl:=hjσ fi[k] (List.getElem_mem hk);rw[List.getElem?_eq_getElem hjl];simpa[List.getElem?_eq_getElem hjl]using e2
   have hxm:x∈Nf:=List.mem_of_getElem? e1;have hfree:=hNk x hxm;have hmem:(x,NameKind.free)∈scope.names:=PySem.mem_of_lookup hfree;have hkx:=hfr _ hmem rfl;obtain⟨m,_,hl⟩:=I3.loc;obtain⟨u,ru,lk⟩:=hl fi[k] x v (by rw[hXN];exact e5) e6 (by rw[hsc];exact .inr hkx);refine⟨u,ru,.inr ⟨eP (env:=X.env) hfree,?_⟩⟩;rcases lk with⟨z,_⟩|⟨_,c,hc1,hc2⟩
   ·
    have z:X.env.scope.names.lookup x=some .local:=z;rw[hsc]at z;rcases hkx with q|q
    · rw[z]at q;cases q
    · rw[z]at q;cases q
   ·
    obtain⟨d,hd⟩:=qS (cells:=X.env.cells) scope.names [] x (.inr ⟨hmem,c,hc1⟩);have:d=c:=by have:=hsub x d hd;rw[hc1]at this;exact(Option.some.inj this).symm
    subst this;obtain⟨o,ho,hdd⟩:=hc2;exact⟨d,hd,o,old4 _ o ho,hdd⟩
  · obtain⟨v,o,ho,hd⟩:=I3.cell x c (hsub x c e);exact⟨v,o,old4 c o ho,hd⟩
  · show(List.replicate Nt.length none++b9 fi σ).length=(Nt++Nf).length;simp[b9,hlNf]
 have E4:aA X.K Pr (Ml H2 D (.lst [])) (some (.ref D)::(σ++(List.replicate Nt.length none++b9 fi σ))) (.own D []::(bu fi ρ2++(List.replicate Nt.length .un++cA fi ρ2))):=by
  have a1:aA X.K Pr (Ml H2 D (.lst [])) (σ++[some (.ref D)]) (ρ2++[.own D []]):=E3.rearr (by simp[hρ2]) [] (by
   rw[List.append_nil,List.zip_append hρ2]
   exact(List.perm_append_comm (l₁:=[(some (V.ref D),L.own D [])]) (l₂:=σ.zip ρ2)))
  have a2:=a1.takes fi hnd λj hj=>by have:=hjρ j hj;simp;omega
  rw[tJ hjσ,yK hjρ,tK hjρ]at a2;have a3:=a2.uns Nt.length;have hcl:(b9 fi σ).length=(cA fi ρ2).length:=by simp[b9,cA]
  have hul:σ.length=(bu fi ρ2).length:=by rw[eO];exact hρ2
  refine a3.rearr (by simp[hul,hcl]) [] ?_;have l1:(b9 fi σ++(σ++[some (V.ref D)])++List.replicate Nt.length none).zip (cA fi ρ2++(bu fi ρ2++[L.own D []])++List.replicate Nt.length L.un)=((b9 fi σ).zip (cA fi ρ2)++(σ.zip (bu fi ρ2)++[(some (V.ref D),L.own D [])]))++(List.replicate Nt.length none).zip (List.replicate Nt.length L.un):=by rw[List.zip_append (by simp only[List.length_append,hcl,hul];rfl),List.zip_append hcl,List.zip_append hul];rfl
  have l2:(some (V.ref D)::(σ++(List.replicate Nt.length none++b9 fi σ))).zip (L.own D []::(bu fi ρ2++(List.replicate Nt.length L.un++cA fi ρ2)))=(some (V.ref D),L.own D [])::(σ.zip (bu fi ρ2)++((List.replicate Nt.length none).zip (List.replicate Nt.length L.un)++(b9 fi σ).zip (cA fi ρ2))):=by rw[List.zip_cons_cons,List.zip_append hul,List.zip_append (by simp)]
  rw[List.append_nil,l1,l2];generalize (b9 fi σ).zip (cA fi ρ2)=z1;generalize σ.zip (bu fi ρ2)=z2;generalize (List.replicate Nt.length none).zip (List.replicate Nt.length L.un)=z3;show(z1++(z2++[(some (V.ref D),L.own D [])])++z3).Perm ((some (V.ref D),L.own D [])::(z2++(z3++z1)));have p1:(z1++(z2++[(some (V.ref D),L.own D [])])++z3).Perm ((z2++[(some (V.ref D),L.own D [])])++z3++z1):=by rw[List.append_assoc];exact List.perm_append_comm
  refine p1.trans ?_;rw[List.append_assoc,List.append_assoc];exact List.perm_middle
 clear E3
 let B:Cx:=ll X scope (yJ X.env.cells scope.names []) (Nt++Nf) s3 (Ml H2 D (.lst [])) fp
 have hul:σ.length=(bu fi ρ2).length:=by rw[eO];exact hρ2
 have stat:∀{H':Hp},(∀b∈fp,H' b=none)->∀b∈fp,B4 B [] H' b:=λhn b hb=>by
  refine⟨hn b hb,Nat.ne_of_lt (hfpl b hb),λhm=>?_,.inl hb,λx c e=>(f2 b hb).2.2.2.2.1 x c (hsub x c e),λp hp=>absurd (show p∈([]:List (Addr×Obj))from hp) (by simp)⟩;rcases List.mem_cons.mp (I3.stkSub b hm)with z|z
  · exact(f2 b hb).2.1 z
  · exact(f2 b hb).2.2.1 z
 have loop:∀s5:Shared,s5={s3 with heap:=h4,toks:=s3.toks+([]:List (Str×Value)).length}->codeAny (model X.prog X.w) X.A (.compLoop (.ListComp elt [⟨tg,iter,ifs,0⟩] scope pos) 0 (.ref it) (.ref D) B.env)
   (compPost (model X.prog X.w) X.A X.xe use Q (.ref D) s3.heap.objs.size) s5:=by
  rintro s5 rfl
  refine Al (λn s'=>∃i σ' H' ρ' acc,n+i=xs.length/\Mt B [] σ' H' s'/\tn i s'.heap/\(∀b∈fp,H' b=none)/\σ'.drop Nt.length=b9 fi σ/\aA X.K Pr H' (some (.ref D)::(σ++σ')) (.own D acc::(bu fi ρ2++ρ'))/\acc.length≤i /\
   gb g ti te (xs.drop i) ρ' acc λys ρb=>∀a,post (.own a ys) (fZ fi (ρb.drop Nt.length) (bu fi ρ2))) ?_ xs.length
   ⟨0,_,_,_,[],by omega,I4,T.keep 0 _ _ st2 λb hb o e=>old4 b o (old3 b o e),λb hb=>by rw[aC (fpD b hb)];exact(f2 b hb).1,by simp,E4,Nat.le_refl _,by simpa using w0⟩
  rintro n s6 ⟨i,σ6,H6,ρ6,acc,hn,I6,st6,fr6,dr6,E6,hal,w6⟩
  have pr:tD H2 H6:=λb o p e=>by
   have ne:b≠D:=λz=>by rw[z,fD]at e;cases e
   have e':B.H₀ b=some o:=by show Ml H2 D (.lst []) b=some o;rw[aC ne];exact e
   cases o with
   |tup ys=>exact I6.base.tups b ys e'
   |frz ob u=>exact I6.base.frzs b ob u e'
   |tbl t=>exact I6.base.tbls b t e'
   |_=>exact p.elim
  obtain⟨go,stop⟩:=G H6 pr;have hτ:(some (V.ref D)::σ).length=(L.own D acc::bu fi ρ2).length:=by simp[hul]
  by_cases hlt:i<xs.length
  ·
   obtain⟨hgo,hy⟩:=go i xs[i] (List.getElem?_eq_getElem hlt);rw[List.drop_eq_getElem_cons hlt]at w6;refine Mv (T.item B rfl rfl rfl hc i [] s6 σ6 H6 (λ_ _=>False) I6 (stat fr6) st6 hgo) λr s7 ⟨u,hr,h7⟩=>?_;subst hr;refine Mv h7 λ_ s8 ⟨x,H8,I8,r8,y8,st8,fr8⟩=>?_;obtain⟨gr,rx⟩:=hy x H8 y8;have I8':=I8.pinned (stat fr8) (T.obj _ _ st8);have E8:=E6.grown gr;have E8a:aA X.K (bz H8 ρ6) H8 σ6 ρ6:=(aA.drop (τ:=some (V.ref D)::σ) (lam:=L.own D acc::bu fi ρ2) E8 hτ).wide;obtain⟨gg,hgg,hgs⟩:=hg (yJ X.env.cells scope.names []) s3 (Ml H2 D (.lst [])) fp;refine Mv (hgg _ s8 σ6 H8 x u _ I8' r8 (hgs x σ6 H8 _ ρ6 xs[i] _ I8.len E8a rx w6)) λ_ s9 ⟨σ9,H9,I9,e9,dr9,ρ9,E9,q9⟩=>?_;subst e9;have F9:aA X.K Pr H9 (some (V.ref D)::(σ++σ9)) (L.own D acc::(bu fi ρ2++ρ9)):=aA.step (τ:=some (V.ref D)::σ) (lam:=L.own D acc::bu fi ρ2) (w:=[]) (μ:=[]) E8 hτ E9 rfl;have F9a:aA X.K (bz H9 ρ9) H9 σ9 ρ9:=(aA.drop (τ:=some (V.ref D)::σ) (lam:=L.own D acc::bu fi ρ2) F9 hτ).wide;refine Mv (hti _ _ _ _ _ s9 σ9 H9 _ ρ9 _ I9 F9a q9) λok sA ⟨HA,ρA,IA,EA,qA⟩=>?_;have FA:aA X.K Pr HA (some (V.ref D)::(σ++σ9)) (L.own D acc::(bu fi ρ2++ρA)):=aA.step (τ:=some (V.ref D)::σ) (lam:=L.own D acc::bu fi ρ2) (w:=[]) (μ:=[]) F9 hτ EA rfl
   have again:∀{sZ:Shared}{HZ:Hp}{ρZ:Ev}{acc':List L2.D},Mt B ([]++sQ fp s8.heap) σ9 HZ sZ->aA X.K Pr HZ (some (.ref D)::(σ++σ9)) (.own D acc'::(bu fi ρ2++ρZ))->acc'.length≤i+1 ->
     (gb g ti te (xs.drop (i+1)) ρZ acc' λys ρb=>∀a,post (.own a ys) (fZ fi (ρb.drop Nt.length) (bu fi ρ2)))->∃m,m<n/\∃i σ' H' ρ' acc,m+i=xs.length/\Mt B [] σ' H' sZ/\tn i sZ.heap/\(∀b∈fp,H' b=none)/\σ'.drop Nt.length=b9 fi σ /\
     aA X.K Pr H' (some (.ref D)::(σ++σ')) (.own D acc::(bu fi ρ2++ρ'))/\acc.length≤i/\gb g ti te (xs.drop i) ρ' acc λys ρb=>∀a,post (.own a ys) (fZ fi (ρb.drop Nt.length) (bu fi ρ2)):=λ{sZ HZ ρZ acc'} IZ EZ hz qZ=>by
    refine⟨n-1,by omega,i+1,σ9,HZ,ρZ,acc',by omega,IZ.unpinned,T.keep _ _ _ st8 λb hb o e=>(IZ.pin (b,o) (List.mem_append_right _ (List.mem_append_right _ (jB hb e)))).1,λb hb=>?_,dr9.trans dr6,EZ,hz,qZ⟩;obtain⟨o,e,d⟩:=T.obj _ _ st8 b hb;exact(IZ.pin (b,o) (List.mem_append_right _ (List.mem_append_right _ (jB hb e)))).2.1
   cases ok with
   | false =>
    rw[if_neg Bool.false_ne_true]at qA ⊢;exact again IA FA (by omega) qA
   | true =>
    rw[if_pos rfl]at qA ⊢;have FAa:aA X.K (bz HA ρA) HA σ9 ρA:=(aA.drop (τ:=some (V.ref D)::σ) (lam:=L.own D acc::bu fi ρ2) FA hτ).wide;refine Mv (hte _ _ _ _ _ sA σ9 HA _ ρA _ IA FAa qA) λux sB qB=>?_;obtain⟨vy,HB,y,ρB,IB,rB,EB,qB⟩:=EL.frz (X:=B) (post:=λy ρ3=>gb g ti te (xs.drop (i+1)) ρ3 (acc++[y]) λys ρb=>∀a,post (.own a ys) (fZ fi (ρb.drop Nt.length) (bu fi ρ2))) qB;have FB:aA X.K Pr HB (some vy::(some (V.ref D)::(σ++σ9))) (.d y::(L.own D acc::(bu fi ρ2++ρB))):=aA.step (τ:=some (V.ref D)::σ) (lam:=L.own D acc::bu fi ρ2) (w:=[some vy]) (μ:=[.d y]) FA hτ EB rfl;obtain⟨_,e1,p1⟩:=FB.head_d;cases e1;have Nz:=FB.tail.sl
    cases Nz with
    | cons q0 _ =>
     obtain⟨_,vs,hDB,rvs⟩:=q0;refine Mv (td (X:=B) _ sB σ9 HB (.ref D) [vy] (.ref D) [ux] (λz H'=>H'=Ml HB D (.lst (vs++[vy]))) IB rfl (.cons rB .nil) ⟨D,vs,vy,rfl,rfl,hDB,by rw[rvs.length];omega,rfl⟩) λ_ sC ⟨z,HC,IC,_,eC⟩=>?_;subst eC;exact again IC (FB.tail.write (rvs.append (.cons p1 .nil))) (by simp;omega) qB
  ·
   have e:i=xs.length:=by omega
   subst e;refine Mv (T.done B rfl rfl rfl hc xs.length [] s6 σ6 H6 (λ_ _=>False) I6 (stat fr6) st6 stop) λr s7 ⟨hr,I7⟩=>?_;subst hr;rw[List.drop_length]at w6;obtain⟨m,hm,_⟩:=id I7.loc;have I8:Mt X pins σ H6 s7:=I3.call' (ch:=fp) I7.os I7.base I7.hok I7.bare λb hb=>⟨(f2 b hb).2.2.2.1,(f2 b hb).2.1,(f2 b hb).2.2.2.2.1,(f2 b hb).2.2.2.2.2⟩;have f4:=I3.fpOk (H':=H6) (b:=s3.heap.objs.size) (Nat.le_refl _) I7.free
   ·
    have hlen6:σ6.length=ρ6.length:=(aA.drop (τ:=some (V.ref D)::σ) (lam:=L.own D acc::bu fi ρ2) E6 hτ).len
    have a1:aA X.K Pr H6 (b9 fi σ++(σ++[some (V.ref D)])) (ρ6.drop Nt.length++(bu fi ρ2++[L.own D acc])):=by
     have hcd:(b9 fi σ).length=(ρ6.drop Nt.length).length:=by rw[← dr6,List.length_drop,List.length_drop,hlen6]
     refine E6.rearr (by simp[hcd,hul,hlen6]) ((σ6.take Nt.length).zip (ρ6.take Nt.length)) ?_;have l0:σ6.zip ρ6=(σ6.take Nt.length).zip (ρ6.take Nt.length)++(b9 fi σ).zip (ρ6.drop Nt.length):=by rw[← dr6,← List.zip_append (by simp[hlen6]),List.take_append_drop,List.take_append_drop]
     have l1:(some (V.ref D)::(σ++σ6)).zip (L.own D acc::(bu fi ρ2++ρ6))=(some (V.ref D),L.own D acc)::(σ.zip (bu fi ρ2)++σ6.zip ρ6):=by rw[List.zip_cons_cons,List.zip_append hul]
     have l2:(b9 fi σ++(σ++[some (V.ref D)])).zip (ρ6.drop Nt.length++(bu fi ρ2++[L.own D acc]))=(b9 fi σ).zip (ρ6.drop Nt.length)++(σ.zip (bu fi ρ2)++[(some (V.ref D),L.own D acc)]):=by rw[List.zip_append hcd,List.zip_append hul];rfl
     rw[l1,l2,l0];generalize (b9 fi σ).zip (ρ6.drop Nt.length)=z1;generalize σ.zip (bu fi ρ2)=z2;generalize (σ6.take Nt.length).zip (ρ6.take Nt.length)=z3;have p1:((some (V.ref D),L.own D acc)::(z2++(z3++z1))).Perm ((z2++[(some (V.ref D),L.own D acc)])++(z3++z1)):=by rw[List.append_assoc];exact List.perm_middle.symm
     refine p1.trans ?_;have p2:((z2++[(some (V.ref D),L.own D acc)])++(z3++z1)).Perm ((z3++z1)++(z2++[(some (V.ref D),L.own D acc)])):=List.perm_append_comm;refine p2.trans ?_;rw[List.append_assoc];exact List.perm_append_comm
    have a2:=aA.backs (σ:=σ++[some (V.ref D)]) (cs:=ρ6.drop Nt.length) (ρ:=bu fi ρ2++[L.own D acc]) fi hnd (by rw[List.length_drop,← hlen6,← List.length_drop,dr6];simp[b9]) (λj hj=>by
     rw[List.getElem?_append_left (by rw[eO];exact hjρ j hj)];exact xb fi ρ2 j hj (hjρ j hj)) (λj hj=>by have:=hjσ j hj;simp;omega) (by rw[tJ hjσ];exact a1)
    rw[qg λj hj=>by rw[eO];exact hjρ j hj]at a2;have hpl:σ.length=(fZ fi (ρ6.drop Nt.length) (bu fi ρ2)).length:=by have:=a2.len;simpa using this
    refine hRR D s3.heap.objs.size s7 H6 acc (fZ fi (ρ6.drop Nt.length) (bu fi ρ2)) m I8 hm f4.1 f4.2.1 I3.sz f4.2.2.2.2.1 f4.2.2.2.2.2 (a2.rearr (by simp[hpl]) [] ?_) (w6 D);rw[List.append_nil,List.zip_append hpl,List.zip_cons_cons];exact List.perm_append_comm (l₂:=[(some (V.ref D),L.own D acc)])
 exact codeAny_compStart_list (loop _ rfl) (T.self _ 0 _ _ _ (T.keep 0 _ _ st2 λb hb o e=>old4 b o (old3 b o e)) (loop _ rfl))
theorem iT{elt tg iter:Expr}{ifs:List Expr}{scope sc:Scope}{pos:Pos}{N Nt Nf:List Str}{fi:List Nat}{src:W (List D)}{g:Tg}{ti:W Bool}{te:W L}
  (hsc:X.env.scope=sc) (hXN:X.N=N) (hc:X.calm=true) (hi:Np X tg iter src)
  (hkind:scope.kind=.function) (hnames:∀x∈scope.names,x.2=.local->scope.names.lookup x.1=some .local) (hcell:∀y∈scope.names,y.2≠.cell)
  (hfr:∀x∈scope.names,x.2=.free->sc.names.lookup x.1=some .cell∨sc.names.lookup x.1=some .free)
  (hnd:fi.Nodup) (hNf:Nf.map some=fi.map (λj=>N[j]?)) (hNk:∀x∈Nf,scope.names.lookup x=some .free) (hfl:∀j∈fi,j<N.length)
  (hg:∀cl s₀ H₀ fp,Nx (ll X scope cl (Nt++Nf) s₀ H₀ fp) tg Nt.length g) (hti:∀cl s₀ H₀ fp,Ny (ll X scope cl (Nt++Nf) s₀ H₀ fp) ifs ti) (hte:∀cl s₀ H₀ fp,PL (ll X scope cl (Nt++Nf) s₀ H₀ fp) elt te)
  (hs:∀x,foldedSetIterable iter X.env x=pure x:=by intro _;rfl):PL X (.ListComp elt [⟨tg,iter,ifs,0⟩] scope pos) (oO Nt.length fi src g ti te):=by
 intro pins s σ H Pr ρ post I E h;rw[eval_ListComp];refine Am (use:=none) hsc hXN hc hi hkind hnames hcell hfr hnd hNf hNk hfl hg hti hte I E h (λD C s7 H6 acc ρ'' m I7 hm h1 h2 h3 h4 h5 E7 p=>?_) hs;exact⟨m,hm,λh' hsb=>⟨.ref D,H6,_,ρ'',I7.turned (t':=s7.toks) (λb o hb e=>(hsb.2 b hb).trans e) h1 (Ne.symm (Ne.symm h2)) (.inr h3) h4 h5,rfl,E7,p⟩⟩
end
section
variable{X:Cx}{e a b:Expr}{pos:Pos}{ta tb te:W L}{x y:Str}
def JI(i j:Nat)(ta tb:W L):W Fl:=λρ post=>ta ρ λr ρ1=>Na r λv=>tb ρ1 λr2 ρ2=>Na r2 λw=>post .nx ((ρ2.set i (.d v)).set j (.d w))
theorem D6{i j:Nat}{px py pt:Pos} {kt k2 pt2} (hc:X.calm=true) (hN:X.N.Nodup) (hi:X.N[i]?=some x) (hj:X.N[j]?=some y) (hij:i≠j)
  (hx:X.env.scope.names.lookup x=some .local) (hy:X.env.scope.names.lookup y=some .local) (ha:PL X a ta) (hb:PL X b tb)
  (hw:swappedStores [.Tuple [.Name x px,.Name y py] kt pt] (.Tuple [a,b] k2 pt2) X.env=pure (some [x,y]))
  (hs:swapsWithSole [.Tuple [.Name x px,.Name y py] kt pt] (.Tuple [a,b] k2 pt2) pos.line X.env=pure false:=by rfl)
  (h1:starEach [a,b] X.env=(false,eval a X.env)::starEach [b] X.env:=by rfl) (h2:starEach [b] X.env=[(false,eval b X.env)]:=by rfl) :
  PM X (.Assign [.Tuple [.Name x px,.Name y py] kt pt] (.Tuple [a,b] k2 pt2) pos) (JI i j ta tb):=by
 refine PM.of (Ho hc hN hi hj hij hx hy (bV (av ha).pe (bV (av hb).pe ic h2) h1) hw hs) λσ H Pr ρ post hlen E h=>?_
 refine⟨Pr,ρ,λr ρ1=>match r with
  |.d v=>tb ρ1 λr2 ρ2=>Na r2 λw=>post .nx ((ρ2.set i (.d v)).set j (.d w))
  |_=>False,E,h,λv H1 r ρ1 E1 pp=>?_⟩
 cases r with
 | d dv =>
  refine⟨bz H1 ρ1,ρ1,λr ρ2=>match r with
   |.d w=>post .nx ((ρ2.set i (.d dv)).set j (.d w))
   |_=>False,E1.tail.wide,pp,λw H2 r2 ρ2 E2 pp=>?_⟩
  cases r2 with
  | d dw =>
   have E3:aA X.K Pr H2 (some w::some v::σ) (.d dw::.d dv::ρ2):=aA.step (τ:=[some v]) (lam:=[.d dv]) (w:=[some w]) (μ:=[.d dw]) E1 rfl E2 rfl;have il:i<σ.length:=by rw[hlen];exact(List.getElem?_eq_some_iff.mp hi).1
   have jl:j<σ.length:=by rw[hlen];exact(List.getElem?_eq_some_iff.mp hj).1
   obtain⟨_,e1,r1⟩:=E3.head_d;cases e1;have E4:aA X.K Pr H2 (σ.set i (some v)) (ρ2.set i (.d dv)):=E3.tail.store il;exact⟨v,w,rfl,_,(E4.cons_d r1).store (by simpa using jl),pp⟩
  |_=>exact pp.elim
 |_=>exact pp.elim
def vA(is:List Nat)(te:W L):W Fl:=λρ post=>te ρ λr ρ1=>Na r λv=>iP is v ρ1 λρ2=>post .nx ρ2
theorem oP{tg:Expr}{is:List Nat}(hg:Nm X tg (iP is))(he:PL X e te)(hs:swapsWithSole [tg] e pos.line X.env=pure false:=by rfl)(hw:swappedStores [tg] e X.env=pure none:=by rfl)
  (h1:(assignEach [tg] X.env).map (·.2)=[assign tg X.env]:=by rfl):PM X (.Assign [tg] e pos) (vA is te):=by
 intro pins s σ H Pr ρ post I E h;obtain⟨gg,hg,hgg⟩:=hg;refine wpAny_Assign_stores (Mv (he pins s σ H Pr ρ _ I E h) λv s1 q=>?_) hs hw;obtain⟨w,H1,d,ρ1,I1,r1,E1,q1⟩:=EL.frz (post:=λd ρ1=>iP is d ρ1 λρ2=>post .nx ρ2) q;rw[h1];obtain⟨_,e1,p1⟩:=E1.head_d;cases e1;exact Mv (hg pins s1 σ H1 w v _ I1 r1 (hgg w σ H1 Pr ρ1 d _ I1.len E1.tail p1 q1)) λ_ s2 ⟨σ',H',I',e',_,ρ',E',q⟩=>by subst e';exact⟨σ',_,ρ',I',E',q⟩
noncomputable def nK:D->Bool
 |.non=>true | .bl _=>true | .int _=>true | .str _=>true
 |_=>false
noncomputable def NA:D->D->Bool
 |.non,.non=>true
 |.bl a,.bl b=>a == b
 |.bl a,.int b=>(if a then 1 else 0) == b
 |.int a,.bl b=>a == (if b then 1 else 0)
 |.int a,.int b=>a == b
 |.str a,.str b=>a == b
 |_,_=>false
theorem lp{K:PySem.W.Frag}{H:Hp}{v:V}{d:D}(r:M7 K H v d)(h:nK d=true):pN v=true:=by cases r<;>first|rfl|(exact absurd h (by simp[nK]))
theorem Ie{K:PySem.W.Frag}{H:Hp}{v w:V}{d f:D}(r:M7 K H v d)(q:M7 K H w f)(h:nK d=true)(h':nK f=true):MW v w=NA d f:=by cases r<;>cases q<;>first|rfl|(exact absurd h (by simp[nK]))|(exact absurd h' (by simp[nK]))
noncomputable def M4(x:D)(ys:List D):Bool:=ys.any λy=>NA y x
theorem tM{K:PySem.W.Frag}{H:Hp}{v:V}{x:D}(r:M7 K H v x)(h:nK x=true):∀{vs:List V}{ys:List D},b7 K H vs ys->ys.all nK=true->MY v vs=M4 x ys/\vs.all pN=true
 |_,_,.nil,_=>⟨rfl,rfl⟩
 | _,_,.cons r0 t,ha=>by rw[List.all_cons,Bool.and_eq_true]at ha;obtain⟨i1,i2⟩:=tM r h t ha.2;unfold MY M4 at i1 ⊢;rw[List.any_cons,List.any_cons,List.all_cons,i1,Ie r0 r ha.1 h,lp r0 ha.1,i2];exact⟨rfl,rfl⟩
def tN(neg:Bool):Nc:=λx y k=>nK x=true/\iQ y λys=>ys.all nK=true/\k (.d (.bl (if neg then !M4 x ys else M4 x ys)))
theorem FH:Nd X (compareOp .In) (tN false):=Nd.of zQ λσ H Pr ρ x y dx dy post E px py ⟨hx,h⟩=>by
 cases py with
 | lst hz rs =>
  obtain⟨ha,h⟩:=h;obtain⟨i1,i2⟩:=tM px hx rs ha;exact⟨_,_,rfl,.inl hz.l,lp px hx,i2,_,E.cons_d (.bl _),by rw[i1];exact h⟩
 | tup hz rs =>
  obtain⟨ha,h⟩:=h;obtain⟨i1,i2⟩:=tM px hx rs ha;exact⟨_,_,rfl,.inr hz,lp px hx,i2,_,E.cons_d (.bl _),by rw[i1];exact h⟩
 |_=>exact h.elim
theorem xf:Nd X (compareOp .NotIn) (tN true):=Nd.of sW λσ H Pr ρ x y dx dy post E px py ⟨hx,h⟩=>by
 cases py with
 | lst hz rs =>
  obtain⟨ha,h⟩:=h;obtain⟨i1,i2⟩:=tM px hx rs ha;exact⟨_,_,rfl,.inl hz.l,lp px hx,i2,_,E.cons_d (.bl _),by rw[i1];exact h⟩
 | tup hz rs =>
  obtain⟨ha,h⟩:=h;obtain⟨i1,i2⟩:=tM px hx rs ha;exact⟨_,_,rfl,.inr hz,lp px hx,i2,_,E.cons_d (.bl _),by rw[i1];exact h⟩
 |_=>exact h.elim
def NB(X:Cx)(lo:Option Expr)(t:Option (W L)):Prop:=match lo,t with
 |none,none=>True
 |some e,some t=>PL X e t
 |_,_=>False
theorem tO{K:PySem.W.Frag}{H:Hp}{vs:List V}{xs:List D}(r:b7 K H vs xs)(l u:Option Int):b7 K H (D1 vs l u) (vf xs l u):=by unfold D1 vf;rw[r.length];exact(r.drop _).take _
noncomputable def NC(K:PySem.W.Frag)(t:Option (W L)):TO:=λσ H Q=>∃Pr ρ post,aA K Pr H σ ρ/\yI t ρ post/\∀i H' ρ',aA K Pr H' σ ρ'->post i ρ'->Q i H'
theorem Ig{lo:Option Expr}{t:Option (W L)}(h:NB X lo t):PO X lo (NC X.K t):=by
 cases lo with
 | none =>
  cases t with
  | none =>
   intro pins s σ H Q I ⟨Pr,ρ,post,E,hw,q⟩;exact Fb pins s σ H Q I (q none H ρ E hw)
  |some t=>exact h.elim
 | some e =>
  cases t with
  |none=>exact h.elim
  | some t =>
   intro pins s σ H Q I ⟨Pr,ρ,post,E,hw,q⟩;refine Fc (PL.pe (show PL X e t from h)) pins s σ H Q I ⟨Pr,ρ,_,E,hw,λv H' r ρ' E' pp=>?_⟩;obtain⟨i,rfl,pp⟩:=eA pp;obtain⟨_,e1,p1⟩:=E'.head_d;cases e1;cases p1;exact⟨i,rfl,q (some i) H' ρ' E'.tail pp⟩
end
def Ih{α:Type}(o:Option L)(t u:W α)(ρ:Ev)(post:α->Ev->Prop):Prop:=match o with
 |some (.own _ _)=>t ρ post
 |_=>u ρ post
noncomputable def eQ{α:Type}(i:Nat)(t u:W α):W α:=λρ post=>Ih ρ[i]? t u ρ post
theorem CD{α:Type}(a:Addr)(xs:List D)(t u:W α)(ρ:Ev)(post:α->Ev->Prop):Ih (some (.own a xs)) t u ρ post=t ρ post:=(rfl)
theorem Ii{α:Type}(x:D)(t u:W α)(ρ:Ev)(post:α->Ev->Prop):Ih (some (.d x)) t u ρ post=u ρ post:=(rfl)
theorem FI{α:Type}(a:Option Addr)(ls:List L)(t u:W α)(ρ:Ev)(post:α->Ev->Prop):Ih (some (.bx a ls)) t u ρ post=u ρ post:=(rfl)
theorem ij{X:Cx}{e:Expr}{i:Nat}{t u:W L}(h:PL X e t)(h':PL X e u):PL X e (eQ i t u):=λpins s σ H Pr ρ post I E q=>by
 unfold eQ Ih at q;split at q
 · exact h pins s σ H Pr ρ post I E q
 · exact h' pins s σ H Pr ρ post I E q
theorem FJ{K:PySem.W.Frag}{c:Str}{C:Addr}{T:String}(h:iM K c C=true)(hm:PySem.W.kitMeta T=true):PySem.W.kitOne K (.ref C) (.type T)=some ((["ValueError","Exception","BaseException","object"]:List String).contains T):=by obtain⟨L,cd,S⟩:=dO h;unfold PySem.W.kitOne PySem.W.kitCls;rw[if_neg (show ¬((Value.ref C == Value.type T)=true)from λz=>by cases z)];dsimp only;rw[if_pos hm];show PySem.W.mroIn K C (.type T)=_;rw[S.mroIn,oB]
theorem tP{T:String}(h0:∀K d,(∀c ns xs,d≠.exc c ns xs)->PySem.W.kitOne K (Nv d) (.type T)=some (jS T d))(hm:PySem.W.kitMeta T=true):∀K d t,Nw K d t->PySem.W.kitOne K t (.type T)=some (jS T d):=by
 intro K d t h
 cases d with
 | exc c ns xs =>
  obtain⟨C,e,h⟩:=h;rw[e];exact FJ h hm
 |_=>cases h;exact h0 K _ (λ_ _ _ z=>nomatch z)
theorem vB:∀ K d t,Nw K d t->PySem.W.kitOne K t (.type "int")=some (jS "int" d):=tP (λK d hd=>by cases d <;> first | rfl | exact absurd rfl (hd _ _ _)) (by decide +kernel)
theorem nW:∀ K d t,Nw K d t->PySem.W.kitOne K t (.type "bool")=some (jS "bool" d):=tP (λK d hd=>by cases d <;> first | rfl | exact absurd rfl (hd _ _ _)) (by decide +kernel)
theorem An:∀ K d t,Nw K d t->PySem.W.kitOne K t (.type "str")=some (jS "str" d):=tP (λK d hd=>by cases d <;> first | rfl | exact absurd rfl (hd _ _ _)) (by decide +kernel)
theorem qV:∀ K d t,Nw K d t->PySem.W.kitOne K t (.type "list")=some (jS "list" d):=tP (λK d hd=>by cases d <;> first | rfl | exact absurd rfl (hd _ _ _)) (by decide +kernel)
theorem iU:∀ K d t,Nw K d t->PySem.W.kitOne K t (.type "tuple")=some (jS "tuple" d):=tP (λK d hd=>by cases d <;> first | rfl | exact absurd rfl (hd _ _ _)) (by decide +kernel)
def yL(K:PySem.W.Frag)(mg:Str->Option Value)(x:Str)(d:D):Prop:=∃v u,mg x=some u/\cq v u/\∀H,M7 K H v d
theorem vC{X:Cx}{x:Str}{d:D}{pos:Pos}(g:yL X.K X.mg x d)(hg:Gl X x) (hdb:(x == ("__debug__" : Str))=false:=by decide):PL X (.Name x pos) (wC d):=by obtain⟨v,u,h1,h2,h3⟩:=g;exact Fo hg h1 h2 h3 hdb
def J9(o:Obj)(d:D):Prop:=∃ its n vs ds,d=.tup ds/\o.cls=.type "tuple"/\o.data=.seq its n/\its.size≤sizeLine/\cB vs its.toList/\∀ K H,b7 K H vs ds
theorem CF{K:PySem.W.Frag}{mg:Str->Option Value}{x:Str}{d:D}{l:Addr}{o:Obj}(h1:mg x=some (.ref l))(h2:K.lookup l=some o)(h3:J9 o d):yL K mg x d:=by obtain⟨its,n,vs,ds,rfl,hc,hd,hz,hv,hr⟩:=h3;exact⟨.ref l,_,h1,rfl,λH=>.tup (.inr ⟨o,its,n,h2,hc,hd,hz,hv⟩) (hr K H)⟩
theorem xg{K:PySem.W.Frag}{mg:Str->Option Value}{x:Str}{s:Str}{t:Tok}(h1:mg x=some (.str s t)):yL K mg x (.str s):=⟨.str s,_,h1,⟨t,rfl⟩,λH=>.str s⟩
theorem tQ{K:PySem.W.Frag}{H:Hp}:∀ns:List Int,b7 K H (ns.map V.int) (ns.map D.int)
 |[]=>.nil
 |n::ns=>.cons (.int n) (tQ ns)
theorem Ao{K:PySem.W.Frag}{H:Hp}{a:Addr}{ns:List Int}{fs:FS}{n:Nat}(hl:ns.length≤n)(hO:JF H)(hS:Mz K H a (ns.map V.int))(h:fs [.d (.lst (ns.map .int))] (λr _=>r=.d (.bl true))):spF K 1 fs [.ref a] H (λv _=>v=.bl true) λ_ _ _=>False:=by
 have hz:M6 K H a (ns.map V.int):=by
  rcases hS with(h|⟨o,h⟩)|h
  ·
   rcases hO a with z|⟨o,xs,z⟩|⟨q,z⟩
   · rw[z]at h;cases h
   · rw[z]at h;cases h
   · rw[z]at h;cases h
  · exact .inl ⟨o,h⟩
  · exact .inr h
 refine⟨rfl,λ_=>none,[.d (.lst (ns.map .int))],_,⟨(λb o e=>nomatch e),(show([]:List Addr).Nodup from List.nodup_nil),(λa h=>absurd (show a∈([]:List Addr)from h) (by simp)),.cons ⟨.ref a,rfl,.lst hz (tQ ns)⟩ .nil⟩,h,λv H' r ls' E p=>?_⟩;subst p;obtain⟨_,e,r⟩:=E.head_d;cases e;cases r;rfl
section
variable{X:Cx}
def Ka:Nc:=λx y k=>match y with
 |.non=>k (.d (.bl (match x with | .non=>true|_=>false)))
 |_=>False
def xh:Nc:=λx y k=>match y with
 |.non=>k (.d (.bl (match x with | .non=>false|_=>true)))
 |_=>False
theorem CG:Nd X (compareOp .IsNot) xh:=FC.imp λx y k h=>by
 unfold xh at h;split at h
 · exact⟨rfl,h⟩
 · exact h.elim
end
end L2
namespace L2
open PySem
theorem xi(a b:Int):Int.gcd b (a.fmod b)=Int.gcd a b:=by rw[Int.fmod_def,Int.gcd_sub_mul_left_right,Int.gcd_comm]
theorem jT(a:Int){b:Int}(h:b≠0):(a.fmod b).natAbs<b.natAbs:=by
 rw[Int.fmod_eq_emod];have h1:=Int.emod_nonneg a h;have h2:a % b<(b.natAbs:Int):=Int.emod_lt a h;split
 · omega
 · rename_i q;have:a % b≠0:=λe=>q (.inr (Int.dvd_of_emod_eq_zero e));omega
noncomputable def ND(q:Rat):D:=.tup [.int q.num,.int (q.den:Int)]
theorem vD{t b:Int}(h:b≠0):0<Int.gcd t b:=Int.gcd_pos_of_ne_zero_right _ h
noncomputable def cD(t b:Int):Int:=if b<0 then -(Int.gcd t b:Int)else(Int.gcd t b:Int)
theorem xj{t b:Int}(h:b≠0):cD t b≠0:=by have:=vD (t:=t) h;unfold cD;split<;>omega
theorem Ap(t b:Int):(cD t b).natAbs=Int.gcd t b:=by unfold cD;split<;>omega
theorem xk{t b:Int}(h:b≠0):(cD t b).natAbs≤b.natAbs:=by rw[Ap];exact Nat.le_of_dvd (by omega) (by have:=Int.gcd_dvd_right t b;exact Int.natAbs_dvd_natAbs.mpr this |> λq=>by simpa using q)
theorem oQ{a g:Int}(hg:g≠0)(h:g∣a):a.fdiv (-g)=-(a / g):=by obtain⟨k,rfl⟩:=h;rw[Int.mul_ediv_cancel_left _ hg,show g*k=(-g)*(-k) by rw[Int.neg_mul_neg],Int.mul_fdiv_cancel_left _ (by omega)]
theorem Aq{t b:Int}(h:b≠0):t.fdiv (cD t b)=(Rat.divInt t b).num:=by
 have hg:=vD (t:=t) h;have hd:(Int.gcd t b:Int)∣t:=Int.gcd_dvd_left t b;rw[Rat.num_divInt,Int.gcd_comm b t];unfold cD;split
 · rename_i hb;rw[oQ (by omega) hd,Int.sign_eq_neg_one_of_neg hb,Int.neg_one_mul,Int.neg_ediv_of_dvd hd]
 · rename_i hb;rw[Int.sign_eq_one_of_pos (by omega),Int.one_mul,Int.fdiv_eq_ediv_of_nonneg _ (by omega)]
theorem FK{t b:Int}(h:b≠0):b.fdiv (cD t b)=((Rat.divInt t b).den:Int):=by
 have hg:=vD (t:=t) h;have hd:(Int.gcd t b:Int)∣b:=Int.gcd_dvd_right t b;rw[Rat.den_divInt,if_neg h,Int.gcd_comm b t,Int.natCast_ediv];unfold cD;split
 ·
  rename_i hb;rw[oQ (by omega) hd,← Int.neg_ediv_of_dvd hd]
  congr 1
  omega
 ·
  rename_i hb;rw[Int.fdiv_eq_ediv_of_nonneg _ (by omega)]
  congr 1
  omega
theorem D7{t b:Int}(h:b≠0):(Rat.divInt t b).den≤b.natAbs:=by rw[Rat.den_divInt,if_neg h];exact Nat.div_le_self _ _
theorem D8{t b:Int}(h:b≠0):(Rat.divInt t b).num.natAbs≤t.natAbs:=by rw[← Aq h];exact PySem.natAbs_fdiv_le _ _
theorem den_pos(q:Rat):0<q.den:=Nat.pos_of_ne_zero q.den_nz
theorem xl(p q:Rat):Rat.divInt (p.num*(q.den:Int)+q.num*(p.den:Int)) ((p.den:Int)*(q.den:Int))=p+q:=by have hp:=den_pos p;have hq:=den_pos q;have:=Rat.divInt_add_divInt p.num q.num (d₁:=(p.den:Int)) (d₂:=(q.den:Int)) (by omega) (by omega);rw[Rat.num_divInt_den,Rat.num_divInt_den]at this;exact this.symm
theorem D9(p q:Rat):Rat.divInt (p.num*(q.den:Int)-q.num*(p.den:Int)) ((p.den:Int)*(q.den:Int))=p-q:=by have:=xl p (-q);rw[Rat.sub_eq_add_neg,← this];simp only[Rat.neg_num,Rat.neg_den,Int.neg_mul,Int.sub_eq_add_neg]
def RB(n:Nat)(q:Rat):Prop:=q.num.natAbs<2^n/\q.den<2^n
theorem RB.mono{m n:Nat}{q:Rat}(h:RB m q)(hl:m≤n):RB n q:=⟨Nat.lt_of_lt_of_le h.1 (Nat.pow_le_pow_right (by decide) hl),Nat.lt_of_lt_of_le h.2 (Nat.pow_le_pow_right (by decide) hl)⟩
theorem RB.neg{n:Nat}{q:Rat}(h:RB n q):RB n (-q):=⟨by rw[Rat.neg_num,Int.natAbs_neg];exact h.1,by rw[Rat.neg_den];exact h.2⟩
theorem RB.bn{n:Nat}{q:Rat}(h:RB n q)(hl:n≤1000000):cJ q.num:=Nat.lt_of_lt_of_le h.1 (Nat.pow_le_pow_right (by decide) hl)
theorem RB.bd{n:Nat}{q:Rat}(h:RB n q)(hl:n≤1000000):cJ (q.den:Int):=by unfold cJ;rw[Int.natAbs_natCast];exact Nat.lt_of_lt_of_le h.2 (Nat.pow_le_pow_right (by decide) hl)
theorem bO{a b m n:Nat}(h1:a<2^m)(h2:b<2^n):a*b<2^(m+n):=by rw[Nat.pow_add];exact Nat.mul_lt_mul'' h1 h2
theorem RB.add{m n:Nat}{p q:Rat}(hp:RB m p)(hq:RB n q):RB (m+n+1) (p+q):=by
 have dp:=den_pos p;have dq:=den_pos q;have hne:((p.den:Int)*(q.den:Int))≠0:=Int.mul_ne_zero (by omega) (by omega);rw[← xl p q];have a1:=bO hp.1 hq.2;have a2:=bO hq.1 hp.2;have a3:=bO hp.2 hq.2;have e:(2:Nat)^(m+n+1)=2^(m+n)+2^(m+n):=by rw[Nat.pow_succ];omega
 rw[Nat.add_comm n m]at a2;constructor
 · refine Nat.lt_of_le_of_lt (D8 hne) ?_;refine Nat.lt_of_le_of_lt (Int.natAbs_add_le _ _) ?_;rw[Int.natAbs_mul,Int.natAbs_mul,Int.natAbs_natCast,Int.natAbs_natCast,e];omega
 · refine Nat.lt_of_le_of_lt (D7 hne) ?_;rw[Int.natAbs_mul,Int.natAbs_natCast,Int.natAbs_natCast,e];omega
@[simp] theorem iV(i j:Int):Nr (.int i) (.int j)=decide (i=j):=by simp[Nr,Nq,PyData.eqv];by_cases h:i=j<;>simp[h]
@[simp] theorem FL(i j:Str):Nr (.str i) (.str j)=decide (i=j):=by simp[Nr,Nq,PyData.eqv];by_cases h:i=j<;>simp[h]
@[simp] theorem Ij(i j:Bool):Nr (.bl i) (.bl j)=decide (i=j):=by simp[Nr,Nq,PyData.eqv];cases i<;>cases j<;>rfl
@[simp] theorem yM(i:Int):ej (.int i):=rfl
@[simp] theorem Ar(i:Bool):ej (.bl i):=rfl
@[simp] theorem yN:ej .non:=rfl
mutual
noncomputable def NF:Nat->D->Bool
 |_,.non=>true
 |_,.bl _=>true
 |_,.int _=>true
 |_,.str x=>PyData.strOk x
 |0,.tup _=>false
 |0,.lst _=>false
 |n+1,.tup xs=>qW n xs
 |n+1,.lst xs=>qW n xs
 |_,.dct _=>false
 |_,.exc _ _ _=>false
 |_,.fn _ _=>false
noncomputable def qW:Nat->List D->Bool
 |_,[]=>true
 |n,x::xs=>NF n x && qW n xs
end
mutual
theorem mz:∀(n:Nat)(d:D),NF n d=true->(Nq d).canLay0=true/\(Nq d).depth≤n
 |_,.non,_=>⟨rfl,Nat.zero_le _⟩
 |_,.bl _,_=>⟨rfl,Nat.zero_le _⟩
 |_,.int _,_=>⟨rfl,Nat.zero_le _⟩
 |_,.str x,h=>⟨by simpa[NF,Nq,PyData.canLay0]using h,Nat.zero_le _⟩
 |0,.tup _,h=>by simp[NF]at h
 |0,.lst _,h=>by simp[NF]at h
 | n+1,.tup xs,h=>by
  obtain⟨h1,h2⟩:=qX n xs (by simpa[NF]using h)
  exact⟨h1,Nat.succ_le_succ h2⟩
 | n+1,.lst xs,h=>by
  obtain⟨h1,h2⟩:=qX n xs (by simpa[NF]using h)
  exact⟨h1,Nat.succ_le_succ h2⟩
 |_,.dct _,h=>by simp[NF]at h
 |_,.exc _ _ _,h=>by simp[NF]at h
 |_,.fn _ _,h=>by simp[NF]at h
theorem qX:∀(n:Nat)(ds:List D),qW n ds=true->PyData.canLayAll0 (de ds)=true/\PyData.depthAll (de ds)≤n
 |_,[],_=>⟨rfl,Nat.zero_le _⟩
 | n,d::ds,h=>by
  have h':NF n d=true/\qW n ds=true:=by simpa[qW]using h
  obtain⟨a1,a2⟩:=mz n d h'.1
  obtain⟨b1,b2⟩:=qX n ds h'.2
  exact⟨by simp[de,PyData.canLayAll0,a1,b1],by simp only[de,PyData.depthAll];omega⟩
end
theorem cU{n:Nat}{d:D}(h:NF n d=true)(hn:n≤64):ej d:=by obtain⟨h1,h2⟩:=mz n d h;unfold ej SeqAt.shaped;rw[h1,decide_eq_true (by omega)];rfl
theorem vE(xs ys:List D):Nr (.tup xs) (.tup ys)=PyData.eqvAll (de xs) (de ys):=by simp[Nr,Nq,PyData.eqv]
theorem As(xs ys:List D):Nr (.lst xs) (.lst ys)=PyData.eqvAll (de xs) (de ys):=by simp[Nr,Nq,PyData.eqv]
theorem dS(x y:D)(xs ys:List D):PyData.eqvAll (de (x::xs)) (de (y::ys))=(Nr x y && PyData.eqvAll (de xs) (de ys)):=by simp[de,PyData.eqvAll,Nr]
theorem lq:PyData.eqvAll (de []) (de [])=true:=by simp[de,PyData.eqvAll]
theorem CH{n:Nat}{d:D}(h:NF n d=true):Nr d d=true:=SeqAt.eqv_refl _ (mz n d h).1
theorem xm(q:Rat):ej (ND q):=cU (n:=1) (by simp[ND,NF,qW]) (by decide)
theorem Au(p q:Rat):Nr (ND p) (ND q)=decide (p=q):=by
 unfold ND;rw[vE,dS,dS,lq,iV,iV,Bool.and_true];by_cases h:p=q
 · subst h;simp
 ·
  rw[decide_eq_false h];by_cases h1:p.num=q.num
  · have:¬((p.den:Int)=(q.den:Int)):=λe=>h (Rat.ext h1 (by omega));simp[this]
  · simp[h1]
end L2
namespace L2
open PySem PySem.Spec PyProof.Rows
section
variable{X:Cx}{a b c:Expr}{pos p:Pos}{ta tb tc:W L}
def qh(o o':Nc)(ta tb tc:W L):W L:=λρ post=>ta ρ λr ρ1=>nH r λi=>tb ρ1 λr ρ2=>nH r λj=>o (.int i) (.int j) λz=>w7 z λk=>if k=true then tc ρ2 λr ρ3=>nH r λl=>o' (.int j) (.int l) λz=>post z ρ3 else post (.d (.bl false)) ρ2
def G9(X:Cx)(op:CmpOp)(o:Nc):Prop:=∃f:Int->Int->Bool,MH X (compareOp op) (MK λi j=>.bl (f i j))/\∀i j k,o (.int i) (.int j) k->k (.d (.bl (f i j)))
theorem Ik:G9 X .Lt qM:=⟨_,Hw,λ_ _ _ h=>h⟩
theorem Il:G9 X .LtE Fs:=⟨_,Hx,λ_ _ _ h=>h⟩
theorem xn{op op':CmpOp}{o o':Nc}{f f':Int->Int->Bool}(h1:∀i j k,o (.int i) (.int j) k->k (.d (.bl (f i j))))(h2:∀i j k,o' (.int i) (.int j) k->k (.d (.bl (f' i j))))
  (σ:St) (H Pr:Hp) (ρ:Ev) (post:L->Ev->Prop) (Q:VK) (hQ:∀v H' r ρ',aA X.K Pr H' (some v::σ) (r::ρ')->post r ρ'->Q v H') (E:aA X.K Pr H σ ρ) (h:qh o o' ta tb tc ρ post) :
  zE (MK λi j=>.bl (f i j)) (MK λi j=>.bl (f' i j)) (tL X.K ta) (tL X.K tb) (tL X.K tc) σ H Q:=by
 refine⟨Pr,ρ,_,E,h,λv H1 r ρ1 E1 p=>?_⟩;obtain⟨i,rfl,p⟩:=eA p;obtain⟨_,e1,r1⟩:=E1.head_d;cases e1;cases r1;refine⟨Pr,ρ1,_,E1.tail,p,λv H2 r ρ2 E2 p=>?_⟩;obtain⟨j,rfl,p⟩:=eA p;obtain⟨_,e1,r1⟩:=E2.head_d;cases e1;cases r1;refine⟨i,j,rfl,rfl,f i j,rfl,?_⟩;have q:=h1 i j _ p
 cases hk:f i j with
 | false =>
  rw[hk]at q;exact hQ _ _ _ ρ2 (E2.tail.cons_d (.bl false)) q
 | true =>
  rw[hk]at q;refine⟨Pr,ρ2,_,E2.tail,q,λv H3 r ρ3 E3 p=>?_⟩;obtain⟨l,rfl,p⟩:=eA p;obtain⟨_,e1,r1⟩:=E3.head_d;cases e1;cases r1;exact⟨j,l,rfl,rfl,hQ _ _ _ ρ3 (E3.tail.cons_d (.bl _)) (h2 j l _ p)⟩
theorem CI{op op':CmpOp}{o o':Nc}(ho:G9 X op o)(ho':G9 X op' o')(ha:PL X a ta)(hb:PL X b tb)(hc:PL X c tc)(hm:lastMarks [op,op'] [b,c]=false:=by with_unfolding_all rfl) :
  PL X (.Compare a [op,op'] [b,c] pos) (qh o o' ta tb tc):=by
 obtain⟨f,r1,h1⟩:=ho;obtain⟨f',r2,h2⟩:=ho';exact PL.of (Cd r1 r2 ha.pe hb.pe hc.pe hm) λσ H Pr ρ post E h=>xn (op:=op) (op':=op') h1 h2 σ H Pr ρ post _ (λv H' r ρ' E' p=>⟨r,ρ',E',p⟩) E h
theorem CJ{op op':CmpOp}{o o':Nc}(ho:G9 X op o)(ho':G9 X op' o')(ha:PL X a ta)(hb:PL X b tb)(hc:PL X c tc)(hm:lastMarks [op,op'] [b,c]=false:=by with_unfolding_all rfl) :
  PB X (.Compare a [op,op'] [b,c] pos) (aO (qh o o' ta tb tc)):=by
 obtain⟨f,r1,h1⟩:=ho;obtain⟨f',r2,h2⟩:=ho';intro pins s σ H Pr ρ post I E h;refine Mv (Ce r1 r2 ha.pe hb.pe hc.pe hm pins s σ H (λb H'=>∃ρ',aA X.K Pr H' σ ρ'/\post b ρ') I ?_) λb s1 ⟨H1,I1,ρ1,E1,p1⟩=>⟨H1,ρ1,I1,E1,p1⟩;refine xn (op:=op) (op':=op') h1 h2 σ H Pr ρ (λr ρ1=>w7 r λb=>post b ρ1) _ (λv H' r ρ' E' p=>?_) E h;obtain⟨b,rfl,p⟩:=oE p;obtain⟨_,e1,r1⟩:=E'.head_d;cases e1;cases r1;exact⟨b,rfl,ρ',E'.tail,p⟩
end
end L2
namespace L2
open PySem PySem.Spec PyProof.Rows PySem.Builtin.Str
section
variable{X:Cx}{a:Expr}{pos p2:Pos}{ta:W L}{x:Str}
theorem Im:MQ X (λx lo hi H Q=>∃z,x=.str z/\z.length≤sizeLine/\Q (.str (Txt.slice z lo hi)) H):=by
 intro pins s σ H x v vl vu lo hi sl Q I rx hs pl pu h;obtain⟨z,rfl,hz,q⟩:=h;obtain⟨t,rfl⟩:=rx;refine⟨"str",_,F.slot_str_getitem.lookup,typeIs_str _ _ _,?_⟩
 obtain⟨l',rfl,rfl⟩:∃l':Option (Int×Tok),vl=partValue l'/\lo=l'.map (·.1):=by
  cases pl
  · exact⟨none,rfl,rfl⟩
  · exact⟨some (_,_),rfl,rfl⟩
 obtain⟨u',rfl,rfl⟩:∃l':Option (Int×Tok),vu=partValue l'/\hi=l'.map (·.1):=by
  cases pu
  · exact⟨none,rfl,rfl⟩
  · exact⟨some (_,_),rfl,rfl⟩
 exact wpAny_getItem_str_slice (l:=l') (u:=u') (st:=none) hs rfl (post_val_or_str ⟨Nat.le_trans (Txt.slice_le z _ _) hz,λt' k=>⟨.str _,H,I.tok k,⟨t',rfl⟩,q⟩⟩)
def xq(ta:W L)(lo hi:Option (W L)):W L:=λρ post=>ta ρ λr ρ1=>Na r λd=>yI lo ρ1 λl ρ2=>yI hi ρ2 λu ρ3=>match d with
 |.lst xs=>∀a,post (.own a (vf xs l u)) ρ3
 |.str z=>z.length≤sizeLine/\post (.d (.str (Txt.slice z l u))) ρ3
 |.tup xs=>¬(HT.sIx xs.length 0 l=0/\HT.sIx xs.length xs.length u=xs.length)/\post (.d (.tup (vf xs l u))) ρ3
 |_=>False
theorem cb{lo hi:Option Expr}{tl th:Option (W L)}(ha:PL X a ta)(hl:NB X lo tl)(hh:NB X hi th):PL X (.Subscript a (.Slice lo hi none p2) pos) (xq ta tl th):=by
 refine PL.of (Cj (MQ.or Fd (MQ.or Im HG)) (av ha).pe (Ig hl) (Ig hh)) λσ H Pr ρ post E h=>?_
 refine⟨Pr,ρ,λr ρ1=>match r with
  | .d d=>yI tl ρ1 λl ρ2=>yI th ρ2 λu ρ3=>match d with
   |.lst xs=>∀a,post (.own a (vf xs l u)) ρ3
   |.str z=>z.length≤sizeLine/\post (.d (.str (Txt.slice z l u))) ρ3
   |.tup xs=>¬(HT.sIx xs.length 0 l=0/\HT.sIx xs.length xs.length u=xs.length)/\post (.d (.tup (vf xs l u))) ρ3
   |_=>False
  |_=>False,E,h,λv H1 r ρ1 E1 pp=>?_⟩
 cases r with
 | d d =>
  obtain⟨_,e1,p1⟩:=E1.head_d;cases e1;refine⟨bz H1 ρ1,ρ1,_,E1.tail.wide,pp,λl H2 ρ2 E2 pp=>?_⟩;have F2:aA X.K Pr H2 (some v::σ) (.d d::ρ2):=aA.step (τ:=[some v]) (lam:=[.d d]) (w:=[]) (μ:=[]) E1 rfl E2 rfl;refine⟨bz H2 ρ2,ρ2,_,F2.tail.wide,pp,λu H3 ρ3 E3 pp=>?_⟩;have F3:aA X.K Pr H3 (some v::σ) (.d d::ρ3):=aA.step (τ:=[some v]) (lam:=[.d d]) (w:=[]) (μ:=[]) F2 rfl E3 rfl;obtain⟨_,e1,p1⟩:=F3.head_d;cases e1
  cases p1 with
  |lst hz rs=>exact .inl ⟨_,_,rfl,hz.l,λq hq=>⟨_,_,F3.tail.cons_own hq (tO rs l u),pp q⟩⟩
  |str z=>exact .inr (.inl ⟨z,rfl,pp.1,_,_,F3.tail.cons_d (.str _),pp.2⟩)
  |tup hz rs=>exact .inr (.inr ⟨_,_,rfl,hz,by rw[rs.length];exact pp.1,λq hq=>⟨_,_,F3.tail.cons_tup hq (tO rs l u),pp.2⟩⟩)
  |_=>exact pp.elim
 |_=>exact pp.elim
def Kb(K:PySem.W.Frag):V->List V->Hp->VK->Prop:=λx vs H Q=>∃z a ys zs,x=.str z/\vs=[.ref a]/\(Mz K H a ys∨MA K H a ys)/\ys=zs.map V.str/\(zs.map (·.length)).sum+zs.length*z.length≤16777216/\Q (.str (Txt.join z zs)) H
theorem oR:∀{zs:List Str}{us:List Value},cB (zs.map V.str) us->StrsAre us zs
 |[],_,.nil=>.nil
 | z::zs,_,.cons r t=>by obtain⟨t',rfl⟩:=r;exact .cons z t' (oR t)
theorem FM:MV X "str.join" (Kb X.K):=by
 intro pins s σ H x vs v us Q I rx rv h;obtain⟨z,a,ys,zs,rfl,rfl,hq,rfl,hz,q⟩:=h;obtain⟨t,rfl⟩:=rx;obtain⟨u,rfl,ru⟩:=rv.one;cases ru;rcases hq with hq|hq
 · obtain⟨its,r,pl,_⟩:=I.list hq;exact join_list pl.isList (by simpa using oR r) hz λt' k=>⟨.str _,H,I.tok k,⟨t',rfl⟩,q⟩
 · obtain⟨its,r,pl,_⟩:=I.tuple hq;exact join_tuple pl (by simpa using oR r) hz λt' k=>⟨.str _,H,I.tok k,⟨t',rfl⟩,q⟩
end
section
variable{X:Cx}{e a b c:Expr}{es:List Expr}{pos p apos cpos:Pos}{te:W L}{x y:Str}
def FN(z:Str)(te:W L):W L:=λρ post=>te ρ λr ρ1=>Na r λd=>iQ d λxs=>∃zs,xs=zs.map D.str/\(zs.map (·.length)).sum+zs.length*z.length≤16777216/\post (.d (.str (Txt.join z zs))) ρ1
theorem oS{K:PySem.W.Frag}{H:Hp}:∀{zs:List Str}{vs:List V},b7 K H vs (zs.map D.str)->vs=zs.map V.str
 |[],_,.nil=>rfl
 | z::zs,_,.cons r t=>by cases r;rw[oS t];rfl
theorem FO{z:Str}{j:Nat}{pz:Pos}(he:PL X e te)(hs1:starEach [e] X.env=[(false,eval e X.env)]:=by rfl) (hbase:attributeBase (.Constant (.str z) j pz) "join" X.env (eval (.Constant (.str z) j pz) X.env)=eval (.Constant (.str z) j pz) X.env:=by rfl)
  (hfew:((backTo cpos (starEach [e] X.env)).all (λx=>!x.1) && (backToKw cpos (keywordEach [] X.env)).all (λx=>x.1.isSome)
   && decide (([e]).length+([]:List Keyword).length+(if([]:List Keyword).isEmpty then 0 else 1)<30))=true:=by rfl)
  (hline:(apos.endLine == cpos.line)=true:=by rfl) (hplain:(backTo cpos (starEach ([]:List Expr) X.env)).any (·.1)=false:=by rfl) :
  PL X (.Call (.Attribute (.Constant (.str z) j pz) "join" apos) [e] [] cpos) (FN z te):=by
 refine PL.of (HL PySem.F.plainAttrs_str PySem.F.slot_str_join PySem.F.type_str_join FM zw (bV (av he).pe ic hs1) (hbase:=hbase) (hfew:=hfew) (hline:=hline) (hs:=hs1) (hplain:=hplain)) λσ H Pr ρ post E h=>?_
 refine⟨rfl,Pr,ρ,λr ρ1=>match r with
  |.d d=>iQ d λxs=>∃zs,xs=zs.map D.str/\(zs.map (·.length)).sum+zs.length*z.length≤16777216/\post (.d (.str (Txt.join z zs))) ρ1
  |_=>False,E,h,λv H' r ρ' E' pp=>?_⟩
 cases r with
 | d d =>
  obtain⟨_,e1,p1⟩:=E'.head_d;cases e1
  cases p1 with
  | lst hz rs =>
   obtain⟨zs,rfl,hl,pp⟩:=pp;exact⟨z,_,_,zs,rfl,rfl,.inl hz.l,oS rs,hl,_,_,E'.tail.cons_d (.str _),pp⟩
  | tup hz rs =>
   obtain⟨zs,rfl,hl,pp⟩:=pp;exact⟨z,_,_,zs,rfl,rfl,.inr hz,oS rs,hl,_,_,E'.tail.cons_d (.str _),pp⟩
  |_=>exact pp.elim
 |_=>exact pp.elim
theorem Mt.turnedL{pins:List (Addr×Obj)}{σ:St}{H:Hp}{s:Shared}{h':Heap}{t':Nat}{fp:List Addr}(I:Mt X pins σ H s)(k:∀b o,b∉fp->s.heap.get? b=some o->h'.get? b=some o)(hf:∀b∈fp,B4 X pins H b):Mt X pins σ H {s with heap:=h',toks:=t' }:=by
 have nit:∀b u,H b=some u->b∉fp:=λb u e z=>by rw[(hf b z).1]at e;cases e
 refine I.step (g':=s.gens) (d':=s.drawn) (ch:=fp) (λb hb=>?_) (λb o _ _ hc e _=>k b o hc e) (λb o _ _ hc e _=>⟨o.slots,k b o hc e⟩) (λ_ _ _ _ n=>n)
  (λb o hc e=>⟨o,k b o hc e⟩) (λ_ _ e=>e) (λ_ _ _ e=>e) (λ_ _ e=>e) (λm hm=>?_) (λb u e=>?_) I.bare
 · obtain⟨f0,f1,f2,f3,f4,f5⟩:=hf b hb;exact⟨f3,f1,f4,f5⟩
 · obtain⟨o,es,ep,ho,r⟩:=hm;exact⟨o,es,ep,k _ o (λz=>(hf _ z).2.1 rfl) ho,r⟩
 ·
  refine(I.hok b u e).stay (λc v hc q=>k c v ?_ q) (λ_ q=>q) (λ_ _ q=>q) λ_ _ _ _ q=>q;rcases hc with z|z
  · rw[z];exact nit b u e
  · exact nit c _ z
noncomputable def NG(K:PySem.W.Frag)(a:Addr):It :=
 ⟨λi H=>∃xs x,Mz K H a xs/\xs[i]?=some x,λi H v H'=>∃p x,v=.ref p/\H p=none/\H'=Ml H p (.tup [.int i,x])/\∀xs,Mz K H a xs->xs[i]?=some x,λi H=>∃xs,Mz K H a xs/\xs.length≤i⟩
theorem Av{P:Program}{w:World}{K:PySem.W.Frag}{k:Nat}(q it a:Addr)(hne:q≠it):G7 P w K (.Tuple es k pos) (NG K a) [q,it] q (λi h=>(∃old,IsEnum h q it i old)/\h.IsListIter it a i) where
 mem:=by simp
 obj:=λi h st b hb=>by
  obtain⟨⟨old,he⟩,o,e,c,d⟩:=st;rcases List.mem_cons.mp hb with rfl|hb
  ·
   exact⟨_,he,λv z=>by
    have z':Data.fields _=Data.cell v:=z
    cases z'⟩
  ·
   have e':b=it:=by simpa using hb
   subst e';exact⟨o,e,λv z=>by rw[d]at z;cases z⟩
 keep:=λi h h' st kk=>⟨let ⟨old,he⟩:=st.1;⟨old,kk q (by simp) _ he⟩,st.2.at λo e=>kk it (by simp) o e⟩
 item:=by
  intro X hP hw hK hc i pins s σ H E I hf st hg;subst hP hw hK;obtain⟨xs,x,hq,hx⟩:=hg;obtain⟨its,rv,p,hz⟩:=I.list hq;obtain⟨u,hu,ru⟩:=rv.get hx;obtain⟨⟨old,he⟩,hit⟩:=st;have hai:a≠it:=λz=>by subst z;obtain⟨o,e,c,d⟩:=hit;obtain⟨o',e',c',_⟩:=p.isList;rw[e]at e';cases e';rw[c]at c';exact absurd c' (by simp)
  have hqa:q≠a:=λz=>by subst z;obtain⟨o',e',c',_⟩:=p.isList;rw[he]at e';cases e';exact absurd c' (by simp)
  have D:=Draws.list (prog:=X.prog) (w:=X.w) (A:=X.A.in1) (I.ok.hd hc) it a hai its.toArray;have hlt:i<its.toArray.size:=by rw[List.size_toArray];exact(List.getElem?_eq_some_iff.mp hu).1
  refine wpAny_pyNext_enum_itemD D he ⟨hit,p.isList⟩ hlt hne (by simp[hne,hqa]) λx' h' tk hPx hout hst' htup hsz hk=>?_
  have hx':x'=u:=by
   have:its.toArray[i]?=some u:=by simpa using hu
   rw[this]at hPx;exact(Option.some.inj hPx).symm
  subst hx';refine⟨.ref s.heap.objs.size,rfl,wpAny_letOwnedTupleGo_enum (s:={s with heap:=h',toks:=tk+1}) hout λh'' he'' hs''=>?_⟩;have qlt:q<s.heap.objs.size:=Heap.lt_size he;have ilt:it<s.heap.objs.size:=by obtain⟨o,e,_⟩:=hit;exact Heap.lt_size e
  have I1:Mt X pins σ (Ml H s.heap.objs.size (.tup [.int i,x])) {s with heap:=s.heap.push {cls:=.type "tuple",data:=.seq #[.int i tk,x'] },toks:=tk} :=
   I.laid (λb ob q=>Heap.get?_push_of_some _ q) (Nat.le_refl _) ⟨by show 2≤sizeLine;decide,[.int i tk,x'],.cons ⟨tk,rfl⟩ (.cons ru .nil),⟨_,Heap.get?_push_size _ rfl,rfl,_,rfl⟩⟩
  have hf1:∀b∈[q,it],B4 X pins (Ml H s.heap.objs.size (.tup [.int i,x])) b:=λb hb=>by
   refine⟨?_,(hf b hb).2⟩;rw[aC ?_]
   · exact(hf b hb).1
   ·
    rcases List.mem_cons.mp hb with rfl|hb
    · exact Nat.ne_of_lt qlt
    · rw[List.mem_singleton.mp hb];exact Nat.ne_of_lt ilt
  have I2:=I1.turnedL (h':=h'') (t':=tk+1) (fp:=[q,it]) (λb o hb e=>by
   have hbq:b≠q:=λz=>hb (by simp[z]);have hbi:b≠it:=λz=>hb (by simp[z]);refine(hs''.2 b hbq).trans ?_;rcases Heap.get?_push_cases e with⟨rfl,rfl⟩|e
   · exact htup
   ·
    exact hk b o hbq hbi e) hf1
  refine⟨.ref s.heap.objs.size,_,I2,rfl,⟨_,x,rfl,I.fresh,rfl,λys hy=>by rw[I.list_inj hy hq];exact hx⟩,⟨⟨_,by simpa using he''⟩,hst'.1.extBut hs''.extBut (Ne.symm hne)⟩,λb hb=>(hf1 b hb).1⟩
 done:=by
  intro X hP hw hK hc i pins s σ H E I hf st hg;subst hP hw hK;obtain⟨xs,hq,hx⟩:=hg;obtain⟨its,rv,p,hz⟩:=I.list hq;obtain⟨⟨old,he⟩,hit⟩:=st;have hai:a≠it:=λz=>by subst z;obtain⟨o,e,c,d⟩:=hit;obtain⟨o',e',c',_⟩:=p.isList;rw[e]at e';cases e';rw[c]at c';exact absurd c' (by simp)
  have hl:=rv.length;have hT:s.TypeIs (.ref q) "enumerate":=⟨_,he,rfl⟩;unfold pyNext
  refine wpAny_bind (wpAny_attempt (wpAny_callSpecial?_slot (name:=Str.ofString "__next__") hT F.slot_enumerate_next
   (wpAny_call_entry F.slot_enumerate_next hT F.entry_enumerate_next ?_ (F.args_enumerate_next_1 _))))
  show wpAny _ _ (field (.ref q) 2 >>= _) _ _ _;refine wpAny_bind (wpAny_field he rfl (x:=.ref it) rfl ?_);refine wpAny_bind (wpAny_nextOf_list_end (I.ok.hd hc) hit p.isList (by simp;omega) λh' x he' hx'=>?_);obtain⟨o,ho,hcc⟩:=hx';refine wpAny_bind (wpAny_isInstance (T:="StopIteration") (b:=true) ⟨o,ho,hcc⟩ isSubtype_stop ?_);refine wpAny_pure ⟨rfl,?_⟩;exact I.turnedL (t':=s.toks) (fp:=[q,it]) (λb o hb e=>he' b o (λz=>hb (by simp[z])) e) hf
 self:=λ_ _ _ _ _ st h=>let ⟨_,he⟩:=st.1;wpAny_pyIter_enum he h
noncomputable def eD(xs:List D):List D:=xs.zipIdx.map λp=>.tup [.int (p.2:Int),p.1]
theorem yO{K:PySem.W.Frag}{H:Hp}{a:Addr}{vs:List V}{xs:List D}(h:M6 K H a vs)(r:b7 K H vs xs):Ac K H (NG K a) (eD xs):=λH' p=>by
 have h':=(h.pres p).l;have hlen:(eD xs).length=vs.length:=by rw[r.length];simp[eD]
 refine⟨λi x e=>?_,⟨vs,h',by rw[hlen];exact Nat.le_refl _⟩⟩;have hi:i<vs.length:=by rw[← hlen];exact(List.getElem?_eq_some_iff.mp e).1
 have hi2:i<xs.length:=by rw[← r.length];exact hi
 have ex:x=.tup [.int (i:Int),xs[i]]:=by
  have:(eD xs)[i]?=some (.tup [.int (i:Int),xs[i]]):=by simp[eD,hi2]
  rw[this]at e;exact(Option.some.inj e).symm
 obtain⟨v,ev,rv⟩:=r.get (i:=i) (List.getElem?_eq_getElem hi2);refine⟨⟨vs,v,h',ev⟩,λw H2 ⟨q,y,e1,e2,e3,e4⟩=>?_⟩;have e5:=e4 vs h';rw[ev]at e5;cases e5;subst e1 e3 ex;refine⟨.inr ⟨_,_,e2,rfl⟩,.tup (.inl (.inl (bb ..))) (.cons (.int _) (.cons ((rv.pres p).new e2) .nil))⟩
def yP(t:W L):W (List D):=λρ post=>t ρ λr ρ1=>Na r λd=>match d with
 |.lst xs=>post (eD xs) ρ1
 |_=>False
theorem nX{k:Nat}{t:W L} (hg:Gl X "enumerate") (hm:X.mg "enumerate"=none) (ha:PL X a t) (hs:starEach [a] X.env=[(false,eval a X.env)]:=by rfl):Np X (.Tuple es k apos) (.Call (.Name "enumerate" p) [a] [] pos) (yP t):=by
 intro pins s σ H Pr ρ post I E h
 refine Call_ (m5 I hg hm boot_enumerate (PyProof.Rows.callWith_type1 (Mv (ae (av ha) ag hs pos pins s σ H Pr ρ (λls ρ1=>match ls with
  |[.d (.lst xs)]=>post (eD xs) ρ1
  |_=>False) I E ?_) λus s1 ⟨vs,H1,ls,ρ1,I1,r1,hl,hb,E1,_,q1⟩=>?_) hs rfl))
 ·
  show t ρ _
  have e:(λr ρ1=>Na r λd=>match d with | .lst xs=>post (eD xs) ρ1|_=>False)=(λr ρ1=>Na r λx=>aB ρ1 λxs ρ2=>match L.d x::xs with | [.d (.lst xs)]=>post (eD xs) ρ2|_=>False):=by
   funext r ρ1
   cases r with
   |un=>rfl
   |d d=>cases d<;>rfl
   |own=>rfl
   | bx b ls =>
    show eI (cy (.bx b ls)) _=eI (cy (.bx b ls)) _
    cases cy (.bx b ls)with
    |none=>rfl
    |some d=>cases d<;>rfl
   |dic b ls=>rfl
  rw[← e];exact h
 ·
  dsimp only at q1;split at q1
  ·
   rename_i xs
   cases vs with
   |nil=>exact absurd hl (by simp)
   | cons v vs =>
    have:vs=[]:=by
     have:vs.length=0:=by simpa using hl
     exact List.length_eq_zero_iff.mp this
    subst this;obtain⟨_,e1,p1⟩:=aA.head_d (σ:=σ) (ρ:=ρ1) E1;cases e1
    cases p1 with
    | lst hz rs =>
     obtain⟨u,rfl,ru⟩:=r1.one;cases ru;obtain⟨its,rv,pl,hz'⟩:=I1.list hz.l;refine call_enumerate_list pl.isList λh' hE hI hsz hk=>?_;refine wpAny_pyIter_enum (s:={s1 with heap:=h' }) hE ?_;have E2:aA X.K Pr H1 σ ρ1:=aA.tail (σ:=σ) (ρ:=ρ1) E1;refine⟨s1.heap.objs.size+1,[s1.heap.objs.size+1,s1.heap.objs.size],_,_,H1,_,ρ1,rfl,I1.kept (t':=s1.toks) hk,Av _ _ _ (Nat.succ_ne_self _),⟨⟨_,hE⟩,hI⟩,λb hb=>?_,E2,yO hz rs,q1⟩
     have hb':s1.heap.objs.size≤b:=by
      rcases List.mem_cons.mp hb with rfl|hb
      · exact Nat.le_succ _
      · rw[List.mem_singleton.mp hb];exact Nat.le_refl _
     exact I1.fpOk hb' (I1.hok.fresh hb')
  · exact q1.elim
end
section
variable{X:Cx}{es:List Expr}{pos:Pos}{x:Str}
def JJ(X:Cx)(es:List Expr)(n:Nat)(is:List Nat):Prop:=∃gg:MB,MC X es gg/\es.length=is.length/\∀vs σ H Pr ρ xs k,σ.length=X.N.length->aA X.K Pr H σ ρ->b7 X.K H vs xs->gC is xs ρ k->gg vs σ H λσ' H'=>H'=H/\σ'.drop n=σ.drop n/\∃ρ',aA X.K Pr H σ' ρ'/\k ρ'
theorem FP{n:Nat}:JJ X [] n []:=⟨_,zz,rfl,λvs σ H Pr ρ xs k hl E r h=>by
 cases r with
 |nil=>exact⟨rfl,rfl,rfl,ρ,E,h⟩
 |cons _ _=>exact h.elim⟩
theorem xr{i n:Nat}{is:List Nat}{x:Str}(hn:i<n)(hN:X.N.Nodup)(hi:X.N[i]?=some x)(hx:Ms X.env.scope x)(hr:JJ X es n is)(hf:X.fn x=true∨X.env.scope.names.lookup x=some .local:=by first|exact .inl rfl|exact .inr rfl|assumption)
  (hs:(assignEach (.Name x pos::es) X.env).map (·.2)=assign (.Name x pos) X.env::(assignEach es X.env).map (·.2):=by rfl):JJ X (.Name x pos::es) n (i::is):=by
 obtain⟨gg,hg,hlen,q⟩:=hr;refine⟨_,wV (qF hN hi hx hf) hg hs,by simp[hlen],λvs σ H Pr ρ xs k hl E r h=>?_⟩
 cases r with
 |nil=>exact h.elim
 | cons r0 t =>
  refine⟨_,_,rfl,?_⟩;have:=q _ (σ.set i (some _)) H Pr _ _ k (by simpa using hl) ((E.cons_d r0).store (by rw[hl];exact(List.getElem?_eq_some_iff.mp hi).1)) t h;rw[List.drop_set_of_lt hn]at this;exact this
theorem Io{is:List Nat}{k n:Nat}(hc:X.calm=true)(h:JJ X es n is)(hn:(assignEach es X.env).length=is.length:=by rfl)(hst:(assignEach es X.env).findIdx? (·.1)=none:=by rfl):Nx X (.Tuple es k pos) n (iP is):=by
 obtain⟨gg,hg,hlen,q⟩:=h;refine⟨_,DY hc hg hn hst,λv σ H Pr ρ x k hl E r h=>?_⟩
 cases r with
 |tup hs rs=>exact⟨_,_,rfl,hs,by rw[rs.length];exact kb h,q _ σ H Pr ρ _ k hl E rs h⟩
 |_=>exact h.elim
end
end L2
namespace L2
open PySem PySem.Spec PyProof.Rows
mutual
noncomputable def NH:D->Bool
 |.lst _=>false
 |.dct _=>false
 |.exc _ _ _=>false
 |.fn _ _=>false
 |.tup xs=>tR xs
 |_=>true
noncomputable def tR:List D->Bool
 |[]=>true
 |x::xs=>NH x && tR xs
end
mutual
noncomputable def oT:L->Bool
 |.un=>true
 |.d x=>NH x
 |.own _ xs=>tR xs
 |.bx _ ls=>qY ls
 |.dic _ kvs=>kvs.all λp=>NH p.2
noncomputable def qY:List L->Bool
 |[]=>true
 |l::ls=>oT l && qY ls
end
theorem FQ:oT .un=true:=by simp[oT]
theorem Ip(x:D):oT (.d x)=NH x:=by simp[oT]
theorem CK(a:Addr)(xs:List D):oT (.own a xs)=tR xs:=by simp[oT]
theorem FR(a:Option Addr)(ls:List L):oT (.bx a ls)=qY ls:=by simp[oT]
theorem CL(a:Addr)(kvs:List (Mj×D)):oT (.dic a kvs)=kvs.all λp=>NH p.2:=by simp[oT]
theorem Aw:qY []=true:=by simp[qY]
theorem yQ(l:L)(ls:List L):qY (l::ls)=(oT l && qY ls):=by simp[qY]
noncomputable def pR:L->Bool
 |.d _=>true
 |l=>oT l
theorem CM:pR .un=true:=by simp[pR,oT]
theorem FT(x:D):pR (.d x)=true:=rfl
theorem Ax(a:Addr)(xs:List D):pR (.own a xs)=tR xs:=by simp[pR,oT]
theorem Ay(a:Addr)(kvs:List (Mj×D)):pR (.dic a kvs)=kvs.all λp=>NH p.2:=by simp[pR,oT]
theorem CN(a:Option Addr)(ls:List L):pR (.bx a ls)=qY ls:=by simp[pR,oT]
noncomputable def eS(i:Nat)(ρ:Ev):Bool:=(ρ.set i .un).all pR
def NI(o:Option L)(i:Nat)(t:W L)(ρ:Ev)(post:L->Ev->Prop):Prop:=match o with
 |some (.own _ xs)=>eS i ρ=true/\t (ρ.set i (.d (.lst xs))) λr ρ'=>oT r=true/\ρ'=ρ.set i (.d (.lst xs))/\post r ρ
 |some (.bx b ls)=>eS i ρ=true/\zk b ls λx=>t (ρ.set i (.d x)) λr ρ'=>oT r=true/\ρ'=ρ.set i (.d x)/\post r ρ
 |_=>t ρ post
theorem FU(a:Addr)(xs:List D)(i:Nat)(t:W L)(ρ:Ev)(post:L->Ev->Prop):NI (some (.own a xs)) i t ρ post=(eS i ρ=true/\t (ρ.set i (.d (.lst xs))) λr ρ'=>oT r=true/\ρ'=ρ.set i (.d (.lst xs))/\post r ρ):=(rfl)
theorem Iq(b:Option Addr)(ls:List L)(i:Nat)(t:W L)(ρ:Ev)(post:L->Ev->Prop):NI (some (.bx b ls)) i t ρ post=(eS i ρ=true/\zk b ls λx=>t (ρ.set i (.d x)) λr ρ'=>oT r=true/\ρ'=ρ.set i (.d x)/\post r ρ):=(rfl)
theorem Kc(x:D)(i:Nat)(t:W L)(ρ:Ev)(post:L->Ev->Prop):NI (some (.d x)) i t ρ post=t ρ post:=(rfl)
def NJ(o:Option L)(i:Nat)(t:W Bool)(ρ:Ev)(post:Bool->Ev->Prop):Prop:=match o with
 |some (.own _ xs)=>eS i ρ=true/\t (ρ.set i (.d (.lst xs))) λr ρ'=>ρ'=ρ.set i (.d (.lst xs))/\post r ρ
 |some (.bx b ls)=>eS i ρ=true/\zk b ls λx=>t (ρ.set i (.d x)) λr ρ'=>ρ'=ρ.set i (.d x)/\post r ρ
 |_=>t ρ post
theorem FV(a:Addr)(xs:List D)(i:Nat)(t:W Bool)(ρ:Ev)(post:Bool->Ev->Prop):NJ (some (.own a xs)) i t ρ post=(eS i ρ=true/\t (ρ.set i (.d (.lst xs))) λr ρ'=>ρ'=ρ.set i (.d (.lst xs))/\post r ρ):=(rfl)
theorem Ir(b:Option Addr)(ls:List L)(i:Nat)(t:W Bool)(ρ:Ev)(post:Bool->Ev->Prop):NJ (some (.bx b ls)) i t ρ post=(eS i ρ=true/\zk b ls λx=>t (ρ.set i (.d x)) λr ρ'=>ρ'=ρ.set i (.d x)/\post r ρ):=(rfl)
theorem Kd(x:D)(i:Nat)(t:W Bool)(ρ:Ev)(post:Bool->Ev->Prop):NJ (some (.d x)) i t ρ post=t ρ post:=(rfl)
variable{X:Cx}
variable{X:Cx}
variable{X:Cx}
section
variable{X:Cx}{e a b c:Expr}{es:List Expr}{pos p p2:Pos}{ta:W L}{x y:Str}
def nc:List (Nc×W L)->D->W L
 |[],_=>λ_ _=>False
 |[(o,t)],dx=>λρ post=>t ρ λy ρ1=>Na y λdy=>o dx dy λr=>w7 r λk=>post (.d (.bl k)) ρ1
 |(o,t)::q::r,dx=>λρ post=>t ρ λy ρ1=>Na y λdy=>o dx dy λz=>w7 z λk=>if k=true then nc (q::r) dy ρ1 post else post (.d (.bl false)) ρ1
def q8(ta:W L)(ls:List (Nc×W L)):W L:=λρ post=>ta ρ λx ρ1=>Na x λdx=>nc ls dx ρ1 post
inductive oU (X:Cx):List CmpOp->List Expr->List (Nc×W L)->Prop where
 |one {op:CmpOp} {e:Expr} {o:Nc} {t:W L} (ho:Nd X (compareOp op) o) (h:PL X e t):oU X [op] [e] [(o,t)]
 |cons {op:CmpOp} {e:Expr} {o:Nc} {t:W L} {ops:List CmpOp} {es:List Expr} {ls:List (Nc×W L)} (ho:Nd X (compareOp op) o) (h:PL X e t) (r:oU X ops es ls):oU X (op::ops) (e::es) ((o,t)::ls)
theorem rf{op:CmpOp}{o:Nc}{pins:List (Addr×Obj)}{s:Shared}{σ:St}{H Pr:Hp}{ρ:Ev}{v:V}{u:Value}{dx:D}{R:Bool->D->Ev->Prop}{t:W L}{Q:Value->Value->Shared->Prop}(ho:Nd X (compareOp op) o)(h:PL X e t)
  (I:Mt X pins σ H s) (rv:cq v u) (E:aA X.K Pr H (some v::σ) (.d dx::ρ)) (ht:t ρ λy ρ1=>Na y λdy=>o dx dy λr=>w7 r λk=>R k dy ρ1)
  (hQ:∀u2 s3 w2 dy H3 ρ1 k,Mt X pins σ H3 s3->cq w2 u2->aA X.K Pr H3 (some w2::σ) (.d dy::ρ1)->R k dy ρ1->Q u2 (.bool k) s3) :
  wpAny (model X.prog X.w) X.A (eval e X.env) (λb s₁=>wpAny (model X.prog X.w) X.A (compareOp op u b) (λc s₂=>Q b c s₂) X.xe s₁) X.xe s:=by
 refine Mv (h pins s σ H _ ρ _ I E.tail.wide ht) λu2 s2 q=>?_;obtain⟨y,H2,dy,ρ2,I2,r2,E2,q2⟩:=EL.frz (post:=λdy ρ1=>o dx dy λr=>w7 r λk=>R k dy ρ1) q;have E3:aA X.K Pr H2 (some y::some v::σ) (.d dy::.d dx::ρ2):=aA.step (τ:=[some v]) (lam:=[.d dx]) (w:=[some y]) (μ:=[.d dy]) E rfl E2 rfl;obtain⟨_,e1,p1⟩:=E3.head_d;obtain⟨_,e2,p2⟩:=E3.tail.head_d;cases e1;cases e2;have E4:aA X.K Pr H2 σ ρ2:=E3.tail.tail;have E5:aA X.K Pr H2 (some y::σ) (.d dy::ρ2):=E4.cons_d p1;have E5w:=E5;refine Mv (ho pins s2 σ H2 (bz H2 ρ2) ρ2 v y u u2 dx dy _ I2 rv r2 E4.wide p2 p1 q2) λw s3 ⟨z,H3,r,I3,rz,E6,pp⟩=>?_;obtain⟨k,rfl,pp⟩:=oE pp;obtain⟨_,e3,p3⟩:=E6.head_d;cases e3;cases p3;cases rz;have P3:tD H2 H3:=qL E4 E6.sub;have E7:aA X.K Pr H3 σ ρ2:=E4.narrow E6.tail;exact hQ u2 s3 y dy H3 ρ2 k I3 r2 (E7.cons_d (p1.pres P3)) pp
theorem CO{ops:List CmpOp}{es:List Expr}{ls:List (Nc×W L)}(h:oU X ops es ls):∀(pins:List (Addr×Obj))(s:Shared)(σ:St)(H Pr:Hp)(ρ:Ev)(post:L->Ev->Prop)(v:V)(u:Value)(dx:D)(pos:Pos),Mt X pins σ H s->cq v u->aA X.K Pr H (some v::σ) (.d dx::ρ)->nc ls dx ρ post ->
  wpAny (model X.prog X.w) X.A (compareChain pos u ops (evalEach es X.env)) (EL X pins σ Pr post) X.xe s:=by
 induction h with
 | one ho h =>
  intro pins s σ H Pr ρ post v u dx pos I rv E hl;refine chain_last ?_;exact rf (R:=λk _ ρ1=>post (.d (.bl k)) ρ1) (Q:=λ_ c s=>EL X pins σ Pr post c s) ho h I rv E hl λu2 s3 w2 dy H3 ρ1 k I3 r3 E3 q=>⟨.bl k,H3,_,ρ1,I3,rfl,E3.tail.cons_d (.bl k),q⟩
 | @cons op e o t ops es ls ho h r ih =>
  intro pins s σ H Pr ρ post v u dx pos I rv E hl
  cases r with
  | one ho2 h2 =>
   refine chain_link (rf (R:=λk dy ρ1=>if k=true then nc [_] dy ρ1 post else post (.d (.bl false)) ρ1) (Q:=λb c s=>wpAny (model X.prog X.w) X.A (truthy c) (λt s₃=>if t then _ else EL X pins σ Pr post c s₃) X.xe s) ho h I rv E hl λu2 s3 w2 dy H3 ρ1 k I3 r3 E3 q=>?_)
   refine wpAny_truthy_bool ?_
   cases k with
   |false=>exact ite_ff ⟨.bl false,H3,_,ρ1,I3,rfl,E3.tail.cons_d (.bl false),q⟩
   |true=>exact ite_tt (ih pins s3 σ H3 Pr ρ1 post w2 u2 dy pos I3 r3 E3 q)
  | cons ho2 h2 r2 =>
   cases r2 with
   | one ho3 h3 =>
    refine chain_link (rf (R:=λk dy ρ1=>if k=true then nc (_::_::_) dy ρ1 post else post (.d (.bl false)) ρ1) (Q:=λb c s=>wpAny (model X.prog X.w) X.A (truthy c) (λt s₃=>if t then _ else EL X pins σ Pr post c s₃) X.xe s) ho h I rv E hl λu2 s3 w2 dy H3 ρ1 k I3 r3 E3 q=>?_)
    refine wpAny_truthy_bool ?_
    cases k with
    |false=>exact ite_ff ⟨.bl false,H3,_,ρ1,I3,rfl,E3.tail.cons_d (.bl false),q⟩
    |true=>exact ite_tt (ih pins s3 σ H3 Pr ρ1 post w2 u2 dy pos I3 r3 E3 q)
   | cons ho3 h3 r3 =>
    refine chain_link (rf (R:=λk dy ρ1=>if k=true then nc (_::_::_) dy ρ1 post else post (.d (.bl false)) ρ1) (Q:=λb c s=>wpAny (model X.prog X.w) X.A (truthy c) (λt s₃=>if t then _ else EL X pins σ Pr post c s₃) X.xe s) ho h I rv E hl λu2 s3 w2 dy H3 ρ1 k I3 r3 E3 q=>?_)
    refine wpAny_truthy_bool ?_
    cases k with
    |false=>exact ite_ff ⟨.bl false,H3,_,ρ1,I3,rfl,E3.tail.cons_d (.bl false),q⟩
    |true=>exact ite_tt (ih pins s3 σ H3 Pr ρ1 post w2 u2 dy pos I3 r3 E3 q)
theorem tS{op op':CmpOp}{ops:List CmpOp}{r1 r2:Expr}{rs:List Expr}{ls:List (Nc×W L)}(ha:PL X a ta)(h:oU X (op::op'::ops) (r1::r2::rs) ls)(hm:lastMarks (op::op'::ops) (r1::r2::rs)=false:=by with_unfolding_all rfl):PL X (.Compare a (op::op'::ops) (r1::r2::rs) pos) (q8 ta ls):=by intro pins s σ H Pr ρ post I E ht;refine Compare_chain (Mv (ha pins s σ H Pr ρ _ I E ht) λu s1 q=>?_) hm;obtain⟨v,H1,dx,ρ1,I1,rv,E1,q1⟩:=EL.frz (post:=λdx ρ1=>nc ls dx ρ1 post) q;exact CO h pins s1 σ H1 Pr ρ1 post v u dx pos I1 rv E1 q1
theorem vF{prog:Program}{w:World}{A:Around}{ks:List Bool}{us:List Value}(h:us=ks.map Value.bool):TruthOf prog w A (λi v=>us.toArray[i]?=some v) (λi=>ks.getD i true):=λi v s Q E hv hQ=>by
 subst h;rw[List.getElem?_toArray,List.getElem?_map]at hv
 cases q:ks[i]? with
 |none=>rw[q]at hv;cases hv
 | some k =>
  rw[q]at hv;cases hv;refine wpAny_truthy_bool ?_;have:ks.getD i true=k:=by rw[List.getD_eq_getElem?_getD,q];rfl
  have hQ':Q (ks.getD i true) s:=hQ;rw[this]at hQ';exact hQ'
theorem Az(ks:List Bool):(List.range ks.length).any (λi=>ks.getD i true)=ks.any id:=by
 apply Bool.eq_iff_iff.mpr;simp only[List.any_eq_true,List.mem_range,id];constructor
 · rintro⟨i,hi,e⟩;rw[List.getD_eq_getElem?_getD,List.getElem?_eq_getElem hi]at e;exact⟨_,List.getElem_mem hi,e⟩
 · rintro⟨x,hx,e⟩;obtain⟨i,hi,e2⟩:=List.getElem_of_mem hx;refine⟨i,hi,?_⟩;rw[List.getD_eq_getElem?_getD,List.getElem?_eq_getElem hi];simpa[e2]using e
theorem qj:∀{ks:List Bool}{us:List Value},cB (ks.map V.bl) us->us=ks.map Value.bool
 |[],_,.nil=>rfl
 | k::ks,_,.cons r t=>by have e:=qj t;subst e;cases r;rfl
theorem tT(hc:X.calm=true):iC X (.builtin "any") (λxs H Q=>∃(p:Addr)(ks:List Bool),xs=[.ref p]/\Mz X.K H p (ks.map V.bl)/\Q (.bl (ks.any id)) H):=by
 intro pins s σ H xs us Q I r ⟨p,ks,e,hq,q⟩;subst e;obtain⟨u,rfl,r1⟩:=qG r;cases r1;obtain⟨its,rv,pl,hz⟩:=I.list hq;have e:=qj rv;refine call_any_walk (wpAny_pyIter_list pl.isList ?_);have hne:p≠s.heap.objs.size:=λz=>by obtain⟨o,n,eo,_⟩:=pl;have:=Heap.lt_size eo;rw[z]at this;exact absurd this (Nat.lt_irrefl _)
 refine⟨s.heap.objs.size,_,_,_,_,_,(λi=>ks.getD i true),rfl,Walks.list (A:=X.A.in1) (I.ok.hd hc) _ p hne its.toArray,⟨⟨_,Heap.get?_push_size _ rfl,rfl,rfl⟩,pl.isList.at λo eo=>Heap.get?_push_of_some _ eo⟩,vF e,λh' tk hk=>?_⟩;have hl:its.toArray.size=ks.length:=by rw[e];simp
 rw[hl,Az];refine⟨.bl _,H,I.kept (h':=h') (t':=tk) λb o eb=>hk b o (λhm=>?_) (Heap.get?_push_of_some _ eb),rfl,q⟩;have e2:b=s.heap.objs.size:=by simpa using hm
 have:=Heap.lt_size eb;rw[e2]at this;exact absurd this (Nat.lt_irrefl _)
theorem lr{K:PySem.W.Frag}{H:Hp}:∀{vs:List V}{ks:List Bool},b7 K H vs (ks.map D.bl)->vs=ks.map V.bl
 |[],[],_=>rfl
 | _::_,k::ks,.cons r t=>by cases r;rw[lr t];rfl
 |[],_::_,r=>nomatch r
 |_::_,[],r=>nomatch r
def Iu:Nu:=λds k=>∃ks:List Bool,ds=[.lst (ks.map D.bl)]/\k (.d (.bl (ks.any id)))
theorem Iv(hc:X.calm=true):fJ X (.builtin "any") Iu:=fJ.of (tT hc) λσ H Pr ρ vs ds post E ps ⟨ks,e,h⟩=>by
 subst e;obtain⟨v,rfl,r⟩:=nI ps
 cases r with
 | lst hz rs =>
  have e:=lr rs;subst e;exact⟨_,ks,rfl,hz.l,_,E.cons_d (.bl _),h⟩
end
end L2
set_option exponentiation.threshold 2000
namespace L2
open PySem PySem.Spec PyProof.Rows
section
variable{X:Cx}{e a b:Expr}{x y:Str}
mutual
noncomputable def bE:D->Bool
 |.int i=>decide (i.natAbs<2^1900)
 |.tup xs=>cV xs
 |.lst xs=>cV xs
 |_=>true
noncomputable def cV:List D->Bool
 |[]=>true
 |x::xs=>bE x && cV xs
end
theorem FW:(2:Nat)^1900<10^600:=by decide +kernel
theorem AA{i:Int}(h:i.natAbs<2^1900):(PyData.shown (.int i)).length≤601:=by have e:=PySem.int_text_length_le10 (k:=600) (by decide) (Nat.lt_trans h FW);show(Str.ofString (toString i)).length≤601;rw[PySem.ofString_length];exact e
mutual
theorem gE:∀d:D,bE d=true->(Nq d).intsShort 601=true/\(Nq d).showable=true
 |.non,_=>⟨rfl,rfl⟩
 |.bl _,_=>⟨rfl,rfl⟩
 |.str _,_=>⟨rfl,rfl⟩
 |.dct _,_=>⟨rfl,rfl⟩
 |.exc _ _ _,_=>⟨rfl,rfl⟩
 |.fn _ _,_=>⟨rfl,rfl⟩
 | .int i,h=>by
  have h':i.natAbs<2^1900:=by simpa only[bE,decide_eq_true_eq]using h
  refine⟨by simp only[Nq,PyData.intsShort,decide_eq_true_eq];exact AA h',?_⟩
  simp only[Nq,PyData.showable,decide_eq_true_eq]
  by_cases h0:i.natAbs=0
  ·
   rw[h0];decide
  ·
   exact(Nat.log2_lt h0).mpr (Nat.lt_of_lt_of_le h' (Nat.pow_le_pow_right (by decide) (by decide)))
 | .tup xs,h=>by
  obtain⟨h1,h2⟩:=oV xs (by simpa only[bE]using h)
  exact⟨by simpa only[Nq,PyData.intsShort]using h1,by simpa only[Nq,PyData.showable]using h2⟩
 | .lst xs,h=>by
  obtain⟨h1,h2⟩:=oV xs (by simpa only[bE]using h)
  exact⟨by simpa only[Nq,PyData.intsShort]using h1,by simpa only[Nq,PyData.showable]using h2⟩
theorem oV:∀ds:List D,cV ds=true->PyData.intsShortAll 601 (de ds)=true/\PyData.showableAll (de ds)=true
 |[],_=>⟨rfl,rfl⟩
 | d::ds,h=>by
  simp only[cV,Bool.and_eq_true]at h
  obtain⟨h1,h2⟩:=gE d h.1
  obtain⟨h3,h4⟩:=oV ds h.2
  exact⟨by simp only[de,PyData.intsShortAll,h1,h3,Bool.and_self],by simp only[de,PyData.showableAll,h2,h4,Bool.and_self]⟩
end
noncomputable def FY(d:D):Str:=(Nq d).shown
structure xu (d:D):Prop where
 ok:NF 40 d=true
 sh:bE d=true
 wt:(Nq d).weight≤20000
theorem xu.len{d:D}(h:xu d):(Nq d).shown.length≤sizeLine:=by
 have h1:=PyData.shown_le 601 (by decide) (Nq d) (PyData.leavesShort_of_canLay0 601 _ (mz 40 d h.ok).1 (gE d h.sh).1);have h2:=h.wt;have e:sizeLine=16777216:=by decide
 rw[e];omega
def Ke:Nc:=λx y k=>match x,y with
 |.str a,.str b=>k (.d (.bl (decide (a=b))))
 |_,_=>False
def AB:Nc:=λx y k=>match x,y with
 |.str a,.str b=>k (.d (.bl (!decide (a=b))))
 |_,_=>False
theorem Ea:Nd X (compareOp .NotEq) AB:=Nd.of JV λσ H Pr ρ x y dx dy post E px py h=>by
 unfold AB at h;split at h
 ·
  cases px;cases py;rename_i a b;refine⟨rfl,_,E.cons_d (.bl _),?_⟩;have e:decide (V.str a=V.str b)=decide (a=b):=by simp
  rw[e];exact h
 · exact h.elim
def NK(f:Fl)(o:Option L)(j:Nat)(ρ1:Ev)(post:Fl->Ev->Prop):Prop:=match f with
 | .nx=>(match o with
  |some (.own _ xs)=>post .nx (ρ1.set j (.d (.lst xs)))
  |_=>post .nx ρ1)
 |f=>post f ρ1
theorem FZ(a:Addr)(xs:List D)(j:Nat)(ρ1:Ev)(post:Fl->Ev->Prop):NK .nx (some (.own a xs)) j ρ1 post=post .nx (ρ1.set j (.d (.lst xs))):=(rfl)
theorem Kg(x:D)(j:Nat)(ρ1:Ev)(post:Fl->Ev->Prop):NK .nx (some (.d x)) j ρ1 post=post .nx ρ1:=(rfl)
end
section
variable{X:Cx}{pins:List (Addr×Obj)}{σ:St}{H Pr:Hp}{s:Shared}{ρ:Ev}{pos:Pos}
theorem Mt.past(I:Mt X pins σ H s):(s.heap.objs.size == sysModules)=false:=by have h:mainGlobals<s.heap.objs.size:=(I.mod.glob.keeps I.bk).lt;exact beq_eq_false_iff_ne.mpr (Ne.symm (Nat.ne_of_lt (Nat.lt_trans (by decide) h)))
def AC(n:Nat):W L:=λρ post=>post (.d (.dct n)) ρ
theorem aA.cons_dct{a:Addr}{o:Obj}{kvs:List (Mj×V)}(E:aA X.K Pr H σ ρ)(h:H a=none):aA X.K Pr (Ml H a (.frz o (.dK kvs))) (some (.ref a)::σ) (.d (.dct kvs.length)::ρ) :=
 (E.new h).cons_d (.dct bb)
theorem rg:PL X (.Dict [] [] pos) (AC 0):=by intro pins s σ H Pr ρ post I E hq;have hf:H s.heap.objs.size=none:=I.hok.fresh (Nat.le_refl _);have I1:=I.laid (a:=s.heap.objs.size) (o:=.dK []) (h':=s.heap.push {cls:=.type "dict",data:=.dict #[] }) (t':=s.toks) (λ_ _ q=>Heap.get?_push_of_some _ q) (Nat.le_refl _) ⟨Nat.zero_le _,I.past,[],.nil,Heap.DictOf.new s.heap⟩;obtain⟨o,I2⟩:=I1.freezeD bb;rw[EG]at I2;exact wpAny_Dict_empty ⟨.ref s.heap.objs.size,_,.d (.dct 0),ρ,I2,rfl,E.cons_dct (kvs:=[]) hf,hq⟩
end
structure FX (K:PySem.W.Frag) (mg:Str->Option Value) (g:Str) (st:Stmt) (a:Addr) (fd:FuncData) (P:List Str):Prop where
 f:M5 K g g st a fd
 b:mq K fd P []
 m:mg g=some (.ref a)
noncomputable abbrev NL(g:Str)(st:Stmt)(md:Value)(c:Nat):FuncData:=PySem.W.fnOf g g (iL st) (eG st) (ar st) .none .none .none md none (.ref c) .none
theorem FX.mk'{K:PySem.W.Frag}{mg:Str->Option Value}{h:Heap}(X:K.In h)(G:h.Ns mainGlobals mg){g:Str}{st:Stmt}{a:Addr}{c:Nat}{md:Value}{P:List Str}(e1:PySem.W.nsIn K mainGlobals g=some (some (.ref a)))
  (e2:K.lookup a=some ⟨.type "function",none,.func (NL g st md c),#[]⟩) (e3:PySem.W.codeIn K (.ref c) g=true) (e4:PySem.W.keepIn K (.ref a)=true)
  (e5:∀(kV doc pm:Value)(an:Option Addr)(cdv ct:Value)(us:List Value),us.length=P.length->bindArgs (PySem.W.fnOf g g (iL st) (eG st) (ar st) .none kV doc pm an cdv ct) ⟨us,[]⟩=pure (P.zip us)):FX K mg g st a (NL g st md c) P :=
 ⟨qd e2 e3 e4,(qd e2 e3 e4).binds e5,PySem.W.mg_of X G e1⟩
section
variable{X:Cx}{k k' n:Nat}{f:Addr}{fd:FuncData}{ps:List Str}{fs:FS}{g:Str}{st:Stmt}{e:Expr}{es:List Expr}{bs:List (Option Nat)}{t:W (List L)}{p pos:Pos}
theorem aT(F:FnOk X.prog X.w X.K X.mg X.base CX0 k f fd ps (spF X.K n fs))(T:FX X.K X.mg g st f fd ps)(hr:iI k' X.A)(ha:M8 X (e::es) bs t)(hk:k≤k':=by decide)(hg:Gl X g:=by rfl)(hn:bs.length=n:=by rfl) (hdb:(g == ("__debug__" : Str))=false:=by decide) (he:starEach (e::es) X.env=(false,eval e X.env)::starEach es X.env:=by rfl) (hpl:(backTo pos (starEach es X.env)).any (·.1)=false:=by rfl) :
  PL X (.Call (.Name g p) (e::es) [] pos) (aP fs t):=Fp F (hr.mono hk) hg T.m T.f.kp T.b Ff ha hn hdb he hpl
theorem bC(F:FnOk X.prog X.w X.K X.mg X.base CX0 k f fd ps (spF X.K n fs))(T:FX X.K X.mg g st f fd ps)(hr:iI k' X.A)(j i:Nat)(ha:M8 X (e::es) bs t)(hk:k≤k':=by decide)(hg:Gl X g:=by rfl)(hj:bs[j]?=some (some i):=by rfl)(hn:bs.length=n:=by rfl) (hdb:(g == ("__debug__" : Str))=false:=by decide) (he:starEach (e::es) X.env=(false,eval e X.env)::starEach es X.env:=by rfl) (hpl:(backTo pos (starEach es X.env)).any (·.1)=false:=by rfl) :
  PL X (.Call (.Name g p) (e::es) [] pos) (bp fs j i t):=Cz F (hr.mono hk) hg T.m T.f.kp T.b Ff j i ha hj hn hdb he hpl
end
section
variable{X:Cx}
theorem CP:MH X (binaryOp .Add) (λx y H Q=>∃l b xs zs,x=.ref l/\y=.ref b/\MA X.K H l xs/\MA X.K H b zs/\xs≠[]/\zs≠[]/\xs.length+zs.length≤sizeLine/\∀p,H p=none->Q (.ref p) (Ml H p (.tup (xs++zs)))):=by
 intro pins s σ H x y v u Q I rx ry h;obtain⟨l,b,xs,zs,rfl,rfl,hH,hB,n1,n2,hz,q⟩:=h;cases rx;cases ry;obtain⟨its,r,⟨o,e,c,n,f⟩,z⟩:=I.tuple hH;obtain⟨its2,r2,⟨o2,e2,c2,m,f2⟩,z2⟩:=I.tuple hB;obtain⟨cl,dd,dt,sl⟩:=o;obtain⟨cl2,dd2,dt2,sl2⟩:=o2;simp only at c f c2 f2;subst c f c2 f2;have hl:=r.length;have hl2:=r2.length;have k1:its≠[]:=λe=>n1 (List.length_eq_zero_iff.mp (by rw[hl,e];rfl));have k2:its2≠[]:=λe=>n2 (List.length_eq_zero_iff.mp (by rw[hl2,e];rfl));refine concat_meets ⟨_,e,rfl⟩ ⟨_,e2,rfl⟩ noFill_tuple_add seq_tuple_add PySem.F.slot_tuple_add PySem.F.entry_tuple_add (PySem.F.args_tuple_add_2 _ _) (tuple_addW2 l b its.toArray its2.toArray n m dd dd2 sl sl2 (by simpa using k1) (by simpa using k2) (by rw[List.size_toArray,List.size_toArray];omega)) ⟨e,e2,?_⟩;have ea:its.toArray++its2.toArray=(its++its2).toArray:=by simp
 rw[ea];exact⟨.ref _,Ml H s.heap.objs.size (.tup (xs++zs)),I.laid (o:=.tup (xs++zs)) (λ_ _ q=>Heap.get?_push_of_some _ q) (Nat.le_refl _) ⟨by rw[List.length_append];omega,its++its2,r.append r2,⟨_,Heap.get?_push_size _ rfl,rfl,_,rfl⟩⟩,rfl,q _ I.fresh⟩
def tU:Nc:=λx y k=>match x,y with
 |.tup xs,.tup ys=>xs≠[]/\ys≠[]/\xs.length+ys.length≤sizeLine/\k (.d (.tup (xs++ys)))
 |_,_=>False
theorem AD:Nd X (binaryOp .Add) tU:=(Nd.of CP (op:=λx y k=>∃xs ys,x=.tup xs/\y=.tup ys/\xs≠[]/\ys≠[]/\xs.length+ys.length≤sizeLine/\k (.d (.tup (xs++ys)))) (λσ H Pr ρ x y dx dy post E px py ⟨xs,ys,e1,e2,m1,m2,z,h⟩=>by
  subst e1 e2
  cases px with
  | tup h1 r1 =>
   cases py with
   | tup h2 r2 =>
    refine⟨_,_,_,_,rfl,rfl,h1,h2,λe=>m1 ?_,λe=>m2 ?_,by rw[r1.length,r2.length];exact z,λp hp=>⟨_,E.cons_tup hp (r1.append r2),h⟩⟩
    · exact List.length_eq_zero_iff.mp (by rw[← r1.length,e];rfl)
    ·
     exact List.length_eq_zero_iff.mp (by rw[← r2.length,e];rfl))).imp λx y k h=>by
 unfold tU at h;split at h
 · exact⟨_,_,rfl,rfl,h⟩
 · exact h.elim
end
mutual
noncomputable def xv:D->Nat
 |.tup xs=>vG xs+1
 |.lst xs=>vG xs+1
 |_=>0
noncomputable def vG:List D->Nat
 |[]=>0
 |x::xs=>max (xv x) (vG xs)
end
theorem xw{n:Nat}:∀{xs:List D},(∀x∈xs,xv x≤n)->vG xs≤n
 |[],_=>Nat.zero_le _
 | y::ys,h=>by simp only[vG];have:=h y List.mem_cons_self;have:=xw (xs:=ys) λx hx=>h x (List.mem_cons_of_mem _ hx);omega
section
variable{X:Cx}{a:Expr}
theorem AE{h:Heap}{a:Addr}{its:Array Value}(z:IsTup h a its):∃ dd n sl,h.get? a=some ⟨.type "tuple",dd,.seq its n,sl⟩:=by obtain⟨o,e,c,n,d⟩:=z;obtain⟨c',dd,dt,sl⟩:=o;cases c;cases d;exact⟨dd,n,sl,e⟩
theorem AF{pins:List (Addr×Obj)}{σ:St}{H:Hp}{s:Shared}{x:V}{u:Value}{d:D}{b:Bool}{tp:Addr}{its:List Value}{Q:Value->Shared->Prop}{A:Around}{E:Value->Shared->Prop}(I:Mt X pins σ H s)(rx:cq x u)(r:M7 X.K H x d)(ht:IsTup s.heap tp its.toArray)
  (e:∀ t,Nw X.K d t->PySem.W.kitAny X.K t its=some b) (h:∀ tk,Q (.bool b) {s with toks:=tk}):wpAny (model X.prog X.w) A (call (.builtin "isinstance") [u,.ref tp]) Q E s:=by
 obtain⟨dd,n,sl,ht⟩:=AE ht
 cases r with
 |non=>cases rx;exact PySem.W.kia_tup PySem.W.kitx_none I.kIn True.intro ht (e _ rfl) (λz=>nomatch z) h
 |bl y=>cases rx;exact PySem.W.kia_tup PySem.W.kitx_bool I.kIn True.intro ht (e _ rfl) (λz=>nomatch z) h
 |int i=>obtain⟨t,rfl⟩:=rx;exact PySem.W.kia_tup PySem.W.kitx_int I.kIn True.intro ht (e _ rfl) (λz=>nomatch z) h
 |str y=>obtain⟨t,rfl⟩:=rx;exact PySem.W.kia_tup PySem.W.kitx_str I.kIn True.intro ht (e _ rfl) (λz=>nomatch z) h
 | lst hz rs =>
  cases rx;obtain⟨its',_,⟨o,n',e1,c1,_,_⟩,_⟩:=I.list hz.l;exact PySem.W.kia_tup PySem.W.kitx_list I.kIn ⟨o,e1,c1⟩ ht (e _ rfl) (λz=>nomatch z) h
 | tup hz rs =>
  cases rx;obtain⟨its',_,⟨o,e1,c1,_⟩,_⟩:=I.tuple hz;exact PySem.W.kia_tup PySem.W.kitx_tuple I.kIn ⟨o,e1,c1⟩ ht (e _ rfl) (λz=>nomatch z) h
 | @dct a' o kvs hz =>
  cases rx;obtain⟨_,_,_,vs,_,o',es,ep,h1,h2,_⟩:=(show c8 X.prog X.w H s.heap a' (.frz o (.dK kvs))from I.hok a' _ hz);exact PySem.W.kia_tup PySem.W.kitx_dict I.kIn ⟨o',h1,h2.1⟩ ht (e _ rfl) (λz=>nomatch z) h
 | @exc a o u cc C ns vs ds h1 hv hc hn hs hq hf rs =>
  cases rx;obtain⟨od,Ia,_⟩:=qP I h1 hc hn hf;obtain⟨LL,cd,S⟩:=dO hs;exact PySem.W.kia_tup (w4 S) I.kIn ⟨_,_,Ia⟩ ht (e _ ⟨C,rfl,hs⟩) (λz=>nomatch z) h
 | fn hl hf hq hc hz hd hv hm r =>
  cases rx;exact PySem.W.kia_tup zU I.kIn ⟨_,(I.hok _ _ hf).1,rfl⟩ ht (e _ rfl) (λz=>nomatch z) h
end
end L2
namespace L2
open PySem PySem.Spec PyProof.Rows PySem.Builtin.Str
inductive Sk where
 |l|t
noncomputable abbrev Zi:=Sk×Addr×Addr
noncomputable def Zi.ofs(js:List Zi):List Addr:=js.map (·.2.1)
def Iw(z O:Addr)(js:List Zi)(h h':Heap):Prop:=∀c o,c∉z::O::Zi.ofs js->h.get? c=some o->h'.get? c=some o
noncomputable def Sk.nm:Sk->String
 |.l=>"list_iterator"
 |.t=>"tuple_iterator"
section
variable{z O:Addr}{js:List Zi}
theorem Iw.mono{h h':Heap}(k:Iw z O js h h'){c:Addr}{o:Obj}(hc:c∉z::O::Zi.ofs js)(e:h.get? c=some o):h'.get? c=some o:=k c o hc e
end
end L2
namespace L2
open PySem PySem.Spec PyProof.Rows
end L2
namespace L2
open PySem PySem.Spec PyProof.Rows PySem.W
noncomputable def F4(K:Frag)(C fI:Addr):Bool:=(match K.lookup C with
 | some ⟨.type "type",_,.cls cd,sl⟩=>(match cd.mro,sl.toList with
  |.ref C'::bm,[_,_,_,_,some (.builtin n),_]=>C' == C && n == "ValueError.__new__" && !cd.hasDel && bm.contains (.type "ValueError") && !(bm.contains (.type "AttributeError")) && !(bm.contains (.type "NameError"))
  |_,_=>false)
 |_=>false) && findIn K (.ref C) "__init__" == some (some (.ref fI)) && typeIn K (.ref fI) == some (.type "function")
structure NM (K:Frag) (C fI:Addr):Prop where
 ex:∃ nm q N bs bm hdct sn sub ab col dd k0 k1 k2 k3 k5,K.lookup C=some (excClassObj nm q C N bs bm hdct sn sub ab col dd k0 k1 k2 k3 k5 "ValueError.__new__")/\bm.contains (.type "ValueError")=true/\bm.contains (.type "AttributeError")=false/\bm.contains (.type "NameError")=false
 init:findIn K (.ref C) "__init__"=some (some (.ref fI))
 fn:typeIn K (.ref fI)=some (.type "function")
theorem Iy{K:Frag}{C fI:Addr}(h:F4 K C fI=true):NM K C fI:=by
 unfold F4 at h;simp only[Bool.and_eq_true,beq_iff_eq]at h;obtain⟨⟨h,h1⟩,h2⟩:=h;refine⟨?_,h1,h2⟩;split at h
 ·
  rename_i dd cd sl ho;split at h
  · rename_i C' bm k0 k1 k2 k3 n k5 hm hs;simp only[Bool.and_eq_true,beq_iff_eq,Bool.not_eq_true']at h;obtain⟨⟨⟨⟨⟨rfl,rfl⟩,hdel⟩,e1⟩,e2⟩,e3⟩:=h;obtain⟨nm,bs,mro,ns,qn,hd,sn,sub,ab,col,NN⟩:=cd;dsimp only at hm hdel;subst hm hdel;obtain⟨l⟩:=sl;simp only at hs;subst hs;exact⟨nm,qn,ns,bs,bm,hd,sn,sub,ab,col,dd,k0,k1,k2,k3,k5,ho,e1,e2,e3⟩
  · cases h
 · cases h
section
variable{prog:Program}{w:World}{A:Around}{E:Value->Shared->Prop}{h:Heap}{g:Array GenState}{d:Drawn}{t:Nat}{os:OsState}
variable{nm q:Str}{C N:Addr}{bs bm:List Value}{hdct:Bool}{sn:List Str}{sub:List Value}{ab:Bool}{col:Option Bool}{dd:Option Addr}{k0 k1 k2 k3 k5:Option Value}
theorem yR{M:Model}{eh:List Value}{Q:Unit->Shared->Prop} (hC:h.get? C=some (excClassObj nm q C N bs bm hdct sn sub ab col dd k0 k1 k2 k3 k5 "ValueError.__new__")) (hv:bm.contains (.type "ValueError")=true)
  (hq:Q () ⟨h,g,d,t,os⟩):wpAny M A (checkBuiltinCall "ValueError.__new__" ⟨.ref C::eh,[]⟩) Q E ⟨h,g,d,t,os⟩:=by
 have FB:=F.excBase_ValueError;have hb:(Value.ref C::bm).contains (.type "ValueError")=true:=by rw[List.contains_cons,hv,Bool.or_true]
 have hst:=FB.noStar;simp only[checkBuiltinCall,FB.newKind,FB.newSplit,FB.newRow]
 repeat (first|refine wpAny_loadPart_at hC ?_|(refine wpAny_isSubtype_exc hC ?_;rw[hb])|refine wpAny_staticBase_exc hC ?_|refine wpAny_madeBy_exc hC ?_|simp only[bne_self_eq_false,Bool.false_eq_true,if_false] | wp_step)
 exact hq
theorem CQ{eh:List Value}{R:Result->Shared->Prop} (hC:h.get? C=some (excClassObj nm q C N bs bm hdct sn sub ab col dd k0 k1 k2 k3 k5 "ValueError.__new__")) (hv:bm.contains (.type "ValueError")=true) (ha:bm.contains (.type "AttributeError")=false) (hn:bm.contains (.type "NameError")=false)
  (hz:eh.length≤sizeLine) (hq:R (.ok (.ret (.ref (h.objs.size+1)))) ⟨(h.push {cls:=.type "tuple",data:=.seq eh.toArray}).push {cls:=.ref C,data:=.fields #[.ref h.objs.size,.none,.none,.none,.bool false,.none] },g,d,t,os⟩) :
  codeAny (model prog w) A (.builtin "ValueError.__new__" ⟨.ref C::eh,[]⟩) R ⟨h,g,d,t,os⟩:=by
 have FB:=F.excBase_ValueError;have hends:=FB.ends;have c1:(Value.ref C::bm).contains (.type "ValueError")=true:=by rw[List.contains_cons,hv,Bool.or_true]
 have c2:(Value.ref C::bm).contains (.type "AttributeError")=false:=by rw[List.contains_cons,ha]; rfl
 have c3:(Value.ref C::bm).contains (.type "NameError")=false:=by rw[List.contains_cons,hn]; rfl
 refine codeAny_builtinAt FB.entry ?_;unfold Builtin.«BaseException.__new__»;refine PySem.wpAt_bind ?_;show PySem.wpAt _ _ _ (stack >>= _) _ _ _;refine PySem.wpAt_bind (PySem.wpAt_stack λp below=>PySem.wpAt_of_wpAny ?_)
 wp_walk
 refine PySem.wpAt_of_wpAny ?_;rw[FB.owner]
 repeat (first|with_reducible refine wpAny_madeHere_exc FB.canon hC ?_|with_reducible refine wpAny_loadPart_at hC ?_|(with_reducible refine wpAny_isSubtype_exc hC ?_;first|rw[c1] | rw[c2] | rw[c3])|wp_step)
 show R _ _;rw[Heap.size_push];exact hq
theorem Kh{K:Frag}{fI:Addr}{eh:List Value}{Q:Value->Shared->Prop}(X:K.In h)(M:NM K C fI)(hz:eh.length≤sizeLine)
  (hq:∀ h' e,Heap.MadeExcOf h h' e (.ref C) eh->h.objs.size≤e->wpAny (model prog w) (A.under (.builtin "type.__call__" ⟨.ref C::eh,[]⟩)) (call (.ref fI) (.ref e::eh)) (λr s'=>r=.none/\Q (.ref e) s') E ⟨h',g,d,t,os⟩) :
  wpAny (model prog w) A (call (.ref C) eh) Q E ⟨h,g,d,t,os⟩:=by
 obtain⟨nm,q,N,bs,bm,hdct,sn,sub,ab,col,dd,k0,k1,k2,k3,k5,hK,b1,b2,b3⟩:=M.ex;have hC:=X _ _ hK;have FB:=F.excBase_ValueError;have f1:=tc_lookup;have f2:=tc_bind (.ref C);have hT:(⟨h,g,d,t,os⟩:Shared).TypeIs (.ref C) "type":=⟨_,hC,rfl⟩;refine wpAny_call (codeAny_of_tree ?_);show wpAny _ _ (callAny (.ref C) _) _ _ _
 repeat (any_goals (first|assumption|with_reducible refine wpAny_loadPart_at hC ?_|wp_step))
 refine⟨rfl,?_⟩;refine codeAny_call_builtin_at (Code.quiet_builtin _ (by decide +kernel)) entry_typeCall (wpAny_check_type_call_sub hC ?_)
 repeat (first|with_reducible refine wpAny_loadPart_at hC ?_|with_reducible refine wpAny_madeBy_exc hC ?_|wp_step)
 refine codeAny_call_builtin_code (Code.quiet_builtin _ FB.quiet) (yR hC b1 ?_);refine CQ hC b1 b2 b3 hz ?_;have kp:∀ b o,h.get? b=some o->((h.push {cls:=.type "tuple",data:=.seq eh.toArray}).push {cls:=.ref C,data:=.fields #[.ref h.objs.size,.none,.none,.none,.bool false,.none] }).get? b=some o:=λb o e=>Heap.get?_push_of_some _ (Heap.get?_push_of_some _ e);have hC1:=kp _ _ hC;have X1:K.In _:=X.keeps kp;have hg:((h.push {cls:=.type "tuple",data:=.seq eh.toArray}).push {cls:=.ref C,data:=.fields #[.ref h.objs.size,.none,.none,.none,.bool false,.none] }).get? (h.objs.size+1)=some {cls:=.ref C,data:=.fields #[.ref h.objs.size,.none,.none,.none,.bool false,.none] }:=by heap_get
 have cC:(Value.ref C::bm).contains (.ref C)=true:=by simp
 show wpAny _ _ _ _ _ ⟨(h.push {cls:=.type "tuple",data:=.seq eh.toArray}).push {cls:=.ref C,data:=.fields #[.ref h.objs.size,.none,.none,.none,.bool false,.none] },g,d,t,os⟩;unfold isInstance
 repeat (first|with_reducible refine wpAny_loadPart_at hg ?_|(with_reducible refine wpAny_isSubtype_exc hC1 ?_;rw[cC])|wp_step)
 have L1:=looks_findIn (M:=model prog w) X1 M.init;have L2:=bind_fn (M:=model prog w) X1 (.ref (h.objs.size+1)) M.fn;show wpAny _ _ (typeLookup (.ref C) _) _ _ _;refine L1.at (wpAny_holding (wpAny_bind (L2.at ?_)));refine wpAny_bind (wpAny_mono (hq _ (h.objs.size+1) ⟨kp,Heap.get?_none_of_le (Nat.le_succ _),h.objs.size,hg,Heap.get?_none_of_le (Nat.le_refl _),Heap.get?_push_of_some _ (Heap.get?_push_at rfl rfl)⟩ (Nat.le_succ _)) (λr s' hr=>?_) λ_ _ x=>x);obtain⟨rfl,hQ⟩:=hr
 wp_walk
 exact hQ
end
section
variable{prog:Program}{w:World}{A:Around}{E:Value->Shared->Prop}{s:Shared}{K:Frag}{c:Str}{C L:Addr}{cd:ClassData}{env:Env}
structure NO (h:Heap) (e:Addr) (cls:Value) (dx T:Option Addr):Prop where
 ex:∃vs sl,h.get? e=some ⟨cls,dx,.fields vs,sl⟩/\1<vs.size/\(match T with
  |none=>vs[1]?=some .none
  |some t=>vs[1]?=some (.ref t)/\t≠e/\∃ot ts,h.get? t=some ot/\ot.data=.fields ts/\ts[3]?=some .none)
theorem Iz{x:Sem Value}{Q:Flow->Shared->Prop}(S:mr K c C L cd)(hh:A.handled=none)
  (h:wpAny (model prog w) A x (λv s1=>∃e dx,v=.ref e/\K.In s1.heap/\NO s1.heap e (.ref C) dx none/\E (.ref e) s1) E s):wpAny (model prog w) A (raiseStmt env (some x) none) Q E s:=by
 unfold raiseStmt;refine wpAny_bind (wpAny_mono h (λv s1 h1=>?_) λ_ _ z=>z);obtain⟨e,dx,rfl,X,⟨vs,sl,he,hz,h1⟩,hE⟩:=h1;obtain⟨hp,g,d,tk,os⟩:=s1;have h1:vs[1]?=some .none:=h1;have he:hp.get? e=some ⟨.ref C,dx,.fields vs,sl⟩:=he;obtain⟨oc,odc,slc,hK⟩:=oC S.cls;have hC:hp.get? C=some ⟨oc,odc,.cls cd,slc⟩:=X _ _ hK;have hoc:oc=.type "type":=by have z:(K.lookup C).map (·.cls)=some (.type "type"):=S.ty;rw[hK]at z;exact Option.some.inj z
 subst hoc;have Lb:=S.isT (M:=model prog w) X "BaseException";have eb:(["ValueError","Exception","BaseException","object"]:List String).contains "BaseException"=true:=by decide
 rw[eb]at Lb
 repeat (first|with_reducible refine wpAny_loadPart_at he ?_|with_reducible refine wpAny_loadPart_at hC ?_|with_reducible refine Lb.at ?_|with_reducible refine wpAny_field he rfl h1 ?_|wp_step)
 exact wpAny_raiseNew_none hh hE
theorem ID{base:Heap}{outer:List Env}{F e:Addr}{cls:Value}{dx T:Option Addr}{Q:Unit->Shared->Prop}
  (hfr:A.frames=some (env::outer)) (hl:s.heap.FunFrames base (env::outer)) (hf:env.frame=some F) (fl:NO s.heap e cls dx T)
  (hq:∀h' T',NO h' e cls dx (some T')->s.heap.objs.size≤T'->(∀b o,b≠e->some b≠T->b∉Mq (env::outer)->s.heap.get? b=some o->h'.get? b=some o) ->
   (∀b o,b≠e->some b≠T->s.heap.get? b=some o->∃sl,h'.get? b=some {o with slots:=sl})->Q () {s with heap:=h' }) :
  wpAny (model prog w) A (noteFrame (.ref e) env) (λ_ s2=>wpAny (model prog w) A (setFlight (.ref e) none) Q E s2) E s:=by
 obtain⟨vs,sl,he,hz,hT⟩:=fl;have nof:∀b o vs',s.heap.get? b=some o->o.data=.fields vs'->b∉Mq (env::outer):=λb o vs' hb hd hm=>by obtain⟨_,o',ho',hn'⟩:=hl.mem hm;rw[hb]at ho';cases ho';exact hn' _ hd
 have entry:∀(s1:Shared)(vs1:Array Value)(head:Value)(hn:Bool),s1.heap.get? e=some ⟨cls,dx,.fields vs1,sl⟩->1<vs1.size->s1.heap.FunFrames base (env::outer) ->
   (∀b o,b≠e->some b≠T->s.heap.get? b=some o->s1.heap.get? b=some o)->s1.heap.objs.size=s.heap.objs.size->s1={s with heap:=s1.heap} ->
   wpAny (model prog w) A (do let a ← frameOf env;let pl ← entryPlaceOf F hn;let b ← EntryCells.newEntry head a .none (rawInt F) .none pl;setField (.ref e) 1 b) (λ_ s2=>wpAny (model prog w) A (setFlight (.ref e) none) Q E s2) E s1:=by
  intro s1 vs1 head hn he1 hz1 hl1 kp sz es;have nof1:∀b o vs',s1.heap.get? b=some o->o.data=.fields vs'->b∉Mq (env::outer):=λb o vs' hb hd hm=>by obtain⟨_,o',ho',hn'⟩:=hl1.mem hm;rw[hb]at ho';cases ho';exact hn' _ hd
  refine wpAny_bind (wpAny_frameOf_fun hfr hl1 hf λh1 hs1=>?_);refine wpAny_bind (wpAny_entryPlaceOf λpl hpl=>?_);unfold EntryCells.newEntry newFields;refine wpAny_bind (wpAny_newObj_type ?_ (hpl.sizeOk5 _ _ _ _ _))
  generalize hob:({cls:=.type "traceback",dict:=none,data:=.fields ([head,Value.ref F,.none,rawInt F,.none]++(if pl.isEmpty then List.replicate 6 Value.none else pl)).toArray}:Obj)=ob
  have hod:∃ts,ob.data=.fields ts/\3<ts.size:=by subst hob;exact⟨_,rfl,by simp only[List.size_toArray,List.length_append,List.length_cons,List.length_nil];omega⟩
  obtain⟨ts,hod,hts⟩:=hod;have he2:h1.get? e=some ⟨cls,dx,.fields vs1,sl⟩:=(hs1.2.1 e (nof1 _ _ _ he1 rfl)).trans he1;have he3:=Heap.get?_push_of_some (h:=h1) ob he2;have ne:h1.objs.size≠e:=Nat.ne_of_gt (Heap.lt_size he2);refine wpAny_setField he3 rfl hz1 ?_;have he4:=Heap.get?_update_self (Obj.mapFields (·.setIfInBounds 1 (Value.ref h1.objs.size))) he3 rfl;have hT4:=(Heap.get?_update_other (h1.push ob) (Obj.mapFields (·.setIfInBounds 1 (Value.ref h1.objs.size))) (Ne.symm ne)).trans (Heap.get?_push_size h1 (by obtain⟨_,_,dt,_⟩:=ob;cases hod;rfl));unfold setFlight;refine wpAny_bind (wpAny_field he4 rfl (x:=.ref h1.objs.size) (by simp[hz1]) ?_);rw[if_pos (show(Value.ref h1.objs.size != Value.none)=true from by simp)];refine wpAny_setField hT4 hod hts ?_;rw[es];have keep:∀b o,b≠e->h1.get? b=some o->(((h1.push ob).update e (Obj.mapFields (·.setIfInBounds 1 (Value.ref h1.objs.size)))).update h1.objs.size (Obj.mapFields (·.setIfInBounds 3 ((none:Option Addr).elim Value.none λf=>rawInt f)))).get? b=some o:=λb o hb e1=>by rw[Heap.get?_update_other _ _ (Nat.ne_of_gt (Heap.lt_size e1)),Heap.get?_update_other _ _ (Ne.symm hb)];exact Heap.get?_push_of_some _ e1
  refine hq _ h1.objs.size ⟨vs1.setIfInBounds 1 (.ref h1.objs.size),sl,?_,by simpa using hz1,by simp[hz1],ne,_,_,Heap.get?_update_self _ hT4 (Obj.isFreed_of_fields (Obj.data_mapFields hod _)),Obj.data_mapFields hod _,by simp[hts]⟩ ?_ (λb o hb hbT hbf e1=>?_) λb o hb hbT e1=>?_
  · rw[Heap.get?_update_other _ _ ne];exact he4
  · rw[hs1.1,sz];exact Nat.le_refl _
  · exact keep b o hb ((hs1.2.1 b hbf).trans (kp b o hb hbT e1))
  · obtain⟨sl',e2⟩:=hs1.2.2 b o (kp b o hb hbT e1);exact⟨sl',keep b _ hb e2⟩
 unfold noteFrame;simp only[hf]
 cases T with
 | none =>
  refine wpAny_bind (wpAny_field he rfl hT ?_);rw[if_neg (by decide)];exact entry s vs .none _ he hz hl (λ_ _ _ _ e1=>e1) rfl rfl
 | some t =>
  obtain⟨h1,hte,ot,ts,ht,hdt,h3⟩:=hT;refine wpAny_bind (wpAny_field he rfl h1 ?_);rw[if_pos (show(Value.ref t != Value.none)=true from by simp)];refine wpAny_bind (wpAny_field ht hdt h3 ?_);rw[if_neg (show ¬((Value.none == rawInt F)=true)from by simp[rawInt])];refine wpAny_bind (wpAny_setField ht hdt (Array.getElem?_eq_some_iff.mp h3).1 ?_);have oth:∀b,b≠t->(s.heap.update t (Obj.mapFields (·.setIfInBounds 3 Value.none))).get? b=s.heap.get? b:=λb hb=>Heap.get?_update_other _ _ (Ne.symm hb);refine entry _ vs (.ref t) _ ((oth e (Ne.symm hte)).trans he) hz (hl.of_keeps λb o hb hnf=>⟨o,(oth b λq=>?_).trans hb,rfl⟩) (λb o hb hbT e1=>(oth b λq=>hbT (by rw[q])).trans e1) (by simp) rfl;rw[q,ht]at hb;cases hb;exact hnf ts hdt
theorem Ki{e T:Addr}{cls:Value}{dx:Option Addr}{Q:Unit->Shared->Prop}(fl:NO s.heap e cls dx (some T))
  (hq:∀h',NO h' e cls dx (some T)->(∀b o,b≠T->s.heap.get? b=some o->h'.get? b=some o)->Q () {s with heap:=h' }):wpAny (model prog w) A (setFlight (.ref e) none) Q E s:=by
 obtain⟨vs,sl,he,hz,h1,hte,ot,ts,ht,hdt,h3⟩:=fl;have hts:=(Array.getElem?_eq_some_iff.mp h3).1;unfold setFlight;refine wpAny_bind (wpAny_field he rfl h1 ?_);rw[if_pos (show(Value.ref T != Value.none)=true from by simp)];refine wpAny_setField ht hdt hts (hq _ ⟨vs,sl,?_,hz,h1,hte,_,_,Heap.get?_update_self _ ht (Obj.isFreed_of_fields (Obj.data_mapFields hdt _)),Obj.data_mapFields hdt _,by simp[hts]⟩ λb o hb e1=>?_)
 · rw[Heap.get?_update_other _ _ hte];exact he
 · rw[Heap.get?_update_other _ _ (Ne.symm hb)];exact e1
end
noncomputable def NN(H:Hp)(e:Addr):Hp:=λb=>if b=e then none else H b
theorem c9{H:Hp}{e b:Addr}(h:b≠e):NN H e b=H b:=by unfold NN;rw[if_neg h]
theorem lu{H:Hp}{e:Addr}:NN H e e=none:=by unfold NN;rw[if_pos rfl]
theorem nY{H:Hp}{e b:Addr}(h:H b=none):NN H e b=none:=by unfold NN;split;rfl;exact h
section
variable{X:Cx}{pins:List (Addr×Obj)}{σ:St}{H:Hp}{s:Shared}
theorem Mt.forget{e:Addr}{φ:Heap->Prop}(I:Mt X pins σ H s)(h:H e=some (.ext φ)):Mt X pins σ (NN H e) s:=by
 have ne:∀b o,H b=some o->(∀ψ,o≠.ext ψ)->b≠e:=λb o q n z=>by subst z;rw[h]at q;cases q;exact n _ rfl
 refine⟨I.ok,I.os,I.bare,⟨I.base.keep,I.base.slot,λb o e1 n hx=>nY (I.base.free b o e1 n hx),I.base.there,λb xs q=>?_,λb o u q=>?_,λb ps q=>?_⟩,I.loc,I.cell,nY I.free,λx c q=>(I.freeC x c q).imp nY fun⟨hf,o,z⟩=>⟨hf,o,by rw[c9 (ne c _ z λ_ q=>nomatch q)];exact z⟩,λp hp=>?_,λb u q=>?_,I.len⟩
 · have z:=I.base.tups b xs q;rw[c9 (ne b _ z λ_ q=>nomatch q)];exact z
 · have z:=I.base.frzs b o u q;rw[c9 (ne b _ z λ_ q=>nomatch q)];exact z
 · have z:=I.base.tbls b ps q;rw[c9 (ne b _ z λ_ q=>nomatch q)];exact z
 · obtain⟨a1,a2,a3⟩:=I.pin p hp;exact⟨a1,nY a2,a3⟩
 ·
  have hb:b≠e:=λz=>by subst z;rw[lu]at q;cases q
  rw[c9 hb]at q;exact(I.hok b u q).stay (λc v _ z=>z) (λc z=>by rw[c9 (ne c _ z λ_ q=>nomatch q)];exact z) (λc xs z=>by rw[c9 (ne c _ z λ_ q=>nomatch q)];exact z) λc ob _ _ z=>by rw[c9 (ne c _ z λ_ q=>nomatch q)];exact z
theorem Mt.track{e:Addr}{o:HO}(I:Mt X pins σ H s)(hn:H e=none)(h0:X.s₀.heap.objs.size≤e)(hL:e≠X.env.locals)(hc:∀x c,X.env.cells.lookup x=some c->c≠e)(hp:∀p∈X.pn++pins,p.1≠e)
  (new:c8 X.prog X.w (Ml H e o) s.heap e o):Mt X pins σ (Ml H e o) s:=by
 have ne:∀b u,H b=some u->b≠e:=λb u q z=>by subst z;rw[hn]at q;cases q
 refine⟨I.ok,I.os,I.bare,⟨I.base.keep,I.base.slot,λb u e1 n hx=>?_,I.base.there,λb xs q=>?_,λb u z q=>?_,λb ps q=>?_⟩,I.loc,I.cell,?_,λx c q=>?_,λp hq=>?_,λb u q=>?_,I.len⟩
 · rw[aC (λz=>by subst z;exact absurd (Heap.lt_size e1) (Nat.not_lt.mpr h0))];exact I.base.free b u e1 n hx
 · have z:=I.base.tups b xs q;rw[aC (ne b _ z)];exact z
 · have z:=I.base.frzs b _ _ q;rw[aC (ne b _ z)];exact z
 · have z:=I.base.tbls b ps q;rw[aC (ne b _ z)];exact z
 · rw[aC (Ne.symm hL)];exact I.free
 · rw[aC (hc x c q)];exact I.freeC x c q
 · obtain⟨a1,a2,a3⟩:=I.pin p hq;exact⟨a1,by rw[aC (hp p hq)];exact a2,a3⟩
 ·
  by_cases hb:b=e
  · subst hb;rw[bb]at q;cases q;exact new
  · rw[aC hb]at q;exact(I.hok b u q).stay (λc v _ z=>z) (λc z=>by rw[aC (ne c _ z)];exact z) (λc xs z=>by rw[aC (ne c _ z)];exact z) λc ob _ _ z=>by rw[aC (ne c _ z)];exact z
end
def NP(o:HO):Prop:=JG o/\Cn o
open Classical in
noncomputable def sM(H:Hp):Hp:=λb=>match H b with
 |some o=>if NP o then some o else none
 |none=>none
theorem iW{H:Hp}{b:Addr}(h:H b=none):sM H b=none:=by unfold sM;rw[h]
theorem bX{H:Hp}{b:Addr}{o:HO}(h:H b=some o)(v:NP o):sM H b=some o:=by unfold sM;rw[h];exact if_pos v
theorem F5{H:Hp}{b:Addr}{o:HO}(h:sM H b=some o):H b=some o/\NP o:=by
 unfold sM at h;split at h
 ·
  rename_i u e;split at h
  · rename_i v;cases h;exact⟨e,v⟩
  · cases h
 · cases h
theorem F6{H:Hp}{b:Addr}{o:HO}(h:H b=some o)(v:¬NP o):sM H b=none:=by unfold sM;rw[h];exact if_neg v
theorem c8.stayN{P:Program}{w:World}{H H':Hp}{h h':Heap}{a:Addr}:∀{o:HO},Cn o->c8 P w H h a o->(∀u,h.get? a=some u->h'.get? a=some u)->(∀b xs,H b=some (.tup xs)->H' b=some (.tup xs))->(∀b o q,sP o q->H b=some (.frz o (.own b))->H' b=some (.frz o (.own b)))->c8 P w H' h' a o
 |.lst xs,_,x,k,_,_=>by obtain⟨z,its,n,r,e⟩:=x;exact⟨z,its,n,r,k _ e⟩
 |.tup xs,_,x,k,_,_=>by obtain⟨z,its,r,ob,e,c⟩:=x;exact⟨z,its,r,ob,k _ e,c⟩
 |.dK kvs,_,x,k,_,_=>by obtain⟨z,y,vs,r,ob,es,ep,e,c⟩:=x;exact⟨z,y,vs,r,ob,es,ep,k _ e,c⟩
 | .dT kvs,_,x,k,ht,_=>by obtain⟨z,y,xs,r,ob,es,ep,e,c⟩:=x;exact⟨z,y,xs,Paired.mapP r λp q z=>⟨z.1,ht _ _ z.2.1,z.2.2⟩,ob,es,ep,k _ e,c⟩
 |.set S n,_,x,k,_,_=>by obtain⟨ob,es,ep,t,e,c⟩:=x;exact⟨ob,es,ep,t,k _ e,c⟩
 |.ins C dx fs,n,_,_,_,_=>n.elim
 |.own y,_,x,k,_,_=>by obtain⟨ob,e⟩:=x;exact⟨ob,k _ e⟩
 |.xd fs,_,x,k,_,_=>by obtain⟨mA,⟨od,es,ep,e,c⟩,r⟩:=x;exact⟨mA,⟨od,es,ep,k _ e,c⟩,r⟩
 |.rng lo hi,_,x,k,_,_=>by obtain⟨t,u,v,e⟩:=x;exact⟨t,u,v,k _ e⟩
 |.frz ob u,n,x,k,ht,hf=>by obtain⟨e,q⟩:=x;exact⟨k _ e,c8.stayN (o:=u) n q k ht hf⟩
 | .tbl t,_,x,k,_,hf=>by
  obtain⟨ps,e,tr,m⟩:=x
  exact⟨ps,k _ e,tr,λpos cv z=>let ⟨c',oc,a1,a2,a3⟩:=m pos cv z;⟨c',oc,a1,hf _ _ _ a3 a2,a3⟩⟩
 | .met f y,_,x,k,_,_=>by have e:h.get? a=some (PySem.W.methodObj (.ref f) (.ref y)):=x;exact(k _ e:h'.get? a=some (PySem.W.methodObj (.ref f) (.ref y)))
 |.ext φ,_,x,k,_,_=>by obtain⟨p,⟨o,e⟩,st⟩:=x;exact⟨st _ _ p k,⟨o,k _ e⟩,st⟩
theorem vH(xs:List V):NP (.tup xs):=⟨True.intro,True.intro⟩
theorem AG(q:Str):NP (.tbl q):=⟨True.intro,True.intro⟩
theorem nZ(o:Obj)(y:Addr):NP (.frz o (.own y)):=⟨True.intro,True.intro⟩
section
variable{X:Cx}{pins:List (Addr×Obj)}{σ:St}{H H':Hp}{s s':Shared}
theorem Mt.hide(I:Mt X pins σ H s):DZ X.prog X.w X.K X.mg X.base X.A X.stack s (sM H):=by have e0:=I.env0;refine⟨e0.frames,e0.mod,λb o e=>⟨(e0.bs b o e).1,iW (e0.bs b o e).2⟩,e0.bsz,e0.funs,λb hb=>iW (e0.frf b hb),λb o e=>?_,e0.bare,λx hx c P e=>bX (e0.tbs x hx c P e) (AG _)⟩;obtain⟨e1,v⟩:=F5 e;exact c8.stayN v.2 (e0.hok b o e1) (λ_ z=>z) (λc xs z=>bX z (vH xs)) λc ob _ _ z=>bX z (nZ ob c)
open Classical in
noncomputable def NQ(H H':Hp):Hp:=λb=>match H' b with
 |some o=>some o
 |none=>H b
theorem eE{b:Addr}{o:HO}(h:H' b=some o):NQ H H' b=some o:=by unfold NQ;rw[h]
theorem n4{b:Addr}(h:H' b=none):NQ H H' b=H b:=by unfold NQ;rw[h]
theorem Mt.unhide(I:Mt X pins σ H s)(ho:s'.os=s.os)(hg:AllBare s'.gens)(u:Un (Mq X.stack) [] (sM H) H' s.heap s'.heap)(hok:Mm X.prog X.w H' s'.heap) :
  Mt X pins σ (NQ H H') s'/\(∀b o,H b=some o->NQ H H' b=some o)/\(∀b o,H' b=some o->sM H b=none->H b=none):=by
 have gone:∀b o,H b=some o->¬NP o->sM H b=none/\H' b=none:=λb o e v=>by
  have z:=F6 e v
  obtain⟨ob,hb⟩:∃ob,s.heap.get? b=some ob:=by
   cases q:s.heap.get? b with
   |some ob=>exact⟨ob,rfl⟩
   | none =>
    exfalso
    cases o with
    |lst xs=>obtain⟨_,_,_,_,e⟩:=I.hok b _ e;rw[q]at e;cases e
    |tup xs=>exact v (vH xs)
    |dK kvs=>obtain⟨_,_,_,_,o,_,_,e,_⟩:=I.hok b _ e;rw[q]at e;cases e
    |dT kvs=>obtain⟨_,_,_,_,o,_,_,e,_⟩:=I.hok b _ e;rw[q]at e;cases e
    |set S n=>obtain⟨o,_,_,_,e,_⟩:=I.hok b _ e;rw[q]at e;cases e
    |ins C dx fs=>obtain⟨_,_,_,e,_⟩:=I.hok b _ e;rw[q]at e;cases e
    |own y=>obtain⟨_,e⟩:=I.hok b _ e;rw[q]at e;cases e
    |xd fs=>obtain⟨_,⟨_,_,_,e,_⟩,_⟩:=I.hok b _ e;rw[q]at e;cases e
    |rng lo hi=>obtain⟨_,_,_,e⟩:=I.hok b _ e;rw[q]at e;cases e
    |frz ob u=>obtain⟨e,_⟩:=I.hok b _ e;rw[q]at e;cases e
    |tbl t=>exact v (AG t)
    |met f y=>have e:=(show s.heap.get? b=some _ from I.hok b _ e);rw[q]at e;cases e
    |ext φ=>obtain⟨_,⟨_,e⟩,_⟩:=I.hok b _ e;rw[q]at e;cases e
  exact⟨z,u.free b ob hb z (by simp)⟩
 have ext:∀b o,H b=some o->NQ H H' b=some o:=λb o e=>by
  by_cases v:NP o
  ·
   have z:=bX e v
   cases o with
   |tup xs=>exact eE (u.tups b xs z)
   |frz ob w=>exact eE (u.frzs b ob w z)
   |tbl t=>exact eE (u.tbls b t z)
   |_=>exact v.1.elim
  · rw[n4 (gone b o e v).2];exact e
 have back:∀b o,H' b=some o->sM H b=none->H b=none:=λb o e z=>by
  cases q:H b with
  |none=>rfl
  | some o' =>
   by_cases v:NP o'
   · rw[bX q v]at z;cases z
   · rw[(gone b o' q v).2]at e;cases e
 have hok2:Mm X.prog X.w (NQ H H') s'.heap:=λb o e=>by
  unfold NQ at e;split at e
  · rename_i o' q;cases e;exact(hok b _ q).stay (λc w _ z=>z) (λc z=>eE z) (λc xs z=>eE z) λc ob _ _ z=>eE z
  ·
   rename_i q
   have nv:¬NP o:=λv=>by
    have z:=bX e v
    cases o with
    |tup xs=>rw[u.tups b xs z]at q;cases q
    |frz ob w=>rw[u.frzs b ob w z]at q;cases q
    |tbl t=>rw[u.tbls b t z]at q;cases q
    |_=>exact v.1.elim
   have keepT:∀c o',H c=some o'->¬NP o'->∀w,s.heap.get? c=some w->s'.heap.get? c=some w:=λc o' e' v' w hw=>by refine u.keep c w hw (gone c o' e' v').1 (λhm=>?_) (by simp);have:=I.stkFree c hm;rw[e']at this;cases this
   refine(I.hok b o e).stay (λc w hc z=>?_) (λc z=>ext c _ z) (λc xs z=>ext c _ z) λc ob _ _ z=>ext c _ z;rcases hc with rfl|hc
   · exact keepT c o e nv w z
   · exact keepT c _ hc (λv=>v.1) w z
 refine⟨I.call' (ch:=[]) ho ⟨λb o e n hf hx=>u.keep b o e (iW n) hf hx,λb o e n hf hx=>u.slot b o e (iW n) hf hx,λb o e n hx=>?_,u.there,λb xs e=>ext b _ e,λb o w e=>ext b _ e,λb ps e=>ext b _ e⟩ hok2 hg (λb z=>absurd z (by simp)),ext,back⟩;rw[n4 (u.free b o e (iW n) hx)];exact n
end
section
variable{K:Frag}{Pr H H':Hp}{σ:St}{ρ:Ev}
theorem aA.exten(E:aA K Pr H σ ρ)(h:∀b o,H b=some o->H' b=some o):aA K Pr H' σ ρ :=
 ⟨λb o e=>h b o (E.sub b o e),E.nd,E.off,Paired.impMem E.sl λl hl s q=>q.pres (λb u _ e=>h b u e) l λa e=>by
  obtain⟨vs,e,_⟩:=E.at_own (gy.mpr ⟨l,hl,e⟩)
  rw[h _ _ e,e]⟩
end
mutual
theorem M7.hid{K:Frag}{H:Hp}:∀{v:V}{d:D},M7 K H v d->M7 K (sM H) v d
 |_,_,.non=>.non
 |_,_,.bl b=>.bl b
 |_,_,.int i=>.int i
 |_,_,.str x=>.str x
 | _,_,.tup h r=>.tup (by
   rcases h with(h|⟨o,h⟩)|h
   ·
    exact .inl (.inl (bX h (vH _)))
   ·
    exact .inl (.inr ⟨o,bX h ⟨True.intro,True.intro⟩⟩)
   ·
    exact .inr h) (b7.hid r)
 | _,_,.lst h r=>.lst (by
   rcases h with⟨o,h⟩|h
   ·
    exact .inl ⟨o,bX h ⟨True.intro,True.intro⟩⟩
   ·
    exact .inr h) (b7.hid r)
 |_,_,.dct h=>.dct (bX h ⟨True.intro,True.intro⟩)
 | _,_,.exc h hv hc hn hs hq hf r=>.exc (bX h ⟨True.intro,hv⟩) hv hc hn hs hq (by
   rcases hf with hf|⟨d,od,e,h,l⟩
   ·
    exact .inl hf
   ·
    exact .inr ⟨d,od,e,bX h ⟨True.intro,True.intro⟩,l⟩) (b7.hid r)
 |_,_,.fn hl hf hq hc hz hd hv hm r=>.fn hl (bX hf (nZ _ _)) (bX hq (nZ _ _)) hc (bX hz (nZ _ _)) hd hv hm (M7.hid r)
theorem b7.hid{K:Frag}{H:Hp}:∀{vs:List V}{ds:List D},b7 K H vs ds->b7 K (sM H) vs ds
 |_,_,.nil=>.nil
 |_,_,.cons h t=>.cons (M7.hid h) (b7.hid t)
end
theorem Kj:typeOf (.type "ValueError")=pure (.type "type"):=kitMeta_of (by decide +kernel)
theorem Kk:Manifest.isStub "ValueError"=false:=by decide +kernel
theorem Kl:handedIn (.builtin "ValueError.__init__")=true:=by decide +kernel
theorem AH(K:Frag):findCls K (.type "ValueError") (.type "type") "__init__"=some (.val (.builtin "ValueError.__init__")):=by kernel_rfl
theorem NO.at{h h':Heap}{e:Addr}{cls:Value}{dx:Option Addr}(f:NO h e cls dx none)(k:∀o,h.get? e=some o->h'.get? e=some o):NO h' e cls dx none:=by obtain⟨vs,sl,he,hz,h1⟩:=f;exact⟨vs,sl,k _ he,hz,h1⟩
noncomputable def XO(e:Addr)(cls:Value)(dx:Option Addr):HO:=.ext λh=>NO h e cls dx none
noncomputable def XD(d:Addr)(fs:List (Str×V)):HO:=.ext λh=>∃mA,h.Ns1 d mA/\(∀f,B8 (fs.lookup f) (mA f))/\PySem.Within mA (fs.map (·.1))
theorem XO.ok{P:Program}{w:World}{H:Hp}{h:Heap}{e:Addr}{cls:Value}{dx:Option Addr}(f:NO h e cls dx none):c8 P w H h e (XO e cls dx):=by obtain⟨vs,sl,he,hz,h1⟩:=f;exact⟨⟨vs,sl,he,hz,h1⟩,⟨_,he⟩,λh1 h2 p k=>p.at k⟩
theorem XD.ok{P:Program}{w:World}{H:Hp}{h:Heap}{d:Addr}{fs:List (Str×V)}{mA:Str->Option Value}(n:h.Ns1 d mA)(r:∀f,B8 (fs.lookup f) (mA f))(wi:PySem.Within mA (fs.map (·.1))):c8 P w H h d (XD d fs) :=
 ⟨⟨mA,n,r,wi⟩,let ⟨o,_,_,e,_⟩:=n;⟨o,e⟩,λh1 h2 ⟨mA,n,r⟩ k=>⟨mA,n.at k,r⟩⟩
theorem IE{H:Hp}{a:Addr}{o:HO}(h:H a=some o):Ml H a o=H:=by
 funext b;unfold Ml;split
 · rename_i e;rw[e,h]
 · rfl
section
variable{X:Cx}{pins:List (Addr×Obj)}{σ:St}{H:Hp}{s:Shared}
theorem Mt.xo{e:Addr}{cls:Value}{dx:Option Addr}(I:Mt X pins σ H s)(h:H e=some (XO e cls dx)):NO s.heap e cls dx none:=(I.hok e _ h).1
theorem Mt.xd{d:Addr}{fs:List (Str×V)}(I:Mt X pins σ H s)(h:H d=some (XD d fs)):∃mA,s.heap.Ns1 d mA/\(∀f,B8 (fs.lookup f) (mA f))/\PySem.Within mA (fs.map (·.1)):=(I.hok d _ h).1
theorem NO.inst{h:Heap}{e C:Addr}{dx T:Option Addr}(f:NO h e (.ref C) dx T)(hd:∀d,dx=some d->∃o,h.get? d=some o):∃vs sl od,InstAt h e ⟨.ref C,dx,.fields vs,sl⟩ C od/\1<vs.size:=by
 obtain⟨vs,sl,he,hz,_⟩:=f
 cases dx with
 |none=>exact⟨vs,sl,none,⟨he,rfl,rfl,trivial⟩,hz⟩
 | some d =>
  obtain⟨o,ho⟩:=hd d rfl;exact⟨vs,sl,some o,⟨he,rfl,rfl,ho⟩,hz⟩
end
section
variable{X:Cx}{a b:Expr}{p1 p2 pos:Pos}{t:TA}
def xx(K:Frag)(t:TA):TE:=λσ H Q=>t σ H λvs H1=>∃e tx c C L cd,vs=[.ref e,tx]/\H1 e=some (XO e (.ref C) none)/\mr K c C L cd/\Q .non H1
theorem CS{pl:Sem Bool} (hg:Gl X "ValueError") (hm:X.mg "ValueError"=none) (ha:PA X [a,b] t) (hs:starEach [a,b] X.env=(false,eval a X.env)::starEach [b] X.env:=by rfl) (hpl:(backTo pos (starEach [b] X.env)).any (·.1)=false:=by rfl)
  (ht:eval (.Call (.Attribute (.Name "ValueError" p1) "__init__" p2) [a,b] [] pos) X.env=(do
   let ov ← eval (.Name "ValueError" p1) X.env
   standAt p2.atName
   let (f,first) ← holding [ov] (getMethod ov "__init__" pl)
   callWith pos f first (backTo pos (starEach [a,b] X.env)) (backToKw pos (keywordEach [] X.env))):=by rfl) :
  PE X (.Call (.Attribute (.Name "ValueError" p1) "__init__" p2) [a,b] [] pos) (xx X.K t):=by
 intro pins s σ H Q I h;refine methodCall_KW (m5 I hg hm (show bootBuiltins "ValueError"=some (.type "ValueError") by decide +kernel) ?_) ht;obtain⟨m,F⟩:=I.fr;have k4:=AH X.K;refine @method_type _ _ _ _ _ X.K _ _ _ _ _ _ _ _ F I.ok.mod.kin Kj Kk k4 Kl ?_;have I1:=I.tok (s.toks+1);have hA:=ha pos pins _ σ H _ I1 h;rw[hs]at hA ⊢;refine Calls.callWith_builtin (by show(false ||(backTo pos (starEach [b] X.env)).any (·.1))=false;rw[hpl]<;>rfl) (Calls.evalArgs_plain (Mv hA λus s2 ⟨vs,H2,I2,r,e,tx,c,C,L,cd,ev,he,S,q⟩=>?_));subst ev;obtain⟨u1,u2,rfl,r1,r2⟩:=yp r;cases r1;obtain⟨vs,sl,od,Ia,hz⟩:=(I2.xo he).inst (λd z=>nomatch z);refine J4 S I2.kIn Ia rfl (by omega) λt'=>⟨.non,H2,?_,rfl,q⟩;have hx1:=Heap.get?_push_of_some (h:=s2.heap) {cls:=.type "tuple",data:=.seq #[u2] } Ia.at_;have z:=I2.write (x:=e) (e:=e) (o:=XO e (.ref C) none) (h':=(s2.heap.push {cls:=.type "tuple",data:=.seq #[u2] }).update e (Obj.mapFields (·.setIfInBounds 0 (.ref s2.heap.objs.size)))) (t':=t') (by rw[he]; exact True.intro) (.inl rfl) (λb u hb e1=>(Heap.get?_update_other _ _ (Ne.symm hb)).trans (Heap.get?_push_of_some _ e1)) ⟨_,Heap.get?_update_self _ hx1 rfl⟩ (XO.ok ?_)
 · rw[IE he]at z;exact z
 · obtain⟨vs',sl',he',hz',h1'⟩:=I2.xo he;have e2:=Ia.at_.symm.trans he';cases e2;refine⟨vs.setIfInBounds 0 (.ref s2.heap.objs.size),sl,Heap.get?_update_self _ hx1 rfl,by simpa using hz',?_⟩;show(vs.setIfInBounds 0 _)[1]?=some .none;rw[Array.getElem?_setIfInBounds_ne (by decide)];exact h1'
noncomputable def JK(K:Frag):Sp:=λvs H Q _=>∃e tx c C L cd,vs=[.ref e,tx]/\H e=some (XO e (.ref C) none)/\mr K c C L cd/\Q .non H
structure AI (K:Frag) (mg:Str->Option Value) (L fL:Addr) (fd:FuncData) (st:Stmt):Prop where
 m:mg "LoadError"=some (.ref L)
 rd:readsIn K L (.type "type")=true
 sg:specialIn K (.ref L) "__getattribute__"=some (some (.builtin "type.__getattribute__"))
 fc:findCls K (.ref L) (.type "type") "__init__"=some (.val (.ref fL))
 f:M5 K "__init__" "LoadError.__init__" st fL fd
 b:mq K fd ["self","text"] []
theorem CT{pl:Sem Bool}{k L fL:Addr}{fd:FuncData}{st:Stmt}(T:AI X.K X.mg L fL fd st) (F:FnOk X.prog X.w X.K X.mg X.base CX0 k fL fd ["self","text"] (JK X.K)) (hr:iI k X.A) (hg:Gl X "LoadError") (ha:PA X [a,b] t)
  (hs:starEach [a,b] X.env=(false,eval a X.env)::starEach [b] X.env:=by rfl) (hpl:(backTo pos (starEach [b] X.env)).any (·.1)=false:=by rfl)
  (ht:eval (.Call (.Attribute (.Name "LoadError" p1) "__init__" p2) [a,b] [] pos) X.env=(do
   let ov ← eval (.Name "LoadError" p1) X.env
   standAt p2.atName
   let (f,first) ← holding [ov] (getMethod ov "__init__" pl)
   callWith pos f first (backTo pos (starEach [a,b] X.env)) (backToKw pos (keywordEach [] X.env))):=by rfl) :
  PE X (.Call (.Attribute (.Name "LoadError" p1) "__init__" p2) [a,b] [] pos) (xx X.K t):=by
 intro pins s σ H Q I h;refine methodCall_KW (iH I hg T.m ?_) ht;refine method_cls I.kIn T.sg (cls_read I.kIn T.rd T.fc (wpAny_pure ?_));have k3:handedIn (.ref fL)=true:=rfl;show wpAny _ _ (handedOut (.ref fL)) _ _ _;rw[handedOut_of k3];refine wpAny_pure ?_;have I1:=I.tok (s.toks+1);refine callWith_K (h₀:=X.base) I.ok.mod.kin T.f.kp (Mv (ha pos pins _ σ H _ I1 h) λus s1 ⟨vs,H1,I2,r,q⟩=>⟨I2.kIn,?_⟩) hs hpl;refine zL F hr T.b .nil Ff I2 r ?_;rw[List.append_nil];exact q
def IF(K:Frag)(ta tv:TE)(f:Str):TS:=λD σ H=>tv σ H λy H1=>ta σ H1 λx H2=>∃e c C L cd,x=.ref e/\mr K c C L cd/\findIn K (.ref C) f=some none /\
 ((H2 e=some (XO e (.ref C) none)/\∀d,H2 d=none->d≠e->D.nx σ (Ml (Ml H2 d (XD d [(f,y)])) e (XO e (.ref C) (some d)))) ∨
  ∃d fs,H2 e=some (XO e (.ref C) (some d))/\H2 d=some (XD d fs)/\fs.lookup f=none/\fs.length≤900/\D.nx σ (Ml H2 d (XD d (fs++[(f,y)]))))
theorem qk{α:Type}{f g:Str}{y:α}:∀{fs:List (Str×α)},fs.lookup f=none->(fs++[(f,y)]).lookup g=if g=f then some y else fs.lookup g
 | [],_=>by
  by_cases h:g=f
  · subst h;simp
  · have:(g == f)=false:=beq_eq_false_iff_ne.mpr h;simp[List.lookup,this,h]
 | (k,v)::fs,h=>by
  have h':(f == k)=false/\fs.lookup f=none:=by
   cases e:(f == k)with
   |true=>simp[List.lookup,e]at h
   |false=>exact⟨rfl,by simpa[List.lookup,e]using h⟩
  have ih:=qk (g:=g) (y:=y) h'.2
  cases e:(g == k)with
  | true =>
   have:g≠f:=λz=>by subst z;rw[h'.1]at e;cases e
   simp[List.lookup,e,this]
  | false =>
   simp only[List.cons_append,List.lookup,e];exact ih
theorem F7{o value:Expr}{f:Str}{pos':Pos}{ta tv:TE}(ha:PE X o ta)(hv:PE X value tv)(hs:swapsWith value (some (.Attribute o f pos')) pos.line X.env=pure false:=by rfl):PS X (.Assign [.Attribute o f pos'] value pos) (IF X.K ta tv f):=by
 intro pins s σ H D I h;refine plainObj_wpAny_Assign_Attribute (Mv (hv pins s σ H _ I h) λu s1 ⟨y,H1,I1,ry,q⟩=>Mv (ha pins s1 σ H1 _ I1 q) λov s2 ⟨x,H2,I2,rx,e,c,C,L,cd,ex,S,hf,q2⟩=>?_) hs;subst ex;obtain rfl:ov=Value.ref e:=rx;rcases q2 with⟨he,q2⟩|⟨d,fs,he,hd,hl,hz,q2⟩
 ·
  obtain⟨vs,sl,od,Ia,hz⟩:=(I2.xo he).inst (λd z=>nomatch z);have dn:H2 s2.heap.objs.size=none:=I2.hok.fresh (Nat.le_refl _);have dne:s2.heap.objs.size≠e:=Nat.ne_of_gt (Heap.lt_size Ia.at_);refine Co S I2.kIn Ia rfl hf λh' tk e1 n1 k1=>⟨σ,_,?_,q2 s2.heap.objs.size dn dne⟩
  have hd1:c8 X.prog X.w (Ml (Ml H2 s2.heap.objs.size (XD s2.heap.objs.size [(f,y)])) e (XO e (.ref C) (some s2.heap.objs.size))) h' s2.heap.objs.size (XD s2.heap.objs.size [(f,y)]):=by
   refine XD.ok n1 (λg=>?_) λg hg=>?_
   ·
    by_cases z:g=f
    · subst z;simp[B8,ry]
    · have:(g == f)=false:=beq_eq_false_iff_ne.mpr z;simp[List.lookup,this,z,B8]
   ·
    by_cases z:g=f
    · simp[z]
    · simp[z]at hg
  obtain⟨vs0,sl0,he0,hz0,h10⟩:=I2.xo he;have e2:=Ia.at_.symm.trans he0;cases e2;have ho1:c8 X.prog X.w (Ml (Ml H2 s2.heap.objs.size (XD s2.heap.objs.size [(f,y)])) e (XO e (.ref C) (some s2.heap.objs.size))) h' e (XO e (.ref C) (some s2.heap.objs.size)):=XO.ok ⟨vs,sl,e1,hz0,h10⟩;have tr:∀b o,H2 b=some o->b≠e->Ml (Ml H2 s2.heap.objs.size (XD s2.heap.objs.size [(f,y)])) e (XO e (.ref C) (some s2.heap.objs.size)) b=some o:=λb o q hb=>by rw[aC hb,aC (ba q dn)];exact q
  have nx:∀b o,H2 b=some o->(∀ψ,o≠.ext ψ)->b≠e:=λb o q n z=>by subst z;rw[he]at q;cases q;exact n _ rfl
  refine I2.un ⟨λb o hb n _ _=>k1 b o (λz=>by subst z;rw[he]at n;cases n) hb,λb o hb n _ _=>⟨o.slots,k1 b o (λz=>by subst z;rw[he]at n;cases n) hb⟩,λb o hb n _=>?_,λb o hb _=>?_,λb xs q=>tr b _ q (nx b _ q λ_ z=>nomatch z),λb o' u' q=>tr b _ q (nx b _ q λ_ z=>nomatch z),λb ps q=>tr b _ q (nx b _ q λ_ z=>nomatch z)⟩ λb o q=>?_
  · rw[aC (λz=>by subst z;rw[he]at n;cases n),aC (Nat.ne_of_lt (Heap.lt_size hb))];exact n
  ·
   by_cases z:b=e
   · subst z;exact⟨_,e1⟩
   · exact⟨o,k1 b o z hb⟩
  ·
   by_cases hb:b=e
   · subst hb;rw[bb]at q;cases q;exact ho1
   ·
    by_cases hb2:b=s2.heap.objs.size
    · subst hb2;rw[aC hb,bb]at q;cases q;exact hd1
    ·
     rw[aC hb,aC hb2]at q;refine(I2.hok b o q).stay (λc v hc z=>k1 c v ?_ z) (λc z=>tr c _ z (nx c _ z λ_ z=>nomatch z)) (λc xs z=>tr c _ z (nx c _ z λ_ z=>nomatch z)) λc ob _ _ z=>tr c _ z (nx c _ z λ_ z=>nomatch z);rcases hc with rfl|hc
     · exact hb
     · exact nx c _ hc λ_ z=>nomatch z
 ·
  obtain⟨mA,nA,rA,wA⟩:=I2.xd hd;obtain⟨od,_,_,hod,_⟩:=id nA;obtain⟨vs,sl,od',Ia,hz'⟩:=(I2.xo he).inst (λd' z=>by cases z;exact⟨od,hod⟩);refine Cp S I2.kIn Ia rfl nA wA (by rw[List.length_map];omega) hf λh' tk n1 sb=>⟨σ,_,?_,q2⟩
  refine I2.write (x:=d) (e:=d) (by rw[hd];exact True.intro) (.inl rfl) (λb u hb e1=>(sb.2 b hb).trans e1) (let ⟨o,_,_,e1,_⟩:=n1;⟨o,e1⟩) (XD.ok n1 (λg=>?_) λg hg=>?_)
  ·
   rw[qk hl];by_cases z:g=f
   · subst z;simp[B8,ry]
   · rw[if_neg z,if_neg z];exact rA g
  ·
   by_cases z:g=f
   · subst z;simp
   · rw[if_neg z]at hg;have:=wA g hg;simp at this ⊢;exact .inl this
end
noncomputable def IG(K:Frag)(ns:List Str):Sp:=λvs H Q _=>∃e vals c C L cd,vs=.ref e::vals/\H e=some (XO e (.ref C) none)/\mr K c C L cd/\(∀f∈ns,findIn K (.ref C) f=some none)/\vals.length=ns.length /\
 ∀d,H d=none->d≠e->Q .non (Ml (Ml H d (XD d (ns.zip vals))) e (XO e (.ref C) (some d)))
def NR(K:Frag):TS:=EO (xx K (zK (EM 0) (zK (EM 1) JZ)))
def NS(K:Frag)(x:V)(f:Str):TS:=KU (EO (xx K (zK (EM 0) (zK (tC x) JZ)))) (IF K (EM 0) (EM 1) f)
theorem F8{K:Frag}{vs:List V}{H:Hp}{Q:VK}{E:XK}{a b:Str}(h:JK K vs H Q E):NR K {nx:=λ_ H'=>Q .non H',rt:=Q} (nE [a,b] vs) H:=by obtain⟨e,tx,c,C,L,cd,rfl,he,S,q⟩:=h;exact⟨_,rfl,_,rfl,e,tx,c,C,L,cd,rfl,he,S,q⟩
theorem Ga{K:Frag}{vs:List V}{H:Hp}{Q:VK}{E:XK}{a b f:Str}{x:V}(h:IG K [f] vs H Q E):NS K x f {nx:=λ_ H'=>Q .non H',rt:=Q} (nE [a,b] vs) H:=by
 obtain⟨e,vals,c,C,L,cd,rfl,he,S,hf,hl,q⟩:=h
 match vals,hl with
 |[v],_=>exact⟨_,rfl,e,x,c,C,L,cd,rfl,he,S,_,rfl,_,rfl,e,c,C,L,cd,rfl,S,hf f (by simp),.inl ⟨he,λd hd hde=>q d hd hde⟩⟩
structure Xc where
 c:Str
 ns:List Str
 ds:List D
def B5(K:Frag)(H:Hp)(cls:Value)(dx:Option Addr)(x:Xc):Prop:=∃C vs,cls=.ref C/\iM K x.c C=true/\(∀f∈x.ns,findIn K (.ref C) f=some none)/\XF H dx x.ns vs/\b7 K H vs x.ds
theorem B5.ext{K:Frag}{H H':Hp}{cls:Value}{dx:Option Addr}{x:Xc}(f:B5 K H cls dx x)(h:∀b o,H b=some o->H' b=some o):B5 K H' cls dx x:=by obtain⟨C,vs,e,s,fq,a,r⟩:=f;exact⟨C,vs,e,s,fq,a.pres λb o _ q=>h b o q,r.pres λb o _ q=>h b o q⟩
noncomputable def NT(P:Program)(w:World):MO:=λouter H s E e s'=>∃a cls dx T H',e=.ref a/\s'.os=s.os/\AllBare s'.gens/\Un (Mq outer) [] H H' s.heap s'.heap/\Mm P w H' s'.heap/\NO s'.heap a cls dx (some T)/\H' a=none/\H' T=none /\
 s.heap.objs.size≤a/\s.heap.objs.size≤T/\E cls dx H'
section
variable{X:Cx}{pins:List (Addr×Obj)}{σ:St}{H:Hp}{s:Shared}
theorem Mm.there{P:Program}{w:World}{H:Hp}{h:Heap}(x:Mm P w H h){b:Addr}{o:HO}(e:H b=some o):∃u,h.get? b=some u:=by
 have lt:=x.lt e
 cases o with
 |lst xs=>obtain⟨_,_,_,_,e⟩:=x b _ e;exact⟨_,e⟩
 |tup xs=>obtain⟨_,_,_,o,e,_⟩:=x b _ e;exact⟨_,e⟩
 |dK kvs=>obtain⟨_,_,_,_,o,_,_,e,_⟩:=x b _ e;exact⟨_,e⟩
 |dT kvs=>obtain⟨_,_,_,_,o,_,_,e,_⟩:=x b _ e;exact⟨_,e⟩
 |set S n=>obtain⟨o,_,_,_,e,_⟩:=x b _ e;exact⟨_,e⟩
 |ins C dx fs=>obtain⟨_,_,_,e,_⟩:=x b _ e;exact⟨_,e⟩
 |own y=>obtain⟨_,e⟩:=x b _ e;exact⟨_,e⟩
 |xd fs=>obtain⟨_,⟨_,_,_,e,_⟩,_⟩:=x b _ e;exact⟨_,e⟩
 |rng lo hi=>obtain⟨_,_,_,e⟩:=x b _ e;exact⟨_,e⟩
 |frz ob u=>obtain⟨e,_⟩:=x b _ e;exact⟨_,e⟩
 |tbl t=>obtain⟨_,e,_⟩:=x b _ e;exact⟨_,e⟩
 |met f y=>exact⟨_,(show h.get? b=some _ from x b _ e)⟩
 |ext φ=>obtain⟨_,⟨_,e⟩,_⟩:=x b _ e;exact⟨_,e⟩
structure NU (X:Cx) (pins:List (Addr×Obj)) (b:Addr):Prop where
 s0:X.s₀.heap.objs.size≤b
 loc:b≠X.env.locals
 cel:∀x c,X.env.cells.lookup x=some c->c≠b
 pin:∀p∈X.pn++pins,p.1≠b
theorem Mt.newer(I:Mt X pins σ H s){b:Addr}(h:s.heap.objs.size≤b):NU X pins b:=by
 refine⟨Nat.le_trans I.sz h,λz=>?_,λx c e z=>?_,λp hp z=>?_⟩
 · have:=I.lt;rw[← z]at this;exact absurd this (Nat.not_lt.mpr h)
 · obtain⟨v,o,ho,_⟩:=I.cell x c e;have:=Heap.lt_size ho;rw[z]at this;exact absurd this (Nat.not_lt.mpr h)
 · have:=Heap.lt_size (I.pin p hp).1;rw[z]at this;exact absurd this (Nat.not_lt.mpr h)
structure xy (X:Cx) (pins:List (Addr×Obj)) (H:Hp) (s:Shared) (a:Addr) (cls:Value) (dx T:Option Addr):Prop where
 fly:NO s.heap a cls dx T
 na:H a=none
 nt:∀t,T=some t->H t=none
 wa:NU X pins a
 wt:∀t,T=some t->NU X pins t
def NV(X:Cx)(xp:Xc->Prop):Prop:=∀(pins:List (Addr×Obj))(σ:St)(H:Hp)(s:Shared)(a:Addr)(cls:Value)(dx T:Option Addr)(x:Xc),Mt X pins σ H s->xy X pins H s a cls dx T->B5 X.K H cls dx x->xp x->X.xe (.ref a) s
end
theorem AJ{P:Program}{w:World}{K:Frag}{mg:Str->Option Value}{base:Heap}{N:List Str}{qual:Str}{scope:Scope}{f:Addr}{cd:Value}{A:Around}{outer:List Env}{s:Shared}{H:Hp}{E:XK}{xp:Xc->Prop}
  (h:∀cls dx H' x,B5 K H' cls dx x->xp x->E cls dx H'):NV (Cg (NT P w) P w K mg base N qual scope f cd A outer s H E) xp:=by
 intro pins σ H1 s1 a cls dx T x I R F q;show wpAny (model P w) _ (leaving _ (.ref a)) _ _ s1;unfold leaving;have hl:=I.stack;refine wpAny_bind (ID (F:=s.heap.objs.size) I.ok.frames hl rfl R.fly λh' T' fl hT k1 k2=>?_);have neL:∀b o,s.heap.get? b=some o->b≠s.heap.objs.size:=λb o e=>Nat.ne_of_lt (Heap.lt_size e);have neA:∀b o,s.heap.get? b=some o->b≠a:=λb o e=>Nat.ne_of_lt (Nat.lt_of_lt_of_le (Heap.lt_size e) R.wa.s0);have neT:∀b o,s.heap.get? b=some o->some b≠T:=λb o e z=>absurd (Heap.lt_size e) (Nat.not_lt.mpr (R.wt b z.symm).s0);have tra:∀b o,H1 b=some o->b≠a/\some b≠T/\b∉Mq (envOfC qual scope s.heap.objs.size f cd::outer):=λb o e=>by refine⟨λz=>(by subst z;rw[R.na]at e;cases e),λz=>(by rw[R.nt b z.symm]at e;cases e),λz=>?_⟩;have:=I.stkFree b z;rw[e]at this;cases this
 refine⟨a,cls,dx,T',H1,rfl,I.os,I.bare,⟨λb o e n hf hx=>?_,λb o e n hf hx=>?_,λb o e n hx=>I.base.free b o e n hx,λb o e hx=>?_,I.base.tups,I.base.frzs,I.base.tbls⟩,λb o e=>?_,fl,R.na,?_,R.wa.s0,Nat.le_trans I.sz hT,h cls dx H1 x F q⟩
 ·
  refine k1 b o (neA b o e) (neT b o e) (λhm=>?_) (I.base.keep b o e n hf hx);rcases List.mem_cons.mp (show b∈s.heap.objs.size::Mq outer from hm)with z|z
  · exact neL b o e z
  · exact hf z
 · obtain⟨sl,e1⟩:=I.base.slot b o e n hf hx;obtain⟨sl',e2⟩:=k2 b _ (neA b o e) (neT b o e) e1;exact⟨sl',e2⟩
 · obtain⟨o',e1⟩:=I.base.there b o e hx;obtain⟨sl',e2⟩:=k2 b _ (neA b o e) (neT b o e) e1;exact⟨_,e2⟩
 ·
  refine(I.hok b o e).stay (λc v hc z=>?_) (λ_ z=>z) (λ_ _ z=>z) λ_ _ _ _ z=>z
  have ht:∃o',H1 c=some o':=by
   rcases hc with rfl|hc
   · exact⟨o,e⟩
   · exact⟨_,hc⟩
  obtain⟨o',ho'⟩:=ht;obtain⟨t1,t2,t3⟩:=tra c o' ho';exact k1 c v t1 t2 t3 z
 · exact I.hok.fresh hT
abbrev NW:=List D->(L->Prop)->(Xc->Prop)->Prop
noncomputable def NX(K:Frag)(n:Nat)(fs:NW):Sp:=λvs H Q E=>vs.length=n/\∃ds post xp,b7 K H vs ds/\fs ds post xp/\(∀v H' r,aA K H H' [some v] [r]->post r->Q v H')/\∀cls dx H' x,B5 K H' cls dx x->xp x->E cls dx H'
def tV(fs:NW)(xp:Xc->Prop)(t:W (List L)):W L:=λρ post=>t ρ λls ρ1=>Cy ls λds=>fs ds (λr=>post r ρ1) xp
theorem aA.ds{K:Frag}{H:Hp}:∀{vs:List V}{ds:List D},b7 K H vs ds->Paired (bR K H) (vs.map some) (ds.map .d)
 |_,_,.nil=>.nil
 |_,_,.cons h t=>.cons ⟨_,rfl,h⟩ (aA.ds t)
section
variable{X:Cx}{k n:Nat}{f:Addr}{fd:FuncData}{ps:List Str}{fs:NW}{x:Str}{p pos:Pos}{e:Expr}{es:List Expr}{bs:List (Option Nat)}{t:W (List L)}{xp:Xc->Prop}
theorem IH{pins:List (Addr×Obj)}{σ:St}{H Pr:Hp}{s:Shared}{ρ:Ev}{us:List Value}{vs:List V}{ds:List D}{post:L->Ev->Prop}{Ex:Value->Shared->Prop}(F:FnOk X.prog X.w X.K X.mg X.base (NT X.prog X.w) k f fd ps (NX X.K n fs))(hr:iI k X.A)(hb:mq X.K fd ps [])(hl:vs.length=n)
  (I:Mt X pins σ H s) (E:aA X.K Pr H σ ρ) (r:cB vs us) (rs:b7 X.K H vs ds) (h:fs ds (λr=>post r ρ) xp)
  (hx:∀(s':Shared)(H':Hp)(a:Addr)(cls:Value)(dx T:Option Addr)(y:Xc),Mt X pins σ H' s'->aA X.K Pr H' σ ρ->xy X pins H' s' a cls dx T->B5 X.K H' cls dx y->xp y->Ex (.ref a) s') :
  wpAny (model X.prog X.w) X.A (call (.ref f) us) (EL X pins σ Pr post) Ex s:=by
 have hsp:NX X.K n fs vs (sM H) (λv H'=>∃r,aA X.K (sM H) H' [some v] [r]/\post r ρ) (λcls dx H'=>∃y,B5 X.K H' cls dx y/\xp y) :=
  ⟨hl,ds,_,xp,rs.hid,h,λv H' r E1 p=>⟨r,E1,p⟩,λcls dx H' y q1 q2=>⟨y,q1,q2⟩⟩
 have hl':us.length=ps.length:=by rw[← r.length];exact F.len _ _ _ _ hsp
 have bt:=hb s us I.kIn (by rw[List.append_nil];exact hl');rw[List.append_nil]at bt;refine wpAny_call (codeAny_mono (F.run X.A X.stack s (sM H) ⟨us,[]⟩ us vs _ _ hr I.hide bt r hsp) λres s' hq=>?_)
 cases res with
 | error e =>
  obtain⟨a,cls,dx,T,H',rfl,os,bare,un,hok,fl,na,nt,za,zt,y,q1,q2⟩:=hq;obtain⟨I2,ext,back⟩:=I.unhide os bare un hok;refine hx s' _ a cls dx (some T) y I2 (E.exten ext) ⟨fl,?_,λt et=>?_,I.newer za,λt et=>by cases et;exact I.newer zt⟩ (q1.ext λb o q=>eE q) q2
  · rw[n4 na];exact I.hok.fresh za
  · cases et;rw[n4 nt];exact I.hok.fresh zt
 | ok fl =>
  cases fl with
  | ret u =>
   obtain⟨v,H',os,bare,un,hok,rv,r,E2,p⟩:=hq;obtain⟨I2,ext,back⟩:=I.unhide os bare un hok;have E3:=E.exten ext
   have fr:∀a∈bM r,H a=none/\∃vs,H' a=some vs/\Fg vs:=λa ha=>by
    have ha':a∈owns [r]:=by rw[aH];exact List.mem_append_left _ ha
    obtain⟨vs',e1,m1⟩:=E2.at_own ha';exact⟨back a _ e1 (E2.off a ha'),vs',e1,m1⟩
   refine⟨v,_,r,ρ,I2,rv,⟨E3.sub,?_,λa ha=>?_,.cons ?_ E3.sl⟩,p⟩
   · rw[aH];have n1:=E2.nd;rw[aH]at n1;refine List.nodup_append.mpr ⟨(List.nodup_append.mp n1).1,E3.nd,λa ha b hb z=>?_⟩;subst z;obtain⟨vs',e1,_⟩:=E.at_own hb;rw[(fr a ha).1]at e1;cases e1
   ·
    rw[aH]at ha;rcases List.mem_append.mp ha with z|z
    ·
     cases q:Pr a with
     |none=>rfl
     |some o=>have:=E.sub a o q;rw[(fr a z).1]at this;cases this
    · exact E3.off a z
   ·
    have sl:=E2.sl
    cases sl with
    | cons q t =>
     exact q.pres (λb o _ e=>eE e) r λa ha=>by obtain⟨_,vs',e1,_⟩:=fr a ha;rw[eE e1,e1]
  |next=>exact False.elim hq
  |brk=>exact False.elim hq
  |cont=>exact False.elim hq
theorem CU(F:FnOk X.prog X.w X.K X.mg X.base (NT X.prog X.w) k f fd ps (NX X.K n fs))(hr:iI k X.A)(hg:Gl X x)(hm:X.mg x=some (.ref f))(hk:PySem.W.keepIn X.K (.ref f)=true)(hb:mq X.K fd ps [])(hx:NV X xp)
  (ha:M8 X (e::es) bs t) (hn:bs.length=n) (hdb:(x == ("__debug__" : Str))=false:=by decide) (he:starEach (e::es) X.env=(false,eval e X.env)::starEach es X.env:=by rfl) (hpl:(backTo pos (starEach es X.env)).any (·.1)=false:=by rfl) :
  PL X (.Call (.Name x p) (e::es) [] pos) (tV fs xp t):=by
 intro pins s σ H Pr ρ post I E0 h;refine wpAny_Call_Name_kw (iH I hg hm ?_ hdb);refine PySem.W.callWith_K (h₀:=X.base) I.ok.mod.kin hk (Mv (ha pos pins s σ H Pr ρ _ I E0 h) λus s1 ⟨vs,H1,ls,ρ1,I1,r,hl,hbl,E1,hv,q⟩=>⟨I1.kIn,?_⟩) he hpl;obtain⟨ds,rfl,q1⟩:=gA q;have hlen:vs.length=ds.length:=by simpa using hl
 exact IH (post:=post) F hr hb (hbl.trans hn) I1 (E1.drop (by simp[hlen])) r (gB hlen E1) q1 λs' H' a cls dx T y I2 _ R q1 q2=>hx pins σ H' s' a cls dx T y I2 R q1 q2
noncomputable def yS(ns:List Str)(ds:List D):List D:=if ns=[]then[]else ds
def tX(c:Str)(ns:List Str)(xp:Xc->Prop)(t:W (List L)):W Fl:=λρ _=>t ρ λls _=>Cy ls λds=>(ns=[]∨ds.length=ns.length)/\ds.length≤8/\xp ⟨c,ns,yS ns ds⟩
structure XT (K:Frag) (mg:Str->Option Value) (c:Str) (C fI:Addr) (fd:FuncData) (ps:List Str) (ns:List Str):Prop where
 m:mg c=some (.ref C)
 s:iM K c C=true
 mkx:NM K C fI
 b:mq K fd ps []
 kp:PySem.W.keepIn K (.ref C)=true
 fn:∀f∈ns,findIn K (.ref C) f=some none
def AK(K:Frag)(sp:Sp)(C:Addr)(ns:List Str)(vs:List V):Prop:=∀(e:Addr)(H:Hp)(Q:VK),H e=some (XO e (.ref C) none) ->
 (∀H2 dx,(∀b,b≠e->∀o,H b=some o->H2 b=some o)->H2 e=some (XO e (.ref C) dx)->((ns=[]/\dx=none)∨∃d,dx=some d/\d≠e/\H2 d=some (XD d (ns.zip vs))/\H d=none/\ns.length=vs.length)->Q .non H2)->sp (.ref e::vs) H Q E0
theorem Gb{K:Frag}{c:Str}{C:Addr}{ns:List Str}{vs:List V}(h:iM K c C=true)(hf:∀f∈ns,findIn K (.ref C) f=some none)(hl:vs.length=ns.length):AK K (IG K ns) C ns vs:=λe H Q he q=>by
 obtain⟨L,cd,S⟩:=dO h;refine⟨e,vs,c,C,L,cd,rfl,he,S,hf,hl,λd hd hde=>q _ (some d) (λb hb o z=>?_) bb (.inr ⟨d,rfl,hde,?_,hd,hl.symm⟩)⟩
 · rw[aC hb,aC (ba z hd)];exact z
 · rw[aC hde,bb]
theorem AL{c:Str}{C fI:Addr}{ns:List Str}{sp:Sp}{pins:List (Addr×Obj)}{σ:St}{H:Hp}{s:Shared}{us:List Value}{vs:List V}{Q:Value->Shared->Prop}(T:XT X.K X.mg c C fI fd ps ns)(F:FnOk X.prog X.w X.K X.mg X.base CX0 k fI fd ps sp)(hi:AK X.K sp C ns vs)(hr:iI (k+1) X.A)(hz:us.length≤sizeLine)
  (I:Mt X pins σ H s) (r:cB vs us)
  (hq:∀(s':Shared)(H':Hp)(e:Addr)(dx:Option Addr),Mt X pins σ H' s'->(∀b o,H b=some o->H' b=some o)->H' e=none->s.heap.objs.size≤e->NO s'.heap e (.ref C) dx none->((ns=[]/\dx=none)∨∃d od,dx=some d/\H' d=some (.frz od (.xd (ns.zip vs)))/\ns.length=vs.length)->Q (.ref e) s') :
  wpAny (model X.prog X.w) X.A (call (.ref C) us) Q X.xe s:=by
 obtain⟨hh,g,d0,tk,os⟩:=s;refine Kh I.kIn T.mkx hz λh' e hm hsz=>?_;obtain⟨tt,he,_,_⟩:=hm.there;have hn:H e=none:=I.hok.fresh hsz;have I1:Mt X pins σ (Ml H e (XO e (.ref C) none)) ⟨h',g,d0,tk,os⟩:=I.laid (t':=tk) hm.keeps hsz (XO.ok ⟨_,_,he,by simp,rfl⟩);have hsp:=hi e (Ml H e (XO e (.ref C) none)) (λv H2=>v=.non/\∃dx,(∀b,b≠e->∀o,Ml H e (XO e (.ref C) none) b=some o->H2 b=some o)/\H2 e=some (XO e (.ref C) dx)/\((ns=[]/\dx=none)∨∃d,dx=some d/\d≠e/\H2 d=some (XD d (ns.zip vs))/\Ml H e (XO e (.ref C) none) d=none/\ns.length=vs.length)) bb λH2 dx a b c=>⟨rfl,dx,a,b,c⟩;have r2:cB (V.ref e::vs) (Value.ref e::us):=.cons rfl r;have hl:(Value.ref e::us).length=ps.length:=by rw[← r2.length];exact F.len _ _ _ _ hsp
 have bt:=T.b _ (Value.ref e::us) I1.kIn (by rw[List.append_nil];exact hl);rw[List.append_nil]at bt;refine wpAny_call (codeAny_mono (F.run _ X.stack _ _ ⟨Value.ref e::us,[]⟩ (Value.ref e::us) _ _ E0 (hr.make C us []) (I1.env0.make C us []) bt r2 hsp) λres s' hq'=>?_)
 cases res with
 |error x=>exact hq'.elim
 | ok fl =>
  cases fl with
  | ret u =>
   obtain⟨v,H2,I2,rv,ev,dx,kp,e2,alt⟩:=I1.after hq';subst ev;refine⟨rv,?_⟩;have fl:=I2.xo e2;have I3:=I2.forget e2
   have up:∀b o,H b=some o->NN H2 e b=some o:=λb o q=>by
    have hb:b≠e:=λz=>by subst z;rw[hn]at q;cases q
    rw[c9 hb];exact kp b hb o (by rw[aC hb];exact q)
   rcases alt with⟨z1,z2⟩|⟨d,z1,z2,z3,z4,z5⟩
   · exact hq s' _ e dx I3 up lu hsz fl (.inl ⟨z1,z2⟩)
   ·
    have hd:NN H2 e d=some (XD d (ns.zip vs)):=by rw[c9 z2];exact z3
    obtain⟨mA,nA,rA,_⟩:=I2.xd z3;obtain⟨od,es,ep,hod,r1⟩:=id nA;have I4:=I3.reword (w:=.frz od (.xd (ns.zip vs))) hd (λq=>q) (λ_ q=>nomatch q) ⟨hod,mA,nA,rA⟩ (λ_ _ _ q=>nomatch q);have dn:H d=none:=by rw[aC z2]at z4;exact z4
    refine hq s' _ e dx I4 (λb o q=>?_) (by rw[aC (Ne.symm z2)];exact lu) hsz fl (.inr ⟨d,od,z1,bb,z5⟩);rw[aC (ba q dn)];exact up b o q
  |next=>exact False.elim hq'
  |brk=>exact False.elim hq'
  |cont=>exact False.elim hq'
theorem CV{c:Str}{C fI:Addr}{ns:List Str}{sp:Sp}{cpos:Pos}(T:XT X.K X.mg c C fI fd ps ns)(F:FnOk X.prog X.w X.K X.mg X.base CX0 k fI fd ps sp)(hi:∀vs:List V,vs.length=n->AK X.K sp C ns vs)(hr:iI (k+1) X.A)(hg:Gl X c)(hx:NV X xp)(ha:M8 X (e::es) bs t)(hn:bs.length=n)
  (hdb:(c == ("__debug__" : Str))=false:=by decide) (he:starEach (e::es) X.env=(false,eval e X.env)::starEach es X.env:=by rfl) (hpl:(backTo cpos (starEach es X.env)).any (·.1)=false:=by rfl) :
  PM X (.Raise (some (.Call (.Name c p) (e::es) [] cpos)) none pos) (tX c ns xp t):=by
 intro pins s σ H Pr ρ post I E0 h;obtain⟨LL,cd,S⟩:=dO T.s;rw[arm_exec_Raise];refine wpAny_bind (wpAny_standAt ?_);refine Iz S hr.hd (wpAny_bind (wpAny_mono (wpAny_Call_Name_kw (iH I hg T.m ?_ hdb)) (λv s3 h3=>wpAny_bind (wpAny_standAt (wpAny_pure h3))) λ_ _ z=>z));refine PySem.W.callWith_K (h₀:=X.base) I.ok.mod.kin T.kp (Mv (ha cpos pins s σ H Pr ρ _ I E0 h) λus s1 ⟨vs,H1,ls,ρ1,I1,r,hl,hbl,E1,hv,q⟩=>⟨I1.kIn,?_⟩) he hpl;obtain⟨ds,rfl,q0,q1,q⟩:=gA q;have hlen:vs.length=ds.length:=by simpa using hl
 have rs:=gB hlen E1;refine AL T F (hi vs (hbl.trans hn)) hr (by show us.length≤sizeLine;rw[← r.length,hlen];exact Nat.le_trans q1 (by decide)) I1 r λs' H' e dx I2 up na hsz fl alt=>⟨e,dx,rfl,I2.kIn,fl,?_⟩;refine hx pins σ H' s' e _ dx none ⟨c,ns,yS ns ds⟩ I2 ⟨fl,na,(λ_ z=>nomatch z),I1.newer hsz,(λ_ z=>nomatch z)⟩ ?_ q;rcases alt with⟨z1,z2⟩|⟨d,od,z1,z2,z3⟩
 · exact⟨C,[],rfl,T.s,T.fn,.inl ⟨z1,rfl,z2⟩,by unfold yS;rw[if_pos z1];exact .nil⟩
 ·
  by_cases zn:ns=[]
  ·
   subst zn;have e0:vs=[]:=by cases vs with|nil=>rfl|cons _ _=>simp at z3
   subst e0;exact⟨C,[],rfl,T.s,T.fn,.inr ⟨d,od,z1,z2,z3⟩,by unfold yS;rw[if_pos rfl];exact .nil⟩
  · exact⟨C,vs,rfl,T.s,T.fn,.inr ⟨d,od,z1,z2,z3⟩,by unfold yS;rw[if_neg zn];exact rs.pres λb o _ q=>up b o q⟩
end
def NY(post:L->Prop):Fl->Ev->Prop:=λf _=>match f with
 |.rt r=>post r
 |.nx=>post (.d .non)
 |_=>False
theorem II{P:Program}{w:World}{K:Frag}{mg:Str->Option Value}{base:Heap}{x qual:Str}{st:Stmt}{f:Addr}{fd:FuncData}{N ps:List Str}{k:Nat}{fs:NW}(F:M5 K x qual st f fd)(S:aF N ps (ar st))(t:(Xc->Prop)->W Fl)
  (hbody:∀(cdv:Value)(A:Around)(outer:List Env)(s:Shared)(H:Hp)(E:XK)(xp:Xc->Prop),iI k (A.deeper (envOfC qual (ar st) s.heap.objs.size f cdv))->(∀cls dx H' y,B5 K H' cls dx y->xp y->E cls dx H') ->
   M9 (Cg (NT P w) P w K mg base N qual (ar st) f cdv A outer s H E) (eG st) (t xp))
  (h:∀ds post xp,ds.length=ps.length->fs ds post xp->t xp (ds.map .d++List.replicate (N.length-ps.length) .un) (NY post)):FnOk P w K mg base (NT P w) (k+1) f fd ps (NX K ps.length fs):=by
 obtain⟨oc,od,kV,doc,pm,an,cdv,ct,osl,rfl,lk,hcd⟩:=F.ex;refine HE lk hcd S (λvs H Q E q=>q.1) λA outer s H vs Q E hr q=>?_;obtain⟨hl,ds,post,xp,rs,hf,q1,q2⟩:=q;have E0:aA K H H (vs.map some) (ds.map .d):=⟨λ_ _ e=>e,by rw[z7];exact List.nodup_nil,λa ha=>(by rw[z7]at ha;simp at ha),aA.ds rs⟩;refine⟨_,(hbody cdv A outer s H E xp hr q2).pss,H,ds.map .d++List.replicate (N.length-ps.length) .un,NY post,?_,h ds post xp (by rw[← rs.length];exact hl) hf,λσ' H' ρ' E' p=>?_,λ_ _ _ _ p=>p.elim,λ_ _ _ _ p=>p.elim,λv τ H' r ρ' E' p=>?_⟩
 · unfold nE;rw[hl];exact E0.uns _
 · exact q1 .non H' (.d .non) ((⟨E'.sub,List.nodup_nil,λa ha=>(by simp[owns]at ha),.nil⟩:aA K H H' [] []).cons_d .non) p
 · exact q1 v H' r (aA.left (τ:=[some v]) (lam:=[r]) E' rfl) p
section
variable{X:Cx}{pins:List (Addr×Obj)}{σ:St}{H:Hp}{s:Shared}
theorem Mt.lost{n:Str}{i:Nat}{h':Heap}{t':Nat}{m m':Str->Option Value}(I:Mt X pins σ H s)(hN:X.N.Nodup)(hi:X.N[i]?=some n)(hn:s.heap.Ns X.env.locals m)(hn':h'.Ns X.env.locals m')(hm:∀y,y≠n->m' y=m y)(hs:Heap.SameBut X.env.locals s.heap h') :
  Mt X pins (σ.set i none) H {s with heap:=h',toks:=t' }:=by
 have nl:∀b o,X.s₀.heap.get? b=some o->b≠X.env.locals:=λb o e=>Nat.ne_of_lt (Nat.lt_of_lt_of_le (Heap.lt_size e) I.ok.above);refine⟨I.ok,I.os,I.bare,⟨λb o e n hb hx=>(hs.2 b (nl b o e)).trans (I.base.keep b o e n hb hx),λb o e n hb hx=>?_,I.base.free,λb o e hx=>?_,I.base.tups,I.base.frzs,I.base.tbls⟩,⟨m',hn',λj y v e1 e2 e3=>?_⟩,λy c e=>?_,I.free,I.freeC,λp hp=>?_,λb o e=>?_,by simpa using I.len⟩
 · obtain⟨sl,e1⟩:=I.base.slot b o e n hb hx;exact⟨sl,(hs.2 b (nl b o e)).trans e1⟩
 · obtain⟨o',e1⟩:=I.base.there b o e hx;exact⟨o',(hs.2 b (nl b o e)).trans e1⟩
 ·
  have hj:j≠i:=λz=>by
   subst z;have hlt:j<σ.length:=by rw[I.len];exact(List.getElem?_eq_some_iff.mp hi).1
   rw[List.getElem?_set_self hlt]at e2;cases e2
  rw[List.getElem?_set_ne (Ne.symm hj)]at e2;obtain⟨m0,hn0,hl⟩:=I.loc;obtain⟨u,r,q⟩:=hl j y v e1 e2 e3;have hy:y≠n:=λz=>hj (qE hN e1 (z ▸ hi));refine⟨u,r,?_⟩;rcases q with⟨k,e⟩|⟨k,c,e,z⟩
  · refine .inl ⟨k,?_⟩;rw[hm y hy];obtain⟨o1,es1,ep1,a1,a2,a3,a4⟩:=hn;obtain⟨o2,es2,ep2,b1,b2,b3,b4⟩:=hn0;rw[a1]at b1;cases b1;rw[a2]at b2;cases b2;rw[← a4 y,b4 y];exact e
  · exact .inr ⟨k,c,e,z.sameBut hs (I.cne y c e)⟩
 · obtain⟨v,z⟩:=I.cell y c e;exact⟨v,z.sameBut hs (I.cne y c e)⟩
 · obtain⟨a1,a2,a3,a4⟩:=I.pin p hp;exact⟨(hs.2 _ a3).trans a1,a2,a3,a4⟩
 ·
  refine(I.hok b o e).stay (λc v hc z=>(hs.2 c λq=>?_).trans z) (λ_ z=>z) (λ_ _ z=>z) λ_ _ _ _ z=>z
  have:∃o',H c=some o':=by
   rcases hc with rfl|hc
   · exact⟨o,e⟩
   · exact⟨_,hc⟩
  obtain⟨o',ho'⟩:=this;rw[q,I.free]at ho';cases ho'
theorem lx{M:Model}{A:Around}{E:Value->Shared->Prop}{n:Str}{i:Nat}{pos:Pos}{Q:Unit->Shared->Prop}(I:Mt X pins σ H s)(hN:X.N.Nodup)(hi:X.N[i]?=some n)(hl:X.env.kindOf n=some .local)(hx:Ms X.env.scope n)(hf:X.fn n=true∨X.env.scope.names.lookup n=some .local)
  (hq:∀s',Mt X pins (σ.set i none) H s'->Q () s'):wpAny M A (do bindName X.env n .none;unbindBehindTheSuite X.env n pos) Q E s:=by
 have hcls:(X.env.scope.kind == .class ||(X.env.scope.kind == .module && X.env.locals != X.env.globals))=false:=by rw[I.ok.kind];rfl
 refine wpAny_bind (wpAny_bindName (gv (v:=.non) I hN hi hx rfl (λs1 I1=>?_) hf));obtain⟨m,hn,_⟩:=id I1.loc;unfold unbindBehindTheSuite;refine wpAny_onRaise ?_;unfold unbindName;refine wpAny_bind (wpAny_point (wpAny_bind ?_));unfold deleteName;simp only[hl,hcls];rw[if_neg (by decide)];refine wpAny_bind (wpAny_nsDel_keeps hn λh2 v hn2 hs2=>?_)
 have hsome:(m n).isSome=true:=by
  obtain⟨m1,hn1,hl1⟩:=I1.loc;have hlt:i<σ.length:=by rw[I.len];exact(List.getElem?_eq_some_iff.mp hi).1
  obtain⟨u,r,q⟩:=hl1 i n .non hi (by simp[hlt]) (hx.elim .inl λz=>.inr (.inl z));obtain⟨o1,es1,ep1,a1,a2,a3,a4⟩:=hn;obtain⟨o2,es2,ep2,b1,b2,b3,b4⟩:=hn1;rw[a1]at b1;cases b1;rw[a2]at b2;cases b2;rcases q with⟨k,e⟩|⟨k,_⟩
  · rw[← a4 n,b4 n,e];rfl
  · rw[hl]at k;rcases k with k|k<;>cases k
 rw[hsome];simp only[if_true,Bool.not_true,Bool.false_eq_true,if_false];refine wpAny_pure (wpAny_point ?_);have z:=I1.lost (t':=s1.toks) hN hi hn hn2 (λy hy=>by rw[if_neg hy]) hs2;rw[List.set_set]at z;exact hq _ z
end
noncomputable def NZ(c y:Str):Bool:=c == y ||c == ("LoadError" : Str)
structure XH (K:Frag) (mg:Str->Option Value) (c:Str) (C:Addr):Prop where
 m:mg c=some (.ref C)
 ns:nsIn K mainGlobals c=some (some (.ref C))
 cls:∃cd,clsIn K C=some cd/\cd.name=c
 ty:typeIn K (.ref C)=some (.type "type")
 base:mroIn K C (.type "BaseException")=some true
section
variable{K:Frag}{mg:Str->Option Value}{c y:Str}{C D:Addr}
theorem XH.sub(T:XH K mg c C)(hs:iM K y D=true):mroIn K D (.ref C)=some (NZ c y):=by
 obtain⟨L,cd,S⟩:=dO hs;obtain⟨cdC,hC,hn⟩:=T.cls;obtain⟨kL,hL,hnL⟩:=S.lname;rw[S.mroIn,wZ]
 congr 1
 unfold NZ
 have e1:(C == D)=(c == y):=by
  by_cases h:c=y
  · subst h;have z:=T.ns.symm.trans S.own;cases z;simp
  · rw[beq_eq_false_iff_ne.mpr h,beq_eq_false_iff_ne];intro z;subst z;rw[S.cls]at hC;cases hC;exact h (hn.symm.trans S.name)
 have e2:(C == L)=(c == ("LoadError" : Str)):=by
  by_cases h:c=("LoadError" : Str)
  · subst h;have z:=T.ns.symm.trans S.load;cases z;simp
  · rw[beq_eq_false_iff_ne.mpr h,beq_eq_false_iff_ne];intro z;subst z;rw[hL]at hC;cases hC;exact h (hn.symm.trans hnL)
 rw[e1,e2]
theorem IJ{M:Model}{A:Around}{E:Value->Shared->Prop}{s:Shared}{a:Addr}{ox:Obj}{Q:Bool->Shared->Prop}(T:XH K mg c C)(hs:iM K y D=true)(hA:NZ c y=true)(X:K.In s.heap)(he:s.heap.get? a=some ox)(hc:ox.cls=.ref D)(hq:Q true s) :
  wpAny M A (excMatches (.ref a) (.ref C)) Q E s:=by
 obtain⟨hp,g,d,tk,os⟩:=s;have he:hp.get? a=some ox:=he;obtain⟨cd,hcd,_⟩:=T.cls;obtain⟨oc,odc,slc,hK⟩:=oC hcd;have hC:hp.get? C=some ⟨oc,odc,.cls cd,slc⟩:=X _ _ hK;have L1:Looks M hp (typeOf (.ref C)) (.type "type"):=looks_typeIn X T.ty;have L2:Looks M hp (isSubtype (.ref C) (.type "BaseException")) true:=looks_mroIn X T.base;have L3:Looks M hp (isSubtype (.ref D) (.ref C)) true:=looks_mroIn X (by rw[T.sub hs,hA]);have f:=tc_notTuple;have L4:Looks M hp (isInstance (.ref C) (.type "tuple")) false:=L1.andThen (Looks.of_pure f);have L5:Looks M hp (typeOf (.ref a)) (.ref D):=hc ▸ (Looks.ld he).andThen .now;unfold excMatches;refine wpAny_bind (L4.at ?_);dsimp only;rw[if_neg (by decide)]
 repeat (first|with_reducible refine L2.at ?_|with_reducible refine L3.at ?_|with_reducible refine L5.at ?_|with_reducible refine wpAny_loadPart_at hC ?_|wp_step)
 exact hq
end
noncomputable abbrev Cx.tr(X:Cx)(pins:List (Addr×Obj))(E:Value->Shared->Prop):Cx:={X with pn:=X.pn++pins,xe:=E}
noncomputable abbrev Cx.han(X:Cx)(a:Addr):Cx:={X with A:=X.A.mark (some (.ref a)),calm:=false,xe:=λ_ _=>False}
section
variable{X:Cx}{pins pins0:List (Addr×Obj)}{σ:St}{H:Hp}{s:Shared}{E:Value->Shared->Prop}{a:Addr}
theorem Cx.Ok.tr(ok:X.Ok):(X.tr pins E).Ok:=⟨ok.mod,ok.kind,ok.glob,ok.blt,ok.above,ok.inj,ok.has,ok.cab,ok.hd,ok.frames,ok.stk,ok.exf,ok.bs,ok.bsz,ok.noex,ok.exfs,ok.funs,ok.frf,ok.tbs⟩
theorem Cx.Ok.untr(ok:(X.tr pins E).Ok):X.Ok:=⟨ok.mod,ok.kind,ok.glob,ok.blt,ok.above,ok.inj,ok.has,ok.cab,ok.hd,ok.frames,ok.stk,ok.exf,ok.bs,ok.bsz,ok.noex,ok.exfs,ok.funs,ok.frf,ok.tbs⟩
theorem Mt.tr(I:Mt X pins σ H s):Mt (X.tr pins E) [] σ H s:=⟨I.ok.tr,I.os,I.bare,I.base,I.loc,I.cell,I.free,I.freeC,λp hp=>I.pin p (by simpa using hp),I.hok,I.len⟩
theorem Mt.untr(I:Mt (X.tr pins0 E) pins σ H s):Mt X pins0 σ H s:=⟨I.ok.untr,I.os,I.bare,I.base,I.loc,I.cell,I.free,I.freeC,λp hp=>I.pin p (List.mem_append_left _ hp),I.hok,I.len⟩
theorem Mt.han(I:Mt X pins σ H s)(a:Addr):Mt (X.han a) pins σ H s :=
 ⟨⟨I.ok.mod,I.ok.kind,I.ok.glob,I.ok.blt,I.ok.above,I.ok.inj,I.ok.has,I.ok.cab,(λz=>nomatch z),I.ok.frames,I.ok.stk,I.ok.exf,I.ok.bs,I.ok.bsz,I.ok.noex,I.ok.exfs,I.ok.funs,I.ok.frf,I.ok.tbs⟩,I.os,I.bare,I.base,I.loc,I.cell,I.free,I.freeC,I.pin,I.hok,I.len⟩
theorem Mt.unhan(I:Mt (X.han a) pins σ H s)(ok:X.Ok):Mt X pins σ H s:=⟨ok,I.os,I.bare,I.base,I.loc,I.cell,I.free,I.freeC,I.pin,I.hok,I.len⟩
theorem SM.untr{Pr:Hp}{post:Fl->Ev->Prop}{f:Flow}{s':Shared}(h:SM (X.tr pins0 E) pins Pr post f s'):SM X pins0 Pr post f s':=by
 cases f with
 |next=>obtain⟨σ',H',ρ',I,r⟩:=h;exact⟨σ',H',ρ',I.untr,r⟩
 |brk=>obtain⟨σ',H',ρ',I,r⟩:=h;exact⟨σ',H',ρ',I.untr,r⟩
 |cont=>obtain⟨σ',H',ρ',I,r⟩:=h;exact⟨σ',H',ρ',I.untr,r⟩
 |ret u=>obtain⟨v,σ',H',r',ρ',τ,I,r⟩:=h;exact⟨v,σ',H',r',ρ',τ,I.untr,r⟩
end
def N1(X:Cx)(pins:List (Addr×Obj))(Pr:Hp)(xp:Xc->Ev->Prop):Value->Shared->Prop:=λe s'=>∃σ' H' ρ' a cls dx T x,e=.ref a/\Mt X pins σ' H' s'/\aA X.K Pr H' σ' ρ'/\xy X pins H' s' a cls dx T/\B5 X.K H' cls dx x/\xp x ρ'
noncomputable abbrev Cx.tb(X:Cx)(pins:List (Addr×Obj))(Pr:Hp)(xp:Xc->Ev->Prop):Cx:=X.tr pins (N1 X pins Pr xp)
def Le(P Q:Hp):Prop:=∀b o,P b=some o->Q b=some o
theorem aA.le{K:Frag}{P Q H:Hp}{σ:St}{ρ:Ev}(E:aA K Q H σ ρ)(h:Le P Q):aA K P H σ ρ:=⟨λb o e=>E.sub b o (h b o e),E.nd,λa ha=>(by
  have z:=E.off a ha
  cases q:P a with
  |none=>rfl
  |some o=>rw[h a o q]at z;cases z),E.sl⟩
def N2(X:Cx)(pins0:List (Addr×Obj))(Pr0:Hp)(xp:Xc->Ev->Prop)(e:Expr)(t:W L):Prop :=
 ∀(pins:List (Addr×Obj))(s:Shared)(σ:St)(H Pr:Hp)(ρ:Ev)(post:L->Ev->Prop),Le Pr0 Pr->Mt (X.tb pins0 Pr0 xp) pins σ H s->aA X.K Pr H σ ρ->t ρ post->wpAny (model X.prog X.w) X.A (eval e X.env) (EL (X.tb pins0 Pr0 xp) pins σ Pr post) (N1 X pins0 Pr0 xp) s
def N3(X:Cx)(pins0:List (Addr×Obj))(Pr0:Hp)(xp:Xc->Ev->Prop)(st:Stmt)(t:W Fl):Prop :=
 ∀(pins:List (Addr×Obj))(s:Shared)(σ:St)(H Pr:Hp)(ρ:Ev)(post:Fl->Ev->Prop),Le Pr0 Pr->Mt (X.tb pins0 Pr0 xp) pins σ H s->aA X.K Pr H σ ρ->t ρ post->wpAny (model X.prog X.w) X.A (exec st X.env) (SM (X.tb pins0 Pr0 xp) pins Pr post) (N1 X pins0 Pr0 xp) s
def K3(X:Cx)(pins0:List (Addr×Obj))(Pr0:Hp)(xp:Xc->Ev->Prop)(sts:List Stmt)(t:W Fl):Prop :=
 ∀(pins:List (Addr×Obj))(s:Shared)(σ:St)(H Pr:Hp)(ρ:Ev)(post:Fl->Ev->Prop),Le Pr0 Pr->Mt (X.tb pins0 Pr0 xp) pins σ H s->aA X.K Pr H σ ρ->t ρ post->wpAny (model X.prog X.w) X.A (execs sts X.env) (SM (X.tb pins0 Pr0 xp) pins Pr post) (N1 X pins0 Pr0 xp) s
def tY(fs:NW)(xp:Xc->Ev->Prop)(t:W (List L)):W L:=λρ post=>t ρ λls ρ1=>Cy ls λds=>fs ds (λr=>post r ρ1) (λy=>xp y ρ1)
section
variable{X:Cx}{pins0:List (Addr×Obj)}{Pr0:Hp}{xp:Xc->Ev->Prop}{k n:Nat}{f:Addr}{fd:FuncData}{ps:List Str}{fs:NW}{x:Str}{p pos:Pos}{e:Expr}{es:List Expr}{bs:List (Option Nat)}{t:W (List L)}{te:W L}{tm:W Fl}{st:Stmt}
theorem CW(F:FnOk X.prog X.w X.K X.mg X.base (NT X.prog X.w) k f fd ps (NX X.K n fs))(hr:iI k X.A)(hg:Gl X x)(hm:X.mg x=some (.ref f))(hk:PySem.W.keepIn X.K (.ref f)=true)(hb:mq X.K fd ps [])
  (ha:M8 (X.tb pins0 Pr0 xp) (e::es) bs t) (hn:bs.length=n) (hdb:(x == ("__debug__" : Str))=false:=by decide) (he:starEach (e::es) X.env=(false,eval e X.env)::starEach es X.env:=by rfl) (hpl:(backTo pos (starEach es X.env)).any (·.1)=false:=by rfl) :
  N2 X pins0 Pr0 xp (.Call (.Name x p) (e::es) [] pos) (tY fs xp t):=by
 intro pins s σ H Pr ρ post le I E0 h;refine wpAny_Call_Name_kw (iH (X:=X.tb pins0 Pr0 xp) I hg hm ?_ hdb);refine PySem.W.callWith_K (h₀:=X.base) I.ok.mod.kin hk (Mv (ha pos pins s σ H Pr ρ _ I E0 h) λus s1 ⟨vs,H1,ls,ρ1,I1,r,hl,hbl,E1,hv,q⟩=>⟨I1.kIn,?_⟩) he hpl;obtain⟨ds,rfl,q1⟩:=gA q;have hlen:vs.length=ds.length:=by simpa using hl
 refine IH (X:=X.tb pins0 Pr0 xp) (post:=post) F hr hb (hbl.trans hn) I1 (E1.drop (by simp[hlen])) r (gB hlen E1) q1 λs' H' a cls dx T y I2 E2 R z1 z2=>?_;exact⟨σ,H',ρ1,a,cls,dx,T,y,rfl,I2.untr,E2.le le,⟨R.fly,R.na,R.nt,⟨R.wa.s0,R.wa.loc,R.wa.cel,λp hp=>R.wa.pin p (List.mem_append_left _ hp)⟩,λt et=>⟨(R.wt t et).s0,(R.wt t et).loc,(R.wt t et).cel,λp hp=>(R.wt t et).pin p (List.mem_append_left _ hp)⟩⟩,z1,z2⟩
theorem IK(h:PL (X.tb pins0 Pr0 xp) e te):N2 X pins0 Pr0 xp e te:=λpins s σ H Pr ρ post _ I E q=>h pins s σ H Pr ρ post I E q
theorem Gc(h:N2 X pins0 Pr0 xp e te):N2 X pins0 Pr0 xp e (bc te):=λpins s σ H Pr ρ post le I E ht =>
 Mv (h pins s σ H Pr ρ _ le I E ht) λu s1 q=>by obtain⟨v,H',x,ρ',I',rv,E',p⟩:=EL.frz (X:=X.tb pins0 Pr0 xp) (post:=λx ρ=>post (.d x) ρ) q;exact⟨v,H',.d x,ρ',I',rv,E',p⟩
theorem Gd{i:Nat}{x:Str}{pos':Pos}(hN:X.N.Nodup)(hi:X.N[i]?=some x)(hx:Ms X.env.scope x)(he:N2 X pins0 Pr0 xp e te)(hs:swapsWith e (some (.Name x pos')) pos.line X.env=pure false:=by rfl)(hf:X.fn x=true∨X.env.scope.names.lookup x=some .local:=by first|exact .inl rfl|exact .inr rfl|assumption) :
  N3 X pins0 Pr0 xp (.Assign [.Name x pos'] e pos) (bq i te):=by
 intro pins s σ H Pr ρ post le I E h;refine wpAny_Assign_Name (Mv (he pins s σ H Pr ρ _ le I E h) λv s1 ⟨y,H1,r,ρ1,I1,r1,E1,q1⟩=>?_) hs;exact gv (X:=X.tb pins0 Pr0 xp) I1 hN hi hx r1 (λs2 I2=>⟨_,H1,_,I2,E1.store (by rw[I1.len];exact(List.getElem?_eq_some_iff.mp hi).1),q1⟩) hf
theorem CY(h1:N3 X pins0 Pr0 xp st tm):K3 X pins0 Pr0 xp [st] tm:=by
 intro pins s σ H Pr ρ post le I E h;refine wpAny_execs_cons (Mv (h1 pins s σ H Pr ρ post le I E h) λf s1 q=>?_)
 cases f with
 |next=>exact wpAny_execs_nil q
 |brk=>exact q
 |cont=>exact q
 |ret u=>exact q
end
def xA(tb:(Xc->Ev->Prop)->W Fl)(c:Str)(i:Nat)(ts:W Fl):W Fl:=λρ post=>tb (λx ρ1=>NZ c x.c=true/\ts (ρ1.set i (.d (.exc x.c x.ns x.ds))) λf ρ2=>post f (ρ2.set i .un)) ρ post
section
variable{X:Cx}{pins:List (Addr×Obj)}{σ:St}{H:Hp}{s:Shared}
theorem Mt.landed{Pr:Hp}{ρ:Ev}{a:Addr}{cls:Value}{dx T:Option Addr}{h1:Heap}(I:Mt X pins σ H s)(R:xy X pins H s a cls dx T)(hstk:X.stack=X.env::X.outer)
  (k1:∀b o,b≠a->some b≠T->b∉Mq (X.env::X.outer)->s.heap.get? b=some o->h1.get? b=some o) (k2:∀b o,b≠a->some b≠T->s.heap.get? b=some o->∃sl,h1.get? b=some {o with slots:=sl}):Mt X pins σ H {s with heap:=h1}:=by
 have nch:∀b,b∉a::T.toList->b≠a/\some b≠T:=λb hb=>⟨λz=>hb (by simp[z]),λz=>hb (by simp[← z])⟩;have tra:∀b o,H b=some o->b≠a/\some b≠T/\b∉Mq (X.env::X.outer):=λb o e=>by refine⟨λz=>(by subst z;rw[R.na]at e;cases e),λz=>(by rw[R.nt b z.symm]at e;cases e),λz=>?_⟩;have:=I.stkFree b (by rw[hstk];exact z);rw[e]at this;cases this
 refine I.call (g':=s.gens) (t':=s.toks) (d':=s.drawn) (ch:=a::T.toList) ⟨λb o e n hf hx=>?_,λb o e n hf hx=>?_,λb o e n hx=>n,λb o e hx=>?_,λ_ _ e=>e,λ_ _ _ e=>e,λ_ _ e=>e⟩ (λb o e=>?_) I.bare λb hb=>?_
 · exact k1 b o (nch b hx).1 (nch b hx).2 (by rw[← hstk];exact hf) e
 · exact k2 b o (nch b hx).1 (nch b hx).2 e
 · obtain⟨sl,q⟩:=k2 b o (nch b hx).1 (nch b hx).2 e;exact⟨_,q⟩
 ·
  refine(I.hok b o e).stay (λc v hc z=>?_) (λ_ z=>z) (λ_ _ z=>z) λ_ _ _ _ z=>z
  have ht:∃o',H c=some o':=by
   rcases hc with rfl|hc
   · exact⟨o,e⟩
   · exact⟨_,hc⟩
  obtain⟨o',ho'⟩:=ht;obtain⟨t1,t2,t3⟩:=tra c o' ho';exact k1 c v t1 t2 t3 z
 ·
  have w:NU X pins b:=by
   rcases List.mem_cons.mp hb with rfl|hb
   · exact R.wa
   · exact R.wt b (by cases T with|none=>simp at hb|some t=>simp at hb;rw[hb])
  exact⟨.inr w.s0,w.loc,w.cel,w.pin⟩
end
section
variable{X:Cx}{body suite:List Stmt}{b0:Stmt}{c:Str}{C:Addr}{p hp pos:Pos}{tb:(Xc->Ev->Prop)->W Fl}{ts:W Fl}
theorem CZ{n:Str}{i:Nat}(hstk:X.stack=X.env::X.outer)(hf:X.env.frame=some X.env.locals)(TC:XH X.K X.mg c C)(hg:Gl X c)(hN:X.N.Nodup)(hi:X.N[i]?=some n)(hl:X.env.kindOf n=some .local)(hx:Ms X.env.scope n)(hb:∀ pins Pr xp,K3 X pins Pr xp body (tb xp))(hs:∀ a,M9 (X.han a) (b0::suite) ts) (hdb:(c == ("__debug__" : Str))=false:=by decide)
  (hfn:X.fn n=true∨X.env.scope.names.lookup n=some .local:=by first|exact .inl rfl|exact .inr rfl|assumption) :
  PM X (.Try body [.ExceptHandler (some (.Name c p)) (some n) (b0::suite) hp] [] [] pos) (xA tb c i ts):=by
 intro pins s σ H Pr ρ post I E h;refine wpAny_Try_except (wpAny_mono (hb pins Pr (λx ρ1=>NZ c x.c=true/\ts (ρ1.set i (.d (.exc x.c x.ns x.ds))) λf ρ2=>post f (ρ2.set i .un)) [] s σ H Pr ρ post (λ_ _ z=>z) I.tr E h) (λf s1 q=>?_) λe s1 q=>?_)
 ·
  have q':=SM.untr q
  cases f with
  |next=>exact wpAny_execs_nil q'
  |brk=>exact q'
  |cont=>exact q'
  |ret u=>exact q'
 ·
  obtain⟨σ',H',ρ',a,cls,dx,T,x,rfl,I1,E1,R,F,hA,hts⟩:=q;refine ID (hstk ▸ I1.ok.frames) (hstk ▸ I1.stack) hf R.fly λh1 T1 fl hT1 k1 k2=>?_;have I2:=I1.landed (Pr:=Pr) (ρ:=ρ') R hstk k1 k2;have w1:=I1.newer hT1;obtain⟨D0,vs,rfl,hstd,hfq,hxf,rs⟩:=F;refine wpAny_handleBy_cons (codeAny_handlers_test (iH (I2.han a) hg TC.m ?_ hdb)) (by intro q;cases q);obtain⟨vv,sl,he,_⟩:=id fl;refine IJ TC hstd hA I2.kIn he rfl ?_;refine codeAny_handlers_suite_as (Ki fl λh2 fl2 k3=>?_);have I3:=I2.turned (it:=T1) (t':=s1.toks) (λb o hb e=>k3 b o hb e) (I1.hok.fresh hT1) w1.loc (.inr w1.s0) w1.cel w1.pin;obtain⟨vv2,sl2,he2,_⟩:=id fl2;have I4:=I3.track (o:=.frz ⟨.ref D0,dx,.fields vv2,sl2⟩ (.ext λh=>h.get? a=some ⟨.ref D0,dx,.fields vv2,sl2⟩)) R.na R.wa.s0 R.wa.loc R.wa.cel R.wa.pin ⟨he2,he2,⟨_,he2⟩,λh1 h2 p k=>k _ p⟩;have pr:tD H' (Ml H' a (.frz ⟨.ref D0,dx,.fields vv2,sl2⟩ (.ext λh=>h.get? a=some ⟨.ref D0,dx,.fields vv2,sl2⟩))):=λb o _ e=>by rw[aC (ba e R.na)];exact e
  have rep:M7 X.K (Ml H' a (.frz ⟨.ref D0,dx,.fields vv2,sl2⟩ (.ext λh=>h.get? a=some ⟨.ref D0,dx,.fields vv2,sl2⟩))) (.ref a) (.exc x.c x.ns x.ds):=.exc bb True.intro rfl rfl hstd hfq (hxf.pres pr) (rs.pres pr);have E4:=(E1.new (o:=.frz ⟨.ref D0,dx,.fields vv2,sl2⟩ (.ext λh=>h.get? a=some ⟨.ref D0,dx,.fields vv2,sl2⟩)) R.na).cons_d rep;have hil:i<σ'.length:=by rw[I1.len];exact(List.getElem?_eq_some_iff.mp hi).1
  refine gv (X:=X.han a) (I4.han a) hN hi hx (v:=.ref a) rfl (λs5 I5=>?_) hfn;refine wpAny_mono (hs a pins s5 _ _ Pr _ _ I5 (E4.store hil) hts) (λf s6 q=>?_) λ_ _ z=>z.elim
  cases f with
  | next =>
   obtain⟨σ2,H2,ρ2,J,E2,q⟩:=q;exact lx (J.unhan I.ok) hN hi hl hx hfn λs7 J7=>⟨_,H2,_,J7,E2.forget i none,q⟩
  | brk =>
   obtain⟨σ2,H2,ρ2,J,E2,q⟩:=q;exact lx (J.unhan I.ok) hN hi hl hx hfn λs7 J7=>⟨_,H2,_,J7,E2.forget i none,q⟩
  | cont =>
   obtain⟨σ2,H2,ρ2,J,E2,q⟩:=q;exact lx (J.unhan I.ok) hN hi hl hx hfn λs7 J7=>⟨_,H2,_,J7,E2.forget i none,q⟩
  | ret u =>
   obtain⟨v,σ2,H2,r,ρ2,τ,J,rv,E2,q⟩:=q;exact lx (J.unhan I.ok) hN hi hl hx hfn λs7 J7=>⟨v,_,H2,r,_,_,J7,rv,E2.forget (i+1) none,q⟩
end
noncomputable def N4(c:Str):D->Bool
 |.exc y _ _=>NZ c y
 |_=>false
def AM(c:Str):D->(L->Prop)->Prop:=λd k=>k (.d (.bl (N4 c d)))
def tZ(cs:List Str):D->(L->Prop)->Prop:=λd k=>k (.d (.bl (cs.any λc=>N4 c d)))
theorem AN{K:Frag}{mg:Str->Option Value}{c:Str}{C:Addr}(T:XH K mg c C)(d:D)(t:Value)(h:Nw K d t):kitOne K t (.ref C)=some (N4 c d):=by
 obtain⟨cd,hcd,_⟩:=T.cls;have hk:((clsIn K C).isSome && typeIn K (.ref C) == some (.type "type"))=true:=by rw[hcd,T.ty]; rfl
 unfold kitOne kitCls;dsimp only;rw[if_pos hk]
 cases d with
 | exc y ns xs =>
  obtain⟨D0,rfl,hs⟩:=h;have hsub:=T.sub hs;by_cases q:D0=C
  ·
   subst q;rw[if_pos (by simp)];have e1:mroIn K D0 (.ref D0)=some true:=by obtain⟨L,cd',S⟩:=dO hs;rw[S.mroIn,wZ];simp
   rw[hsub]at e1;exact e1.symm
  · rw[if_neg (by intro z;exact q (Value.ref.inj (beq_iff_eq.mp z)))];exact hsub
 |_=>cases h;rfl
section
variable{X:Cx}{a:Expr}{ta:W L}{pos p:Pos}
theorem IL{c:Str}{C:Addr}{py:Pos}(T:XH X.K X.mg c C) (hg:Gl X "isinstance") (hm:X.mg "isinstance"=none) (hy:Gl X c) (ha:PL X a ta) (hdy:(c == ("__debug__" : Str))=false:=by decide)
  (h1:starEach [a,.Name c py] X.env=(false,eval a X.env)::starEach [.Name c py] X.env:=by rfl) (h2:starEach [.Name c py] X.env=[(false,eval (.Name c py) X.env)]:=by rfl) (hpl:(backTo pos (starEach [.Name c py] X.env)).any (·.1)=false:=by rfl) :
  PL X (.Call (.Name "isinstance" p) [a,.Name c py] [] pos) (Nj (AM c) ta):=by
 have cr:iC X (.builtin "isinstance") (λxs H Q=>∃ x d,xs=[x,.ref C]/\M7 X.K H x d/\Q (.bl (N4 c d)) H):=by intro pins s σ H xs us Q I rv h;obtain⟨x,d,rfl,r,q⟩:=h;obtain⟨u,w,rfl,r1,r2⟩:=yp rv;cases r2;exact xa I r1 r (λt ht=>AN T d t ht) λtk=>⟨.bl _,H,I.tok _,rfl,q⟩
 refine PL.of (nU cr hg hm (by decide +kernel) (bV (av ha).pe (bV (vi hy T.m (v:=.ref C) rfl hdy) ic h2) h1) (he:=h1) (hpl:=hpl)) λσ H Pr ρ post E h=>?_
 refine⟨Pr,ρ,λr ρ1=>match r with
  |.d x=>AM c x λr=>post r ρ1
  |_=>False,E,h,λv H' r ρ' E' p=>?_⟩
 cases r with
 | d x =>
  obtain⟨_,e1,p1⟩:=E'.head_d;cases e1;exact⟨_,x,rfl,p1,_,ρ',E'.tail.cons_d (.bl _),p⟩
 |_=>exact p.elim
end
noncomputable def K4(f:Str):D->Option D
 |.exc _ ns ds=>(ns.zip ds).lookup f
 |_=>none
def t5(f:Str):D->(L->Prop)->Prop:=λd k=>match K4 f d with
 |some v=>k (.d v)
 |none=>False
theorem ql{α:Type}{f:Str}:∀{ns:List Str}{ds:List α}{v:α},(ns.zip ds).lookup f=some v->f∈ns
 | n::ns,d::ds,v,h=>by
  simp only[List.zip_cons_cons,List.lookup]at h;split at h
  · rename_i q;rw[beq_iff_eq.mp q];exact List.mem_cons_self
  · exact List.mem_cons_of_mem _ (ql h)
 |[],_,_,h=>by simp at h
 |_::_,[],_,h=>by simp at h
theorem oW{K:Frag}{H:Hp}{f:Str}:∀{ns:List Str}{vs:List V}{ds:List D}{d:D},ns.length=vs.length->b7 K H vs ds->(ns.zip ds).lookup f=some d->∃v,(ns.zip vs).lookup f=some v/\M7 K H v d
 | n::ns,v::vs,_,d,hl,.cons r t,h=>by
  simp only[List.zip_cons_cons,List.lookup]at h ⊢;split at h
  · cases h;exact⟨v,rfl,r⟩
  · exact oW (by simpa using hl) t h
 |[],_,_,_,_,_,h=>by simp at h
 |_::_,[],_,_,hl,_,_=>by simp at hl
theorem yT{v:V}{u:Value}(r:cq v u):handedIn u=true:=by
 cases v with
 |non=>cases r;rfl
 |bl b=>cases r;rfl
 |int i=>obtain⟨t,rfl⟩:=r;rfl
 |str i=>obtain⟨t,rfl⟩:=r;rfl
 |byt i=>obtain⟨t,rfl⟩:=r;rfl
 |flt i=>obtain⟨t,rfl⟩:=r;rfl
 |ref a=>cases r;rfl
 |ty n=>cases r;rfl
section
variable{X:Cx}{e a:Expr}{te ta:W L}{f:Str}{pos p:Pos}
theorem Eb(he:PL X e te)(hb:attributeBase e f X.env (eval e X.env)=eval e X.env:=by rfl):PL X (.Attribute e f pos) (Nj (t5 f) te):=by
 intro pins s σ H Pr ρ post I E h;refine EX hb (Mv (he pins s σ H Pr ρ _ I E h) λu s1 q=>?_);obtain⟨x,H1,dx,ρ1,I1,r1,E1,q1⟩:=EL.frz (post:=λdx ρ1=>t5 f dx λr=>post r ρ1) q;obtain⟨_,e1,p1⟩:=E1.head_d;cases e1;unfold t5 at q1;split at q1
 ·
  rename_i v hv
  cases p1 with
  | @exc a o w cc C ns vs ds h1 hvv hc hn hs hq hf rs =>
   cases r1;have hv:(ns.zip ds).lookup f=some v:=hv;obtain⟨L0,cd,S⟩:=dO hs;rcases id hf with⟨z1,z2,z3⟩|⟨d,od,z1,z2,z3⟩
   · subst z1;simp at hv
   ·
    obtain⟨v',hl,rv⟩:=oW z3 rs hv;obtain⟨hod,mA,nA,rA⟩:=(show s1.heap.get? d=some od/\∃mA,s1.heap.Ns1 d mA/\∀g,B8 ((ns.zip vs).lookup g) (mA g)from I1.hok d _ z2);have ro:=rA f;rw[hl]at ro
    cases hm:mA f with
    |none=>rw[hm]at ro;exact ro.elim
    | some u0 =>
     rw[hm]at ro;obtain⟨od',hod',hlk⟩:=zJ nA;rw[hod]at hod';cases hod';obtain⟨oi,Ia,hoi⟩:=qP I1 h1 hc hn hf;obtain⟨q0,e0,e0'⟩:=hoi d z1;rw[hod]at e0';cases e0';subst e0;have hfo:=S.fown (name:=f) (o:=od) (v:=u0) (hq f (ql hv)) ((hlk f).trans (by rw[hm]));have hh:handedIn u0=true:=yT ro;exact zX S I1.kIn Ia hfo hh ⟨v',H1,.d v,ρ1,I1.tok _,ro,E1.tail.cons_d rv,q1⟩
  |_=>cases hv
 · exact q1.elim
structure JL (X:Cx) (es:List Expr) (cs:List Str) (Cs:List Addr):Prop where
 pa:PA X es (λ_ H Q=>Q (Cs.map V.ref) H)
 h:Paired (λc C=>XH X.K X.mg c C) cs Cs
theorem Ge:JL X [] [] []:=⟨ic,.nil⟩
theorem fm{c:Str}{C:Addr}{py:Pos}{es:List Expr}{cs:List Str}{Cs:List Addr}(T:XH X.K X.mg c C)(hy:Gl X c)(h:JL X es cs Cs) (hdy:(c == ("__debug__" : Str))=false:=by decide) (hs:starEach (.Name c py::es) X.env=(false,eval (.Name c py) X.env)::starEach es X.env:=by rfl):JL X (.Name c py::es) (c::cs) (C::Cs) :=
 ⟨bV (vi hy T.m (v:=.ref C) rfl hdy) h.pa hs,.cons T h.h⟩
theorem xB{K:Frag}{mg:Str->Option Value}{d:D}{t:Value}(ht:Nw K d t):∀{cs:List Str}{Cs:List Addr},Paired (λc C=>XH K mg c C) cs Cs->kitAny K t (Cs.map Value.ref)=some (cs.any λc=>N4 c d)
 |_,_,.nil=>rfl
 | c::cs,C::Cs,.cons T r=>by
  have ih:=xB ht r;simp only[List.map_cons,List.any_cons];unfold kitAny;rw[AN T d t ht];cases N4 c d
  · exact ih
  · rfl
theorem AO{Cs:List Addr}:∀{us:List Value},cB (Cs.map V.ref) us->us=Cs.map Value.ref:=by
 induction Cs with
 |nil=>intro us h;cases h;rfl
 |cons C Cs ih=>intro us h;cases h with|cons r t=>cases r;rw[ih t];rfl
theorem Gf{es:List Expr}{cs:List Str}{Cs:List Addr} {x1} {tpos:Pos} (T:JL X es cs Cs) (hg:Gl X "isinstance") (hm:X.mg "isinstance"=none) (ha:PL X a ta) (hz:Cs.length≤30:=by decide)
  (h1:starEach [a,.Tuple es x1 tpos] X.env=(false,eval a X.env)::starEach [.Tuple es x1 tpos] X.env:=by rfl) (h2:starEach [.Tuple es x1 tpos] X.env=[(false,eval (.Tuple es x1 tpos) X.env)]:=by rfl)
  (hpl:(backTo pos (starEach [.Tuple es x1 tpos] X.env)).any (·.1)=false:=by rfl) :
  PL X (.Call (.Name "isinstance" p) [a,.Tuple es x1 tpos] [] pos) (Nj (tZ cs) ta):=by
 have cr:iC X (.builtin "isinstance") (λxs H Q=>∃ x d q,xs=[x,.ref q]/\H q=some (.tup (Cs.map V.ref))/\M7 X.K H x d/\Q (.bl (cs.any λc=>N4 c d)) H):=by intro pins s σ H xs us Q I rv h;obtain⟨x,d,q,rfl,hq,r,k⟩:=h;obtain⟨u,w,rfl,r1,r2⟩:=yp rv;cases r2;obtain⟨its,vs,it,_⟩:=I.tuple (MA.of hq);obtain rfl:=AO vs;exact AF I r1 r it (λt ht=>xB ht T.h) λtk=>⟨.bl _,H,I.tok _,rfl,k⟩
 refine PL.of (nU cr hg hm (by decide +kernel) (bV (av ha).pe (bV (HD T.pa) ic h2) h1) (he:=h1) (hpl:=hpl)) λσ H Pr ρ post E h=>?_
 refine⟨Pr,ρ,λr ρ1=>match r with
  |.d x=>tZ cs x λr=>post r ρ1
  |_=>False,E,h,λv H' r ρ' E' pp=>?_⟩
 cases r with
 | d x =>
  obtain⟨_,e1,p1⟩:=E'.head_d;cases e1;refine⟨by rw[List.length_map];exact Nat.le_trans hz (by decide),λq hq=>⟨_,x,q,rfl,bb,p1.new hq,_,ρ',(E'.tail.new hq).cons_d (.bl _),pp⟩⟩
 |_=>exact pp.elim
end
theorem Ec{X:Cx}:NV X (λ_=>False):=λ_ _ _ _ _ _ _ _ _ _ _ _ h=>h.elim
section
variable{X:Cx}{k k' n:Nat}{f:Addr}{fd:FuncData}{ps:List Str}{fs:NW}{g:Str}{st:Stmt}{e:Expr}{es:List Expr}{bs:List (Option Nat)}{t:W (List L)}{p pos cpos:Pos}{xp:Xc->Prop}{c:Str}{C fI:Addr}{ns:List Str}
theorem Ed(F:FnOk X.prog X.w X.K X.mg X.base (NT X.prog X.w) k f fd ps (NX X.K n fs))(T:FX X.K X.mg g st f fd ps)(hr:iI k' X.A)(hx:NV X xp)(ha:M8 X (e::es) bs t)(hk:k≤k':=by decide)(hg:Gl X g:=by rfl)(hn:bs.length=n:=by rfl) (hdb:(g == ("__debug__" : Str))=false:=by decide) (he:starEach (e::es) X.env=(false,eval e X.env)::starEach es X.env:=by rfl) (hpl:(backTo pos (starEach es X.env)).any (·.1)=false:=by rfl) :
  PL X (.Call (.Name g p) (e::es) [] pos) (tV fs xp t):=CU F (hr.mono hk) hg T.m T.f.kp T.b hx ha hn hdb he hpl
theorem IM{pins0:List (Addr×Obj)}{Pr0:Hp}{xt:Xc->Ev->Prop}(F:FnOk X.prog X.w X.K X.mg X.base (NT X.prog X.w) k f fd ps (NX X.K n fs))(T:FX X.K X.mg g st f fd ps)(hr:iI k' X.A)(ha:M8 (X.tb pins0 Pr0 xt) (e::es) bs t)(hk:k≤k':=by decide)(hg:Gl X g:=by rfl)(hn:bs.length=n:=by rfl) (hdb:(g == ("__debug__" : Str))=false:=by decide) (he:starEach (e::es) X.env=(false,eval e X.env)::starEach es X.env:=by rfl) (hpl:(backTo pos (starEach es X.env)).any (·.1)=false:=by rfl) :
  N2 X pins0 Pr0 xt (.Call (.Name g p) (e::es) [] pos) (tY fs xt t):=CW F (hr.mono hk) hg T.m T.f.kp T.b ha hn hdb he hpl
theorem t6(T:XT X.K X.mg c C fI fd ps ns)(F:FnOk X.prog X.w X.K X.mg X.base CX0 2 fI fd ps (IG X.K ns))(hr:iI k' X.A)(hx:NV X xp)(ha:M8 X (e::es) bs t)(hk:3≤k':=by decide)(hg:Gl X c:=by rfl)(hn:bs.length=ns.length:=by rfl)
  (hdb:(c == ("__debug__" : Str))=false:=by decide) (he:starEach (e::es) X.env=(false,eval e X.env)::starEach es X.env:=by rfl) (hpl:(backTo cpos (starEach es X.env)).any (·.1)=false:=by rfl) :
  PM X (.Raise (some (.Call (.Name c p) (e::es) [] cpos)) none pos) (tX c ns xp t) :=
 CV T F (λvs hv=>Gb T.s T.fn hv) (hr.mono hk) hg hx ha hn hdb he hpl
noncomputable abbrev N5(g q:Str)(st:Stmt)(md:Value)(c:Nat):FuncData:=PySem.W.fnOf g q (iL st) (eG st) (ar st) .none .none .none md none (.ref c) .none
theorem AI.mk'{K:Frag}{mg:Str->Option Value}{h:Heap}(X:K.In h)(G:h.Ns mainGlobals mg){L fL:Addr}{st:Stmt}{md:Value}{c:Nat} (e1:nsIn K mainGlobals "LoadError"=some (some (.ref L))) (e2:readsIn K L (.type "type")=true) (e3:specialIn K (.ref L) "__getattribute__"=some (some (.builtin "type.__getattribute__")))
  (e4:findCls K (.ref L) (.type "type") "__init__"=some (.val (.ref fL))) (e5:K.lookup fL=some ⟨.type "function",none,.func (N5 "__init__" "LoadError.__init__" st md c),#[]⟩) (e6:codeIn K (.ref c) "LoadError.__init__"=true) (e7:keepIn K (.ref fL)=true)
  (e8:∀(kV doc pm:Value)(an:Option Addr)(cdv ct:Value)(us:List Value),us.length=2->bindArgs (PySem.W.fnOf "__init__" "LoadError.__init__" (iL st) (eG st) (ar st) .none kV doc pm an cdv ct) ⟨us,[]⟩=pure ((["self","text"]:List Str).zip us)):AI K mg L fL (N5 "__init__" "LoadError.__init__" st md c) st :=
 ⟨mg_of X G e1,e2,e3,e4,qd e5 e6 e7,(qd e5 e6 e7).binds e8⟩
theorem XT.mk'{K:Frag}{mg:Str->Option Value}{h:Heap}(X:K.In h)(G:h.Ns mainGlobals mg){c:Str}{C fI:Addr}{fd:FuncData}{ps ns:List Str}(e1:nsIn K mainGlobals c=some (some (.ref C)))(e2:iM K c C=true)(e3:F4 K C fI=true)(b:mq K fd ps [])(e4:keepIn K (.ref C)=true)(e5:(ns.all λf=>findIn K (.ref C) f == some none)=true):XT K mg c C fI fd ps ns :=
 ⟨mg_of X G e1,e2,Iy e3,b,e4,λf hf=>beq_iff_eq.mp (List.all_eq_true.mp e5 f hf)⟩
theorem XH.mk'{K:Frag}{mg:Str->Option Value}{h:Heap}(X:K.In h)(G:h.Ns mainGlobals mg){c:Str}{C:Addr}(e1:nsIn K mainGlobals c=some (some (.ref C)))(e2:((clsIn K C).any λcd=>cd.name == c)=true) (e3:typeIn K (.ref C)=some (.type "type")) (e4:mroIn K C (.type "BaseException")=some true):XH K mg c C :=
 ⟨mg_of X G e1,e1,(let ⟨cd,h1,h2⟩:=any_some e2;⟨cd,h1,beq_iff_eq.mp h2⟩),e3,e4⟩
theorem C0{K:Frag}:∀vs H Q E,JK K vs H Q E->vs.length=2:=λ_ _ _ _ ⟨_,_,_,_,_,_,e,_⟩=>by rw[e];rfl
theorem C1{K:Frag}{ns:List Str}:∀vs H Q E,IG K ns vs H Q E->vs.length=ns.length+1:=λ_ _ _ _ ⟨_,_,_,_,_,_,e,_,_,_,l,_⟩=>by rw[e,List.length_cons,l]
end
end L2
namespace L2
open PySem PySem.Spec PyProof.Rows
section
variable{κ:Type}[DecidableEq κ]
theorem KV.any{kvs:List (κ×V)}{vs:List (κ×Value)}(r:KV kvs vs)(k:κ):(kvs.any λkv=>decide (kv.1=k))=vs.any λkv=>decide (kv.1=k):=by
 unfold KV at r
 induction r with
 |nil=>rfl
 |cons h t ih=>rw[List.any_cons,List.any_cons,ih,h.1]
theorem KV.length{kvs:List (κ×V)}{vs:List (κ×Value)}(r:KV kvs vs):kvs.length=vs.length:=Paired.length r
end
theorem IP{P:Program}{w:World}{k:Mj}{u:Value}(r:cq (kV k) u):(mn P w).is k u=true:=by
 cases k with
 |inl i=>obtain⟨t,e⟩:=(show ∃t,u=Value.int i t from r);subst e;exact vg P w i t
 |inr x=>obtain⟨t,e⟩:=(show ∃t,u=Value.str x t from r);subst e;exact vh P w x t
abbrev DR(K:PySem.W.Frag)(H:Hp):List (Mj×V)->List (Mj×D)->Prop:=Paired λ(p:Mj×V) (q:Mj×D)=>p.1=q.1/\M7 K H p.2 q.2
theorem DR.any{K:PySem.W.Frag}{H:Hp}{k:Mj}:∀{vs:List (Mj×V)}{kvs:List (Mj×D)},DR K H vs kvs->(vs.any λp=>decide (p.1=k))=kvs.any λp=>decide (p.1=k)
 |_,_,.nil=>rfl
 |p::vs,q::kvs,.cons h t=>by rw[List.any_cons,List.any_cons,DR.any t,h.1]
section
variable{X:Cx}{pos:Pos}
noncomputable def flatC:D->Bool
 |.int _=>true
 |.str _=>true
 |.bl _=>true
 |.non=>true
 |_=>false
theorem M7.flatC{K:PySem.W.Frag}{H H':Hp}{v:V}{d:D}(h:L2.flatC d=true)(r:M7 K H v d):M7 K H' v d:=by
 cases r with
 |int i=>exact .int i
 |str i=>exact .str i
 |bl i=>exact .bl i
 |non=>exact .non
 |_=>cases h
inductive N6 (X:Cx):List (Option Expr)->List Expr->List (Mj×D)->Prop where
 |nil:N6 X [] [] []
 |int {k v:Expr} {ks:List (Option Expr)} {vs:List Expr} {i:Int} {d:D} {kvs:List (Mj×D)} (hk:PL X k (wC (.int i))) (hv:PL X v (wC d)) (hf:flatC d=true) (t:N6 X ks vs kvs):N6 X (some k::ks) (v::vs) ((.inl i,d)::kvs)
 |str {k v:Expr} {ks:List (Option Expr)} {vs:List Expr} {y:Str} {d:D} {kvs:List (Mj×D)} (hk:PL X k (wC (.str y))) (hv:PL X v (wC d)) (hf:flatC d=true) (t:N6 X ks vs kvs):N6 X (some k::ks) (v::vs) ((.inr y,d)::kvs)
theorem N6.run{pos:Pos}{pins:List (Addr×Obj)}{σ:St}{Pr:Hp}{ρ:Ev}:∀{ks:List (Option Expr)}{vs:List Expr}{kvs:List (Mj×D)},N6 X ks vs kvs->∀{H:Hp}{s:Shared}{Q:List (Value×Value)->Shared->Prop},Mt X pins σ H s->aA X.K Pr H σ ρ ->
  (∀(H':Hp)(s':Shared)(us:List (Value×Value))(ps:List (Mj×V))(qs:List (Mj×Value)),Mt X pins σ H' s'->aA X.K Pr H' σ ρ->Carries (mn X.prog X.w) us qs->KV ps qs->DR X.K H' ps kvs->Q us s') ->
  wpAny (model X.prog X.w) X.A (evalPairs (pairTrees ks vs X.env pos)) Q X.xe s
 |_,_,_,.nil,H,s,Q,I,E,h=>pairTrees_nil_walk (h H s [] [] [] I E True.intro .nil .nil)
 | _,_,_,.int (d:=d) hk hv hf t,H,s,Q,I,E,h=>by refine pairTrees_cons_walk (Mv (hk pins s σ H Pr ρ (λr ρ'=>r=.d _/\ρ'=ρ) I E ⟨rfl,rfl⟩) λu s1 ⟨v,H1,r,ρ',I1,rv,E1,e1,e2⟩=>?_);subst e1 e2;refine Mv (hv pins s1 σ H1 Pr _ (λr ρ'=>r=.d d/\ρ'=_) I1 E1.tail ⟨rfl,rfl⟩) λu2 s2 ⟨v2,H2,r2,ρ2,I2,rv2,E2,e1,e2⟩=>?_;subst e1 e2;obtain⟨_,z1,p1⟩:=E1.head_d;cases z1;cases p1;obtain⟨_,z2,p2⟩:=E2.head_d;cases z2;exact N6.run t I2 E2.tail λH' s' us ps qs I3 E3 hc hk3 hd=>h H' s' ((u,u2)::us) ((.inl _,v2)::ps) ((.inl _,u2)::qs) I3 E3 ⟨IP rv,rfl,hc⟩ (.cons ⟨rfl,rv2⟩ hk3) (.cons ⟨rfl,p2.flatC hf⟩ hd)
 | _,_,_,.str (d:=d) hk hv hf t,H,s,Q,I,E,h=>by refine pairTrees_cons_walk (Mv (hk pins s σ H Pr ρ (λr ρ'=>r=.d _/\ρ'=ρ) I E ⟨rfl,rfl⟩) λu s1 ⟨v,H1,r,ρ',I1,rv,E1,e1,e2⟩=>?_);subst e1 e2;refine Mv (hv pins s1 σ H1 Pr _ (λr ρ'=>r=.d d/\ρ'=_) I1 E1.tail ⟨rfl,rfl⟩) λu2 s2 ⟨v2,H2,r2,ρ2,I2,rv2,E2,e1,e2⟩=>?_;subst e1 e2;obtain⟨_,z1,p1⟩:=E1.head_d;cases z1;cases p1;obtain⟨_,z2,p2⟩:=E2.head_d;cases z2;exact N6.run t I2 E2.tail λH' s' us ps qs I3 E3 hc hk3 hd=>h H' s' ((u,u2)::us) ((.inr _,v2)::ps) ((.inr _,u2)::qs) I3 E3 ⟨IP rv,rfl,hc⟩ (.cons ⟨rfl,rv2⟩ hk3) (.cons ⟨rfl,p2.flatC hf⟩ hd)
theorem N6.len:∀{ks:List (Option Expr)}{vs:List Expr}{kvs:List (Mj×D)},N6 X ks vs kvs->ks.all (·.isSome)=true/\ks.length=vs.length/\ks.length=kvs.length
 |_,_,_,.nil=>⟨rfl,rfl,rfl⟩
 | _,_,_,.int _ _ _ t=>by obtain⟨h1,h2,h3⟩:=t.len;simp[h1,h2,← h3]
 | _,_,_,.str _ _ _ t=>by obtain⟨h1,h2,h3⟩:=t.len;simp[h1,h2,← h3]
end
end L2
namespace L2
open PySem PySem.Spec PyProof.Rows PySem.SeqAt
mutual
noncomputable def xC:Nat->D->Bool
 |_,.non=>true
 |_,.bl _=>true
 |_,.int _=>true
 |_,.str _=>true
 |n+1,.tup xs=>vI n xs
 |n+1,.lst xs=>vI n xs
 |n+1,.dct m=>m == 0
 |_,_=>false
noncomputable def vI:Nat->List D->Bool
 |_,[]=>true
 |n,x::xs=>xC n x && vI n xs
end
mutual
noncomputable def n5:D->Nat
 |.int _=>602
 |.str x=>10*x.length+2
 |.tup xs=>oX xs+3
 |.lst xs=>oX xs+3
 |_=>6
noncomputable def oX:List D->Nat
 |[]=>0
 |x::xs=>n5 x+2+oX xs
end
mutual
theorem xD:∀d:D,(Nq d).leavesShort 601=true->(Nq d).shown.length≤n5 d
 |.non,_=>by decide
 |.bl b,_=>by cases b<;>decide
 | .int i,h=>by
  have e:(PyData.shown (.int i)).length≤601:=by simpa only[Nq,PyData.leavesShort,decide_eq_true_eq]using h
  exact Nat.le_succ_of_le e
 | .str x,h=>by
  have hx:∀c∈x.cps.toList,c<16^8:=by simpa only[Nq,PyData.leavesShort,List.all_eq_true,decide_eq_true_eq]using h
  have e:=PySem.StrLaws.reprText_len x hx
  simp only[Nq,PyData.shown,n5]
  omega
 | .tup xs,h=>by
  have h1:=vJ xs (by simpa only[Nq,PyData.leavesShort]using h)
  have h2:=tupleText_len_le (PyData.shownAll (de xs))
  have h3:=PyData.shownAll_length (de xs)
  simp only[Nq,PyData.shown,n5]
  omega
 | .lst xs,h=>by
  have h1:=vJ xs (by simpa only[Nq,PyData.leavesShort]using h)
  have h2:=listText_len_le (PyData.shownAll (de xs))
  have h3:=PyData.shownAll_length (de xs)
  simp only[Nq,PyData.shown,n5]
  omega
 |.dct _,_=>by simp only[Nq,n5];decide
 |.exc _ _ _,_=>by simp only[Nq,n5];decide
 |.fn _ _,_=>by simp only[Nq,n5];decide
theorem vJ:∀ds:List D,PyData.leavesShortAll 601 (de ds)=true->((PyData.shownAll (de ds)).map (·.length)).sum+2*(de ds).length≤oX ds
 |[],_=>by simp only[de,PyData.shownAll,List.map_nil,List.sum_nil,List.length_nil,oX];omega
 | d::ds,h=>by
  have h':(Nq d).leavesShort 601=true/\PyData.leavesShortAll 601 (de ds)=true:=by simpa only[de,PyData.leavesShortAll,Bool.and_eq_true]using h
  have h1:=xD d h'.1
  have h2:=vJ ds h'.2
  simp only[de,PyData.shownAll,List.map_cons,List.sum_cons,List.length_cons,oX]
  omega
end
structure Gg (d:D):Prop where
 ok:NF 40 d=true
 sh:bE d=true
 ln:(Nq d).shown.length≤sizeLine
theorem xu.l{d:D}(h:xu d):Gg d:=⟨h.ok,h.sh,h.len⟩
theorem Gg.of{d:D}(h1:NF 40 d=true)(h2:bE d=true)(h3:n5 d≤16777216):Gg d:=by
 refine⟨h1,h2,Nat.le_trans (xD d (PyData.leavesShort_of_canLay0 601 _ (mz 40 d h1).1 (gE d h2).1)) ?_⟩;have e:sizeLine=16777216:=by decide
 rw[e];exact h3
end L2
namespace L2
open PySem PySem.Spec PyProof.Rows
end L2
namespace L2
open PySem PySem.Spec PyProof.Rows PySem.W
end L2
namespace L2
open PySem PySem.Spec PyProof.Rows
end L2
namespace L2
open PySem PySem.Spec PyProof.Rows PySem.SeqAt
mutual
noncomputable def N7:D->Bool
 |.dct n=>n == 0
 |.exc _ _ _=>false
 |.fn _ _=>false
 |.tup xs=>zm xs
 |.lst xs=>zm xs
 |.str x=>PyData.strOk x
 |_=>true
noncomputable def zm:List D->Bool
 |[]=>true
 |x::xs=>N7 x && zm xs
end
section
variable{X:Cx}{pins:List (Addr×Obj)}{σ:St}{H:Hp}{s:Shared}
theorem Mt.ne_sys(I:Mt X pins σ H s){a:Addr}{u:HO}(h:H a=some u):sysModules≠a:=λe=>by obtain⟨mm,o,es,ep,q,_⟩:=I.mod.sysm;subst e;rw[(I.bs _ o q).2]at h;cases h
theorem Mt.lst_sys(I:Mt X pins σ H s){a:Addr}{xs:List V}(h:M6 X.K H a xs):sysModules≠a:=by
 rcases h with⟨o,h⟩|⟨o,its,n,h,_,_,hd,_⟩
 · exact I.ne_sys h
 · intro e;obtain⟨mm,o',es,ep,q,hd',_⟩:=I.mod.sysm;subst e;rw[I.mod.kin _ o h]at q;cases q;rw[hd]at hd';cases hd'
mutual
theorem Ee(I:Mt X pins σ H s):∀(d:D)(x:V)(u:Value),cq x u->M7 X.K H x d->N7 d=true->∃as,Reads s.heap u (Nq d) as/\sysModules∉as
 |.non,_,_,rv,r,_=>by cases r;cases rv;exact⟨_,.none,List.not_mem_nil⟩
 |.bl b,_,_,rv,r,_=>by cases r;cases rv;exact⟨_,.bool b,List.not_mem_nil⟩
 |.int i,_,_,rv,r,_=>by cases r;obtain⟨t,rfl⟩:=rv;exact⟨_,.int i t,List.not_mem_nil⟩
 |.str z,_,_,rv,r,_=>by cases r;obtain⟨t,rfl⟩:=rv;exact⟨_,.str z t,List.not_mem_nil⟩
 | .tup xs,_,_,rv,r,hc=>by
  cases r with
  | tup h rs =>
   cases rv
   obtain⟨its,vs,⟨o,e,c,n,d⟩,_⟩:=I.tuple h
   obtain⟨as,ra,hn⟩:=vK I xs _ _ vs rs (by simpa only[N7]using hc)
   exact⟨_,.tuple (xs:=de xs) e c d (by simpa using ra),hn⟩
 | .lst xs,_,_,rv,r,hc=>by
  cases r with
  | lst h rs =>
   cases rv
   obtain⟨its,vs,⟨o,n,e,c,_,d⟩,_⟩:=I.list h.l
   obtain⟨as,ra,hn⟩:=vK I xs _ _ vs rs (by simpa only[N7]using hc)
   exact⟨_,.list (xs:=de xs) e c d (by simpa using ra),λz=>(List.mem_cons.mp z).elim (I.lst_sys h) hn⟩
 | .dct n,_,_,rv,r,hc=>by
  cases r with
  | dct h =>
   rename_i a o kvs
   cases rv
   have hk:kvs=[]:=by
    have:kvs.length=0:=by simpa only[N7,beq_iff_eq]using hc
    exact List.length_eq_zero_iff.mp this
   subst hk
   obtain⟨_,_,_,vs,kv,o',es,ep,e,ex,d,_,pr,_⟩:=I.hok a _ h
   cases kv
   have he:es.toList=[]:=by
    cases q:es.toList with
    |nil=>rfl
    |cons x xs=>rw[q]at pr;cases pr
   refine⟨_,.dict (kvs:=[]) (as:=[]) (bs:=[]) e ex.1 d (by rw[he];exact .nil) (by rw[he];exact .nil),λz=>?_⟩
   exact(I.ne_sys h) (by simpa using z)
 |.exc _ _ _,_,_,_,_,hc=>by simp[N7]at hc
 |.fn _ _,_,_,_,_,hc=>by simp[N7]at hc
theorem vK(I:Mt X pins σ H s):∀(ds:List D)(vs:List V)(us:List Value),cB vs us->b7 X.K H vs ds->zm ds=true->∃as,ReadsAll s.heap us (de ds) as/\sysModules∉as
 |[],_,_,rv,r,_=>by cases r;cases rv;exact⟨_,.nil,List.not_mem_nil⟩
 | d::ds,_,_,rv,r,hc=>by
  have hc':N7 d=true/\zm ds=true:=by simpa[zm]using hc
  cases r with
  | cons r0 rs =>
   cases rv with
   | cons v0 vs =>
    obtain⟨as,ra,na⟩:=Ee I d _ _ v0 r0 hc'.1
    obtain⟨bs,rb,nb⟩:=vK I ds _ _ vs rs hc'.2
    exact⟨_,.cons ra rb,λz=>(List.mem_append.mp z).elim na nb⟩
end
end
mutual
theorem oY:∀d:D,N7 d=true->bE d=true->(Nq d).leavesShort 601=true
 |.non,_,_=>rfl
 |.bl _,_,_=>rfl
 |.dct _,_,_=>rfl
 |.exc _ _ _,h,_=>by simp[N7]at h
 |.fn _ _,h,_=>by simp[N7]at h
 | .int i,_,h=>by
  have:=(gE (.int i) h).1
  simpa only[Nq,PyData.leavesShort,PyData.intsShort]using this
 |.str x,h,hs=>PyData.leavesShort_of_canLay0 601 (.str x) (by simpa only[N7,PyData.canLay0]using h) (gE (.str x) hs).1
 | .tup xs,h,hs=>by
  have:=mB xs (by simpa only[N7]using h) (by simpa only[bE]using hs)
  simpa only[Nq,PyData.leavesShort]using this
 | .lst xs,h,hs=>by
  have:=mB xs (by simpa only[N7]using h) (by simpa only[bE]using hs)
  simpa only[Nq,PyData.leavesShort]using this
theorem mB:∀ds:List D,zm ds=true->cV ds=true->PyData.leavesShortAll 601 (de ds)=true
 |[],_,_=>rfl
 | d::ds,h,hs=>by
  simp only[zm,Bool.and_eq_true]at h
  simp only[cV,Bool.and_eq_true]at hs
  simp only[de,PyData.leavesShortAll,oY d h.1 hs.1,mB ds h.2 hs.2,Bool.and_self]
end
structure K5 (d:D):Prop where
 ok:N7 d=true
 sh:bE d=true
 dp:(Nq d).depth≤40
 sg:n5 d≤16777216
 ni:∀i,d≠.int i
theorem K5.len{d:D}(h:K5 d):(Nq d).shown.length≤sizeLine:=by
 have e:sizeLine=16777216:=by decide
 rw[e];exact Nat.le_trans (xD d (oY d h.ok h.sh)) h.sg
end L2
namespace L2
open PySem PySem.Spec PyProof.Rows
section
def IQ(o:Option L)(i k:Nat)(ρ:Ev)(post:L->Ev->Prop):Prop:=match o with
 |some (.bx none ls)=>∃l,ls[k]?=some l/\post l (ρ.set i (.bx none (ls.set k .un)))
 |some (.d (.tup ds))=>∃d,ds[k]?=some d/\post (.d d) ρ
 |_=>False
theorem C2(ls:List L)(i k:Nat)(ρ:Ev)(post:L->Ev->Prop):IQ (some (.bx none ls)) i k ρ post=∃l,ls[k]?=some l/\post l (ρ.set i (.bx none (ls.set k .un))):=(rfl)
theorem Gh(ds:List D)(i k:Nat)(ρ:Ev)(post:L->Ev->Prop):IQ (some (.d (.tup ds))) i k ρ post=∃d,ds[k]?=some d/\post (.d d) ρ:=(rfl)
end
section
def Km(r:L)(ρ:Ev)(post:L->Ev->Prop):Prop:=match r with
 |.bx (some _) ls=>post (.bx none ls) ρ
 |_=>False
theorem C3(a:Addr)(ls:List L)(ρ:Ev)(post:L->Ev->Prop):Km (.bx (some a) ls) ρ post=post (.bx none ls) ρ:=(rfl)
end
end L2
namespace L2
open PySem PySem.Spec PyProof.Rows PySem.W
theorem Un.one{P:Program}{w:World}{fs:List Addr}{H H':Hp}{h h':Heap}{c:Addr}{oc:Obj}(hc:H c=none)(gc:h.get? c=some oc)(cc:∀q,¬sP oc q)(u:Un fs [] (Ml H c (.frz oc (.own c))) H' h h')(ok:Mm P w H' h') :
  Un fs [] H (NN H' c) h h'/\Mm P w (NN H' c) h':=by
 have zc:H' c=some (.frz oc (.own c)):=u.frzs c oc _ bb;have gc':h'.get? c=some oc:=(ok c _ zc).1;have nz:∀b o,H' b=some o->o≠.frz oc (.own c)->b≠c:=λb o e n z=>by subst z;rw[zc]at e;cases e;exact n rfl
 refine⟨⟨λb o e n hb hx=>?_,λb o e n hb hx=>?_,λb o e n hx=>?_,λb o e hx=>u.there b o e hx,λb xs e=>?_,λb o v e=>?_,λb t e=>?_⟩,λb o e=>?_⟩
 ·
  by_cases z:b=c
  · subst z;rw[gc]at e;cases e;exact gc'
  · exact u.keep b o e (by rw[aC z];exact n) hb hx
 ·
  by_cases z:b=c
  · subst z;rw[gc]at e;cases e;exact⟨oc.slots,gc'⟩
  · exact u.slot b o e (by rw[aC z];exact n) hb hx
 ·
  by_cases z:b=c
  · subst z;exact lu
  · rw[c9 z];exact u.free b o e (by rw[aC z];exact n) hx
 · have z:=ba e hc;rw[c9 z];exact u.tups b xs (by rw[aC z];exact e)
 · have z:=ba e hc;rw[c9 z];exact u.frzs b o v (by rw[aC z];exact e)
 · have z:=ba e hc;rw[c9 z];exact u.tbls b t (by rw[aC z];exact e)
 ·
  have hb:b≠c:=λz=>by subst z;rw[lu]at e;cases e
  rw[c9 hb]at e;refine(ok b o e).stay (λ_ _ _ z=>z) (λd z=>?_) (λd xs z=>?_) λd od q co z=>?_
  · rw[c9 (nz d _ z λy=>nomatch y)];exact z
  · rw[c9 (nz d _ z λy=>nomatch y)];exact z
  · rw[c9 (nz d _ z λy=>by cases y;exact cc q co)];exact z
end L2
namespace L2
open PySem PySem.W
end L2
namespace L2
open PySem PySem.Spec PyProof.Rows PySem.SeqAt
structure B6 (d:D):Prop where
 ok:N7 d=true
 sh:bE d=true
 dp:(Nq d).depth≤40
 sg:n5 d≤16777216
theorem B6.len{d:D}(h:B6 d):(Nq d).shown.length≤sizeLine:=by
 have e:sizeLine=16777216:=by decide
 rw[e];exact Nat.le_trans (xD d (oY d h.ok h.sh)) h.sg
section
variable{X:Cx}
def oZ:Nu:=λds k=>∃d,ds=[d]/\B6 d/\k (.d (.str (FY d)))
theorem n6{k:Nat}(hr:iI k X.A):fJ X (.builtin "repr") oZ:=by
 intro pins s σ H Pr ρ vs us ds post I r E ps ⟨d,e,ho,h⟩;subst e;obtain⟨v,rfl,rd⟩:=nI ps;obtain⟨u,rfl,ru⟩:=qG r;have ref:∀ a,u=.ref a->wpAny (model X.prog X.w) X.A (call (.builtin "repr") [u]) (λw s'=>∃ z H' r,Mt X pins σ H' s'/\cq z w/\aA X.K Pr H' (some z::σ) (r::ρ)/\post r) X.xe s:=by rintro a rfl;obtain⟨as,rr,hn⟩:=Ee I d v _ ru rd ho.ok;have hdp:=ho.dp;refine repr_of_reads' rr (gE d ho.sh).2 (λ_=>hn) hr.gd (by have:=hr.units;omega) (λ_ _ e=>e) (λh' t tk hk=>?_) ho.len;exact⟨.str _,H,_,I.kept (h':=h') (t':=tk) hk,⟨t,rfl⟩,E.cons_d (.str _),h⟩
 cases rd with
 |non=>cases ru;exact PySem.P.repr_of_none ⟨.str _,H,_,I.tok _,⟨_,rfl⟩,E.cons_d (.str _),h⟩
 |bl b=>cases ru;exact PySem.P.repr_of_bool ⟨.str _,H,_,I.tok _,⟨_,rfl⟩,E.cons_d (.str _),by cases b<;>exact h⟩
 | int i =>
  obtain⟨t,rfl⟩:=ru;have h2:=(gE (.int i) ho.sh).2;simp only[Nq,PyData.showable,decide_eq_true_eq]at h2;exact PySem.P.repr_of_int h2 ⟨.str _,H,_,I.tok _,⟨_,rfl⟩,E.cons_d (.str _),h⟩
 |str x=>obtain⟨t,rfl⟩:=ru;exact PySem.P.repr_of_str ⟨.str _,H,_,I.tok _,⟨_,rfl⟩,E.cons_d (.str _),h⟩ ho.len
 |tup h1 h2=>cases ru;exact ref _ rfl
 |lst h1 h2=>cases ru;exact ref _ rfl
 |dct h1=>cases ru;exact ref _ rfl
 |exc=>have:=ho.ok;simp[N7]at this
 |fn=>have:=ho.ok;simp[N7]at this
end
end L2
namespace L2
open PySem PySem.Spec PyProof.Rows
def N8(o q:Option L)(i j:Nat)(t:W L)(ρ:Ev)(post:L->Ev->Prop):Prop:=match o,q with
 |some (.own _ xs),some (.own b _)=>i≠j/\eS i ρ=true/\t (ρ.set i (.d (.lst xs))) λr ρ'=>oT r=true/\∃zs,tR zs=true/\ρ'=(ρ.set i (.d (.lst xs))).set j (.own b zs)/\post r (ρ.set j (.own b zs))
 |_,_=>False
theorem Gi(a b:Addr)(xs ys:List D)(i j:Nat)(t:W L)(ρ:Ev)(post:L->Ev->Prop):N8 (some (.own a xs)) (some (.own b ys)) i j t ρ post=(i≠j/\eS i ρ=true/\t (ρ.set i (.d (.lst xs))) λr ρ'=>oT r=true/\∃zs,tR zs=true/\ρ'=(ρ.set i (.d (.lst xs))).set j (.own b zs)/\post r (ρ.set j (.own b zs))):=(rfl)
def LI(o:Option L)(ρ:Ev)(post:Bool->Ev->Prop):Prop:=match o with
 |some (.d (.lst xs))=>post (!xs.isEmpty) ρ
 |_=>False
theorem C4(xs:List D)(ρ:Ev)(post:Bool->Ev->Prop):LI (some (.d (.lst xs))) ρ post=post (!xs.isEmpty) ρ:=(rfl)
end L2
namespace HT
open PySem PySem.Spec PyProof.Rows
end HT
namespace L2
open PySem PySem.Spec PyProof.Rows
end L2
namespace L2
open PySem PySem.Spec PyProof.Rows PySem.W
def JM(X:Cx)(pins0:List (Addr×Obj))(Pr0:Hp)(xp:Xc->Ev->Prop)(es:List Expr)(bs:List (Option Nat))(t:W (List L)):Prop :=
 ∀(pos:Pos)(pins:List (Addr×Obj))(s:Shared)(σ:St)(H Pr:Hp)(ρ:Ev)(post:List L->Ev->Prop),Le Pr0 Pr->Mt (X.tb pins0 Pr0 xp) pins σ H s->aA X.K Pr H σ ρ->t ρ post ->
  wpAny (model X.prog X.w) X.A (spliced (backTo pos (starEach es X.env))) (EA (X.tb pins0 Pr0 xp) pins σ Pr bs post) (N1 X pins0 Pr0 xp) s
section
variable{X:Cx}{pins0:List (Addr×Obj)}{Pr0:Hp}{xp:Xc->Ev->Prop}{pos:Pos}{e:Expr}{es:List Expr}{bs:List (Option Nat)}
theorem Le.wide{P Q H:Hp}{K:Frag}{σ:St}{ρ:Ev}(h:Le P Q)(E:aA K Q H σ ρ):Le P (bz H ρ):=λb o q=>by
 have q2:=h b o q;unfold bz;by_cases m:b∈owns ρ
 · have:=E.off b m;rw[q2]at this;cases this
 · rw[if_neg m];exact E.sub b o q2
theorem C5:JM X pins0 Pr0 xp [] [] aB:=λ_ pins s σ H Pr ρ post _ I E h=>Calls.spliced_nil ⟨[],H,[],ρ,I,.nil,rfl,rfl,E,λk i e=>by simp at e,h⟩
theorem xE{r:W (List L)}{t:W L}(ha:N2 X pins0 Pr0 xp e t)(hr:JM X pins0 Pr0 xp es bs r)(hs:starEach (e::es) X.env=(false,eval e X.env)::starEach es X.env:=by rfl):JM X pins0 Pr0 xp (e::es) (none::bs) (ao t r):=by
 intro pos pins s σ H Pr ρ post le I E h;rw[hs];show wpAny _ _ (spliced ((false,eval e X.env)::backTo pos (starEach es X.env))) _ _ s;refine Calls.spliced_cons (Mv (ha pins s σ H Pr ρ _ le I E h) λu s1 ⟨x,H1,l,ρ1,I1,r1,E1,q1⟩=>?_);refine Mv (hr pos pins s1 σ H1 _ ρ1 _ (le.wide E1.tail) I1 E1.tail.wide q1) λus s2 ⟨vs,H2,ls,ρ2,I2,r2,hl,hb,E2,hv,q2⟩=>?_;have E3:aA X.K Pr H2 (vs.map some++(some x::σ)) (ls++(l::ρ2)):=aA.step (τ:=[some x]) (lam:=[l]) E1 rfl E2 (by simp[hl])
 have E4:aA X.K Pr H2 (some x::(vs.map some++σ)) (l::(ls++ρ2)):=by
  have pm:(owns (ls++(l::ρ2))).Perm (owns (l::(ls++ρ2))):=iO List.perm_middle;have s1:=Paired.unapp (by simp[hl]) E3.sl;obtain⟨s1,s2⟩:=s1
  cases s2 with
  |cons q t=>exact⟨E3.sub,pm.nodup_iff.mp E3.nd,λa h=>E3.off a (pm.mem_iff.mpr h),.cons q (Paired.app s1 t)⟩
 refine⟨x::vs,H2,l::ls,ρ2,I2,.cons r1 r2,by simp[hl],by simp[hb],E4,λk i e=>?_,q2⟩
 cases k with
 |zero=>simp at e
 |succ k=>simpa using hv k i (by simpa using e)
theorem Gj{t:W (List L)}(h:JM X pins0 Pr0 xp es bs t):N2 X pins0 Pr0 xp (.List es pos) (fF t):=by
 intro pins s σ H Pr ρ post le I E hq;refine wpAny_List_spliced (Mv (h pos pins s σ H Pr ρ _ le I E hq) λus s1 ⟨vs,H1,ls,ρ1,I1,r,hl,hb,E1,hv,q⟩=>?_);obtain⟨xs,rfl,z,q⟩:=gA q;have hlen:vs.length=xs.length:=by simpa using hl
 refine⟨by rw[← r.length,hlen];exact z,?_⟩;have hf:H1 s1.heap.objs.size=none:=I1.hok.fresh (Nat.le_refl _);refine⟨.ref s1.heap.objs.size,Ml H1 s1.heap.objs.size (.lst vs),_,ρ1,I1.laid (t':=s1.toks) (λb u e=>Heap.get?_push_of_some _ e) (Nat.le_refl _) ?_,rfl,(E1.drop (by simp[hlen])).cons_own hf (gB hlen E1),q _⟩;exact⟨by rw[hlen];exact z,us,0,r,Heap.get?_push_size _ rfl⟩
end
end L2
namespace L2
open PySem PySem.Spec PyProof.Rows PySem.SeqAt
section
variable{X:Cx}
def IR:Nc:=λx y k=>(yC x y k)∨∃xs ys,x=.lst xs/\y=.lst ys/\xs.length≠ys.length/\k (.d (.bl true))
theorem IS(hu:X.A.units+64<cLine):Nd X (compareOp .NotEq) IR:=by
 rintro pins s σ H Pr ρ x y v u dx dy post I rx ry E px py (h|⟨xs,ys,rfl,rfl,hl,h⟩)
 · exact pQ hu pins s σ H Pr ρ x y v u dx dy post I rx ry E px py h
 ·
  cases px with
  | lst h1 r1 =>
   cases py with
   | lst h2 r2 =>
    cases rx;cases ry;obtain⟨i1,v1,t1,_⟩:=I.list h1.l;obtain⟨i2,v2,t2,_⟩:=I.list h2.l;refine RcNeAt.lists_lengths t1.isList t2.isList ?_ (by omega) _ _ _ _ ⟨.bl true,H,_,I,rfl,E.cons_d (.bl _),h⟩;have e1:=v1.length;have e2:=v2.length;have e3:=r1.length;have e4:=r2.length;simp;omega
end
end L2
namespace L2
open PySem
theorem fo{g:Tg}{b:W Fl}{post:Fl->Ev->Prop}:∀(xs:List D)(I:Nat->Ev->Prop)(ρ:Ev),I 0 ρ ->
  (∀j x ρ,xs[j]?=some x->I j ρ->∀Q:Fl->Ev->Prop,(∀ρ',I (j+1) ρ'->Q .nx ρ')->(∀ρ',I (j+1) ρ'->Q .ct ρ')->(∀ρ',post .nx ρ'->Q .bk ρ')->(∀r ρ',post (.rt r) ρ'->Q (.rt r) ρ')->g x ρ λρ1=>b ρ1 Q) ->
  (∀ρ,I xs.length ρ->post .nx ρ)->cu g b xs ρ post
 |[],I,ρ,h0,_,Mx=>Mx ρ h0
 | x::xs,I,ρ,h0,step,Mx=>by
  unfold cu;refine step 0 x ρ rfl h0 _ (λρ' h=>?_) (λρ' h=>?_) (λρ' h=>h) (λr ρ' h=>h)
  · exact fo xs (λj=>I (j+1)) ρ' h (λj y ρ e hi=>step (j+1) y ρ e hi) Mx
  · exact fo xs (λj=>I (j+1)) ρ' h (λj y ρ e hi=>step (j+1) y ρ e hi) Mx
theorem C6{α:Type}{enc:α->D}{g:Tg}{b:W Fl}{post:Fl->Ev->Prop}(as:List α)(I:List α->Ev->Prop)(ρ:Ev)(h0:I [] ρ)
  (step:∀pre a suf ρ,as=pre++a::suf->I pre ρ->∀Q:Fl->Ev->Prop,(∀ρ',I (pre++[a]) ρ'->Q .nx ρ')->(∀ρ',I (pre++[a]) ρ'->Q .ct ρ')->(∀ρ',post .nx ρ'->Q .bk ρ')->(∀r ρ',post (.rt r) ρ'->Q (.rt r) ρ')->g (enc a) ρ λρ1=>b ρ1 Q)
  (Mx:∀ρ,I as ρ->post .nx ρ):cu g b (as.map enc) ρ post:=by
 refine fo _ (λj ρ=>I (as.take j) ρ) ρ h0 (λj x ρ e hi Q h1 h2 h3 h4=>?_) λρ h=>Mx ρ (by simpa using h);rw[List.getElem?_map]at e
 cases ea:as[j]? with
 |none=>rw[ea]at e;cases e
 | some a =>
  rw[ea]at e;cases e;obtain⟨hj,ea'⟩:=List.getElem?_eq_some_iff.mp ea;have es:as.take (j+1)=as.take j++[a]:=by rw[List.take_succ,ea];rfl
  have ed:as=as.take j++a::as.drop (j+1):=by have:=(List.take_append_drop j as).symm;rw[List.drop_eq_getElem_cons hj,ea']at this;exact this
  rw[es]at h1 h2;exact step _ a _ ρ ed hi Q h1 h2 h3 h4
theorem xF{g:Tg}{ti:W Bool}{te:W L}{k:List D->Ev->Prop}:∀(xs:List D)(I:Nat->Ev->List D->Prop)(ρ:Ev)(acc:List D),I 0 ρ acc ->
  (∀j x ρ acc,xs[j]?=some x->I j ρ acc->∀Q:Ev->List D->Prop,(∀ρ' acc',I (j+1) ρ' acc'->Q ρ' acc')->g x ρ λρ1=>ti ρ1 λb ρ2=>if b=true then te ρ2 λr ρ3=>Na r λy=>Q ρ3 (acc++[y])else Q ρ2 acc) ->
  (∀ρ acc,I xs.length ρ acc->k acc ρ)->gb g ti te xs ρ acc k
 |[],I,ρ,acc,h0,_,Mx=>Mx ρ acc h0
 | x::xs,I,ρ,acc,h0,step,Mx=>by unfold gb;exact step 0 x ρ acc rfl h0 (λρ acc=>gb g ti te xs ρ acc k) λρ' acc' h=>xF xs (λj=>I (j+1)) ρ' acc' h (λj y ρ acc e hi=>step (j+1) y ρ acc e hi) Mx
theorem iX{α:Type}{enc:α->D}{h:α->Option D}{caps:Ev}{ti:W Bool}{te:W L}{k:List D->Ev->Prop}:∀(as:List α)(acc:List D)(l:L),
  (∀a∈as,∀Q:Ev->Option D->Prop,Q (.d (enc a)::caps) (h a)->ti (.d (enc a)::caps) λb ρ2=>if b=true then te ρ2 λr ρ3=>Na r λy=>Q ρ3 (some y)else Q ρ2 none) ->
  (∀l',k (acc++as.filterMap h) (l'::caps))->gb (b8 0) ti te (as.map enc) (l::caps) acc k
 |[],acc,l,_,Mx=>by have:=Mx l;simpa[gb]using this
 | a::as,acc,l,step,Mx=>by
  show gb (b8 0) ti te (enc a::as.map enc) (l::caps) acc k;unfold gb;show ti (.d (enc a)::caps) _
  refine step a List.mem_cons_self (λρ o=>match o with|some y=>gb (b8 0) ti te (as.map enc) ρ (acc++[y]) k|none=>gb (b8 0) ti te (as.map enc) ρ acc k) ?_
  cases e:h a with
  |none=>exact iX as acc _ (λb hb=>step b (List.mem_cons_of_mem _ hb)) (by simpa[List.filterMap_cons,e]using Mx)
  |some y=>exact iX as (acc++[y]) _ (λb hb=>step b (List.mem_cons_of_mem _ hb)) (by simpa[List.filterMap_cons,e]using Mx)
theorem n8{α:Type}{enc:α->D}{h:α->D}{caps:Ev}{te:W L}{k:List D->Ev->Prop}(as:List α)(acc:List D)(l:L)
  (step:∀a∈as,∀Q:Ev->D->Prop,Q (.d (enc a)::caps) (h a)->te (.d (enc a)::caps) λr ρ3=>Na r λy=>Q ρ3 y)
  (Mx:∀l',k (acc++as.map h) (l'::caps)):gb (b8 0) qU te (as.map enc) (l::caps) acc k:=by
 refine iX (h:=λa=>some (h a)) as acc l (λa ha Q q=>?_) (by simpa using Mx);simp only[qU,if_true];exact step a ha (λρ y=>Q ρ (some y)) q
theorem t7{α:Type}{x:α}{xs:List α}:MT (x::xs) 0=some x:=iJ (j:=0) rfl
theorem t8{α:Type}{x y:α}{xs:List α}:MT (x::y::xs) 1=some y:=iJ (j:=1) rfl
theorem C7{α:Type}{x y z:α}{xs:List α}:MT (x::y::z::xs) 2=some z:=iJ (j:=2) rfl
theorem IT{α:Type}{x y z w:α}{xs:List α}:MT (x::y::z::w::xs) 3=some w:=iJ (j:=3) rfl
theorem Kn{α:Type}{x y z w v:α}{xs:List α}:MT (x::y::z::w::v::xs) 4=some v:=iJ (j:=4) rfl
theorem xG{α:Type}{xs:List α}{i:Int}{x:α}(h0:0≤i)(h:xs[i.toNat]?=some x):MT xs i=some x:=by have:=iJ h;rwa [Int.toNat_of_nonneg h0]at this
theorem bP{α:Type}{f:α->D}{xs:List α}{k:Nat}(h:k<xs.length):MT (xs.map f) (k:Int)=some (f xs[k]):=iJ (by rw[List.getElem?_map,List.getElem?_eq_getElem h];rfl)
theorem LJ:MS 3 0=some 0:=by decide
theorem LK:MS 3 1=some 1:=by decide
theorem LM:MS 3 2=some 2:=by decide
theorem ly(n:Nat):ve 0 n=(List.range n).map λ(i:Nat)=>D.int (i:Int):=by unfold ve;simp
theorem C8{g:Tg}{b:W Fl}{post:Fl->Ev->Prop}(lo:Int)(n:Nat)(I:Nat->Ev->Prop)(ρ:Ev)(h0:I 0 ρ)
  (step:∀j ρ,j<n->I j ρ->∀Q:Fl->Ev->Prop,(∀ρ',I (j+1) ρ'->Q .nx ρ')->(∀ρ',I (j+1) ρ'->Q .ct ρ')->(∀ρ',post .nx ρ'->Q .bk ρ')->(∀r ρ',post (.rt r) ρ'->Q (.rt r) ρ')->g (.int (lo+(j:Int))) ρ λρ1=>b ρ1 Q)
  (Mx:∀ρ,I n ρ->post .nx ρ):cu g b (ve lo n) ρ post:=by
 have hl:(ve lo n).length=n:=by simp[ve]
 refine fo _ I ρ h0 (λj x ρ hj hi Q h1 h2 h3 h4=>?_) λρ h=>Mx ρ (by rwa [hl]at h);have hj':j<n:=by rw[← hl];exact(List.getElem?_eq_some_iff.mp hj).1
 have e:x=.int (lo+(j:Int)):=by unfold ve at hj;rw[List.getElem?_map,List.getElem?_range hj']at hj;exact(Option.some.inj hj).symm
 subst e;exact step j ρ hj' hi Q h1 h2 h3 h4
theorem bB{i:Int}(h:i.natAbs<2^200):cJ i:=Nat.lt_of_lt_of_le h (Nat.pow_le_pow_right (by decide) (by decide))
theorem gF(x:Int){m:Int}(h:0<m):0≤x.fmod m/\x.fmod m<m:=by rw[Int.fmod_eq_emod_of_nonneg _ (by omega)];exact⟨Int.emod_nonneg _ (by omega),Int.emod_lt_of_pos _ h⟩
theorem vL{i:Int}{n:Nat}(h0:0≤i)(h:i<2^n)(hn:n≤1000000):cJ i:=by
 have:i.natAbs<2^n:=by
  have e:((2^n:Nat):Int)=(2:Int)^n:=by simp
  omega
 exact Nat.lt_of_lt_of_le this (Nat.pow_le_pow_right (by decide) hn)
theorem Ko:(10:Int)^60<2^200:=by decide
theorem t9{i:Int}(h0:0≤i)(h:i≤10^60):i.natAbs<2^9000:=by
 have:i.natAbs<2^200:=by
  have:=Ko;have e:((2^200:Nat):Int)=(2:Int)^200:=by decide
  omega
 exact Nat.lt_of_lt_of_le this (Nat.pow_le_pow_right (by decide) (by decide))
theorem RB.sub{m n:Nat}{p q:Rat}(hp:RB m p)(hq:RB n q):RB (m+n+1) (p-q):=by rw[Rat.sub_eq_add_neg];exact hp.add hq.neg
theorem RB.of_divInt{t b:Int}{n:Nat}(h:b≠0)(ht:t.natAbs<2^n)(hb:b.natAbs<2^n):RB n (Rat.divInt t b):=⟨Nat.lt_of_le_of_lt (D8 h) ht,Nat.lt_of_le_of_lt (D7 h) hb⟩
theorem rh(p q:Rat):((p.den:Int)*(q.den:Int))≠0:=by have dp:=den_pos p;have dq:=den_pos q;exact Int.mul_ne_zero (by omega) (by omega)
theorem n9(p q:Rat):((p.den:Int)*(q.den:Int)).natAbs=p.den*q.den:=by rw[Int.natAbs_mul,Int.natAbs_natCast,Int.natAbs_natCast]
theorem vM(q:Rat):(q.den:Int)≠0:=by have:=den_pos q;omega
theorem RB.zero:RB 1 0:=⟨by decide,by decide⟩
theorem IU(p q:Rat):decide (p.num*(q.den:Int)<q.num*(p.den:Int))=decide (p<q):=by rw[decide_eq_decide,Rat.lt_iff]
structure N9 where
 nm:Str
 one:Nat
 other:Nat
 size:Rat
structure aR where
 rooms:List Rat
 asks:List N9
noncomputable def aR.n(R:aR):Nat:=R.rooms.length
noncomputable def ml(a:N9):D:=.tup [.str a.nm,.int a.one,.int a.other,ND a.size]
noncomputable def aS(R:aR):D:=.tup [.lst (R.rooms.map ND),.lst (R.asks.map ml)]
theorem Ef(q:Rat):(q.num:Rat)=q*(q.den:Rat):=by
 have h:=Rat.num_divInt_den q;have hd:(q.den:Rat)≠0:=λw=>by have:=Rat.natCast_pos.mpr q.den_pos;rw[w]at this;exact absurd this (by decide)
 rw[Rat.divInt_eq_div]at h;have e:(((q.den:Nat):Int):Rat)=(q.den:Rat):=rfl;rw[e]at h;have e2:q*(q.den:Rat)=(q.num:Rat) / (q.den:Rat)*(q.den:Rat):=by rw[h]
 rw[e2,Rat.div_mul_cancel hd]
theorem AQ{q:Rat}{V:Nat}(h0:0≤q)(hv:q<(V:Rat)):q.num.natAbs<V*q.den:=by
 have hd:(0:Rat)<(q.den:Rat):=Rat.natCast_pos.mpr q.den_pos;have h1:q*(q.den:Rat)<(V:Rat)*(q.den:Rat):=Rat.mul_lt_mul_of_pos_right hv hd;rw[← Ef]at h1
 have h2:((q.num:Int):Rat)<(((V*q.den:Nat):Int):Rat):=by
  have e:(((V*q.den:Nat):Int):Rat)=(V:Rat)*(q.den:Rat):=by push_cast;rfl
  rw[e];exact h1
 have h3:q.num<((V*q.den:Nat):Int):=Rat.intCast_lt_intCast.mp h2;have h4:0≤q.num:=Rat.num_nonneg.mpr h0;omega
theorem RB.of_val{q:Rat}{d v:Nat}(h0:0≤q)(hd:q.den<2^d)(hv:q<((2^v:Nat):Rat)):RB (v+d) q:=by refine⟨Nat.lt_of_lt_of_le (AQ h0 hv) ?_,Nat.lt_of_lt_of_le hd (Nat.pow_le_pow_right (by decide) (by omega))⟩;rw[Nat.pow_add];exact Nat.mul_le_mul_left _ (Nat.le_of_lt hd)
structure fk (n:Nat) (a:N9):Prop where
 one:a.one<n
 other:a.other<n
 ne:a.one≠a.other
 size:0≤a.size
 lt:a.size<((2^300:Nat):Rat)
 nm:PyData.strOk a.nm=true
structure aR.Ok (R:aR):Prop where
 lo:2≤R.n
 hi:R.n≤12
 few:R.asks.length≤20
 room:∀q∈R.rooms,0<q/\RB 60 q
 ask:∀a∈R.asks,fk R.n a
 cd:∃D:Nat,0<D/\D<2^1240/\∀a∈R.asks,a.size.den∣D
theorem aR.Ok.rb{R:aR}(h:R.Ok){a:N9}(ha:a∈R.asks):RB 1540 a.size:=by obtain⟨D,d0,d1,hd⟩:=h.cd;exact RB.of_val (v:=300) (d:=1240) (h.ask a ha).size (Nat.lt_of_le_of_lt (Nat.le_of_dvd d0 (hd a ha)) d1) (h.ask a ha).lt
theorem oa{α:Type}{n:Nat}{f:α->D}:∀xs:List α,(∀x∈xs,NF n (f x)=true)->qW n (xs.map f)=true
 |[],_=>rfl
 |x::xs,h=>by simp[qW,h x List.mem_cons_self,oa xs λy hy=>h y (List.mem_cons_of_mem _ hy)]
theorem Eg(n:Nat)(q:Rat):NF (n+1) (ND q)=true:=by cases n<;>simp[ND,NF,qW]
theorem qm(ns:List Int):ej (.lst (ns.map .int)):=cU (n:=1) (by simp only[NF];exact oa _ λ_ _=>rfl) (by decide)
theorem ua:∀(as bs:List Int),PyData.eqvAll (de (as.map .int)) (de (bs.map .int))=decide (as=bs)
 |[],[]=>by simp[lq]
 |[],b::bs=>by simp[de,PyData.eqvAll]
 |a::as,[]=>by simp[de,PyData.eqvAll]
 | a::as,b::bs=>by rw[List.map_cons,List.map_cons,dS,ua as bs,iV];simp
theorem C9(as bs:List Int):Nr (.lst (as.map .int)) (.lst (bs.map .int))=decide (as=bs):=by rw[As,ua]
theorem xH:∀(as bs:List Rat),PyData.eqvAll (de (as.map ND)) (de (bs.map ND))=decide (as=bs)
 |[],[]=>by simp[lq]
 |[],b::bs=>by simp[de,PyData.eqvAll]
 |a::as,[]=>by simp[de,PyData.eqvAll]
 | a::as,b::bs=>by rw[List.map_cons,List.map_cons,dS,xH as bs,Au];simp
theorem Gk(as bs:List Rat):Nr (.lst (as.map ND)) (.lst (bs.map ND))=decide (as=bs):=by rw[As,xH]
theorem ub(qs:List Rat):ej (.lst (qs.map ND)):=cU (n:=2) (by simp only[NF];exact oa _ λq _=>Eg 0 q) (by decide)
def iE(xs:List D):Prop:=∃(c sd:Int)(t:Bool),xs=[.int c,.int sd,.bl t]/\0≤sd/\sd<2147483647
theorem xI{t b g:Int}(h:b≠0)(e:g=cD t b):D.tup [.int (t.fdiv g),.int (b.fdiv g)]=ND (Rat.divInt t b):=by subst e;rw[Aq h,FK h];rfl
noncomputable def Kp(qs:List Rat):Nat:=(qs.map (·.den)).foldr (·*·) 1
noncomputable def Gm(qs:List Rat):Rat:=qs.foldl (·+·) 0
theorem AR(qs:List Rat):∀acc:Rat,qs.foldl (·+·) acc=acc+Gm qs:=by
 unfold Gm
 induction qs with
 |nil=>intro acc;simp[Rat.add_zero]
 |cons q qs ih=>intro acc;rw[List.foldl_cons,List.foldl_cons,ih,ih (0+q),Rat.zero_add,Rat.add_assoc]
theorem AS(q:Rat)(qs:List Rat):Gm (q::qs)=q+Gm qs:=by show(q::qs).foldl (·+·) 0=_;rw[List.foldl_cons,AR,Rat.zero_add]
theorem Da{α β:Type}(f:α->β)(xs:List α)(l u:Option Int):vf (xs.map f) l u=(vf xs l u).map f:=by unfold vf;rw[List.length_map,← List.map_drop,← List.map_take]
theorem Dc{xs:List D}{i:Int}{k:L->Prop}:aN (.lst xs) (.int i) k=∃v,MT xs i=some v/\k (.d v):=rfl
theorem Dd{xs:List D}{i:Int}{k:L->Prop}:aN (.tup xs) (.int i) k=∃v,MT xs i=some v/\k (.d v):=rfl
theorem De{z:Str}{i:Int}{k:L->Prop}:aN (.str z) (.int i) k=(z.length≤sizeLine/\∃c,MT z.cps.toList i=some c/\k (.d (.str ⟨#[c]⟩))):=rfl
theorem Df{R:aR}{k:L->Prop}:aN (aS R) (.int 0) k=k (.d (.lst (R.rooms.map ND))):=by show(∃v,MT _ _=some v/\_)=_;simp only[t7,Option.some.injEq,exists_eq_left']
theorem Dg{R:aR}{k:L->Prop}:aN (aS R) (.int 1) k=k (.d (.lst (R.asks.map ml))):=by show(∃v,MT _ _=some v/\_)=_;simp only[t8,Option.some.injEq,exists_eq_left']
theorem Gn{a:N9}{k:L->Prop}:aN (ml a) (.int 0) k=k (.d (.str a.nm)):=by show(∃v,MT _ _=some v/\_)=_;simp only[t7,Option.some.injEq,exists_eq_left']
theorem Gp{a:N9}{k:L->Prop}:aN (ml a) (.int 1) k=k (.d (.int a.one)):=by show(∃v,MT _ _=some v/\_)=_;simp only[t8,Option.some.injEq,exists_eq_left']
theorem Gq{a:N9}{k:L->Prop}:aN (ml a) (.int 2) k=k (.d (.int a.other)):=by show(∃v,MT _ _=some v/\_)=_;simp only[C7,Option.some.injEq,exists_eq_left']
theorem Gr{a:N9}{k:L->Prop}:aN (ml a) (.int 3) k=k (.d (ND a.size)):=by show(∃v,MT _ _=some v/\_)=_;simp only[IT,Option.some.injEq,exists_eq_left']
theorem IV{q:Rat}{k:L->Prop}:aN (ND q) (.int 0) k=k (.d (.int q.num)):=by show(∃v,MT _ _=some v/\_)=_;simp only[t7,Option.some.injEq,exists_eq_left']
theorem IW{q:Rat}{k:L->Prop}:aN (ND q) (.int 1) k=k (.d (.int (q.den:Int))):=by show(∃v,MT _ _=some v/\_)=_;simp only[t8,Option.some.injEq,exists_eq_left']
theorem Eh(q:Rat):NH (ND q)=true:=by simp[ND,NH,tR]
theorem oe{α:Type}{f:α->D}:∀(xs:List α),(∀x∈xs,NH (f x)=true)->tR (xs.map f)=true
 |[],_=>rfl
 |x::xs,h=>by simp[tR,h x List.mem_cons_self,oe xs λy hy=>h y (List.mem_cons_of_mem _ hy)]
theorem xJ(qs:List Rat):tR (qs.map ND)=true:=oe _ λq _=>Eh q
theorem AU{α:Type}(f:α->Int)(xs:List α):tR (xs.map λx=>D.int (f x))=true:=oe _ λ_ _=>rfl
theorem AV(R:aR):R.rooms.length=R.n:=rfl
noncomputable def dg(w:Bool):Str:=if w then "on" else "back"
theorem xK:ej (.str "on"):=cU (n:=0) (by decide +kernel) (by decide)
theorem qo:ej (.str "back"):=cU (n:=0) (by decide +kernel) (by decide)
theorem AW(w:Bool):ej (.str (dg w)):=by
 cases w
 · exact qo
 · exact xK
theorem IX(w:Bool):(dg w="on")=(w=true):=by cases w <;> simp[dg] <;> decide
theorem Dh(w:Bool):(dg w="back")=(w=false):=by cases w <;> simp[dg] <;> decide
theorem uc{is:List Nat}{xs:List D}{ρ:Ev}{k:Ev->Prop}:iP is (.tup xs) ρ k=gC is xs ρ k:=rfl
theorem AX{is:List Nat}{a:N9}{ρ:Ev}{k:Ev->Prop}:iP is (ml a) ρ k=gC is [.str a.nm,.int a.one,.int a.other,ND a.size] ρ k:=rfl
theorem Di{is:List Nat}{q:Rat}{ρ:Ev}{k:Ev->Prop}:iP is (ND q) ρ k=gC is [.int q.num,.int (q.den:Int)] ρ k:=rfl
theorem Dj{α:Type}{xs:List α}{k:Nat}(h:k≤xs.length):vf xs (some (k:Int)) none=xs.drop k:=by unfold vf HT.sIx;simp only[if_neg (show ¬((k:Int)<0) by omega),Int.toNat_natCast,Nat.min_eq_left h];rw[List.take_of_length_le];rw[List.length_drop];exact Nat.le_refl _
theorem vN{xs:List D}{k:List D->Prop}:iQ (.lst xs) k=k xs:=rfl
theorem vO{xs:List D}{k:List D->Prop}:iQ (.tup xs) k=k xs:=rfl
theorem yU{q:Rat}{k:List D->Prop}:iQ (ND q) k=k [.int q.num,.int (q.den:Int)]:=rfl
theorem AY{xs:List D}{k:L->Prop}:df [.lst xs] k=k (.d (.int xs.length)):=rfl
theorem AZ{xs:List D}{k:L->Prop}:df [.tup xs] k=k (.d (.int xs.length)):=rfl
theorem A0{x:Str}{k:L->Prop}:df [.str x] k=(x.length≤sizeLine/\k (.d (.int x.length))):=rfl
theorem Dk{q:Rat}{k:L->Prop}:df [ND q] k=k (.d (.int 2)):=rfl
theorem yV{R:aR}{k:L->Prop}:df [aS R] k=k (.d (.int 2)):=rfl
theorem A1{a:N9}{k:L->Prop}:df [ml a] k=k (.d (.int 4)):=rfl
theorem vP(q:Rat):jS "tuple" (ND q)=true:=rfl
theorem vQ(q:Rat):jS "list" (ND q)=false:=rfl
theorem vR(q:Rat):jS "int" (ND q)=false:=rfl
theorem ud(q:Rat):jS "bool" (ND q)=false:=rfl
theorem vS(q:Rat):jS "str" (ND q)=false:=rfl
theorem rj(R:aR):jS "tuple" (aS R)=true:=rfl
noncomputable def Oa(n:Nat)(f:Nat->Rat):List D:=(List.range n).map λ(t:Nat)=>ND (f t)
theorem Gs(n:Nat)(f:Nat->Rat):(Oa n f).length=n:=by simp[Oa]
theorem Gu(n:Nat)(f:Nat->Rat):Oa n f=((List.range n).map f).map ND:=by unfold Oa;rw[List.map_map];rfl
theorem Dl(n:Nat)(f:Nat->Rat):tR (Oa n f)=true:=by rw[Gu];exact xJ _
noncomputable def vT(c:Nat×Nat):D:=.tup [.int (c.1:Int),.int (c.2:Int)]
theorem Gv{c:Nat×Nat}{k:L->Prop}:aN (vT c) (.int 0) k=k (.d (.int c.1)):=by show(∃v,MT _ _=some v/\_)=_;simp only[t7,Option.some.injEq,exists_eq_left']
theorem Gw{c:Nat×Nat}{k:L->Prop}:aN (vT c) (.int 1) k=k (.d (.int c.2)):=by show(∃v,MT _ _=some v/\_)=_;simp only[t8,Option.some.injEq,exists_eq_left']
theorem Gx(n:Nat)(c:Nat×Nat):NF (n+1) (vT c)=true:=by cases n<;>simp[vT,NF,qW]
theorem A2(c:Nat×Nat):NH (vT c)=true:=by simp[vT,NH,tR]
theorem A3(c:Nat×Nat):ej (vT c):=cU (Gx 0 c) (by decide)
theorem Gy(c d:Nat×Nat):Nr (vT c) (vT d)=decide (c=d):=by
 unfold vT;rw[vE,dS,dS,lq,iV,iV,Bool.and_true,← Bool.decide_and,decide_eq_decide];constructor
 · rintro⟨h1,h2⟩;exact Prod.ext (by omega) (by omega)
 · rintro rfl;exact⟨rfl,rfl⟩
noncomputable def gP(g:Rat×(Nat×Nat)):D:=.tup [ND g.1,vT g.2]
theorem Kq{g:Rat×(Nat×Nat)}{k:L->Prop}:aN (gP g) (.int 0) k=k (.d (ND g.1)):=by show(∃v,MT _ _=some v/\_)=_;simp only[t7,Option.some.injEq,exists_eq_left']
theorem Kr{g:Rat×(Nat×Nat)}{k:L->Prop}:aN (gP g) (.int 1) k=k (.d (vT g.2)):=by show(∃v,MT _ _=some v/\_)=_;simp only[t8,Option.some.injEq,exists_eq_left']
theorem Dm(T:String):jS T .non=(T == "NoneType"):=rfl
theorem Gz(T:String)(b:Bool):jS T (.bl b)=(T == "bool" ||T == "int"):=rfl
theorem Dn(T:String)(i:Int):jS T (.int i)=(T == "int"):=rfl
theorem Do(T:String)(x:Str):jS T (.str x)=(T == "str"):=rfl
theorem Dp(T:String)(xs:List D):jS T (.tup xs)=(T == "tuple"):=rfl
theorem Dq(T:String)(xs:List D):jS T (.lst xs)=(T == "list"):=rfl
theorem yW(g:Rat×(Nat×Nat)):jS "tuple" (gP g)=true:=rfl
theorem ue(c:Nat×Nat):jS "tuple" (vT c)=true:=rfl
theorem uf(a:N9):jS "tuple" (ml a)=true:=rfl
theorem A4{c:Nat×Nat}{k:L->Prop}:df [vT c] k=k (.d (.int 2)):=rfl
theorem GA{c:Rat×(Nat×Nat)}{k:L->Prop}:df [gP c] k=k (.d (.int 2)):=rfl
theorem A5(cs:List (Nat×Nat)):tR (cs.map vT)=true:=oe _ λc _=>A2 c
end L2
namespace L2
open PySem PySem.Builtin.Str
theorem GB{x y:Str}(h:x.cps.toList=y.cps.toList):x=y:=by cases x;cases y;exact congrArg Str.mk (Array.toList_inj.mp h)
theorem Dr{x:Str}{j:Int}(h0:0≤j)(h2:j≤x.length):(Txt.slice x none (some j)).cps.toList=x.cps.toList.take j.toNat:=by have:=eq_of_beq (PyProof.Rows.slice_closes_toL h0 h2);rw[this];simp
theorem yX{x:Str}{i:Int}(h0:0≤i)(h2:i≤x.length):(Txt.slice x (some i) none).cps.toList=x.cps.toList.drop i.toNat:=by
 rw[PyProof.Rows.slice_from_eq h0 h2 rfl];have e:x.cps.toList.length=x.length:=by simp[Str.length]
 rw[List.take_of_length_le];rw[List.length_drop,e];omega
theorem lz(x y:Str):(x++y).cps.toList=x.cps.toList++y.cps.toList:=by show(x.cps++y.cps).toList=_;simp
theorem jH(x:Str):x.length=x.cps.toList.length:=by simp[Str.length]
def o3(c:Nat):Prop:=97≤c/\c≤122
structure vU (z:Str):Prop where
 lo:1≤z.cps.toList.length
 hi:z.cps.toList.length≤8
 let_:∀c∈z.cps.toList,o3 c
theorem vU.ok{z:Str}(h:vU z):PyData.strOk z=true:=by unfold PyData.strOk;rw[← Array.all_toList,List.all_eq_true];intro c hc;have:=h.let_ c hc;unfold o3 at this;simp;omega
noncomputable def rl:Str:="abcdefghijklmnopqrstuvwxyz"
theorem ug:rl.cps.toList=(List.range 26).map (·+97):=by decide
theorem qp{i:Int}(h0:0≤i)(h1:i<26):MT rl.cps.toList i=some (i.toNat+97):=by refine xG h0 ?_;rw[ug,List.getElem?_map,List.getElem?_range (by omega)];rfl
theorem qq:∀(zs:List Str),(Str.join "" zs).cps.toList=(zs.map λz=>z.cps.toList).flatten
 |[]=>rfl
 |[x]=>by simp[Str.join]
 | x::y::r=>by have ih:=qq (y::r);show(x++("" : Str)++Str.join "" (y::r)).cps.toList=_;rw[lz,lz,ih];show x.cps.toList++[]++_=_;simp
theorem Ds(zs:List Str):(Txt.join "" zs).cps.toList=(zs.map λz=>z.cps.toList).flatten:=by rw[eq_of_beq (PyProof.Rows.join_closes (sep:="") (sep':="") (ys:=zs) rfl),qq]
theorem uh:∀cs:List Nat,(cs.map λc=>[c]).flatten=cs
 |[]=>rfl
 |c::cs=>by rw[List.map_cons,List.flatten_cons,uh cs];rfl
theorem mC(cs:List Nat):(Txt.join "" (cs.map λc=>(⟨#[c]⟩:Str))).cps.toList=cs:=by rw[Ds,List.map_map];exact uh cs
theorem xM:∀cs:List Nat,((cs.map λc=>(⟨#[c]⟩:Str)).map (·.length)).sum=cs.length
 |[]=>rfl
 | c::cs=>by rw[List.map_cons,List.map_cons,List.sum_cons,xM cs,List.length_cons];show 1+_=_;omega
noncomputable def nameAt(b:Str)(p t k:Nat):Str:=⟨(b.cps.toList.take p++[(t+k) % 26+97]++b.cps.toList.drop (p+1)).toArray⟩
theorem A6{b:Str}{p t k:Nat}(h:vU b)(hp:p<b.cps.toList.length):vU (nameAt b p t k):=by
 have e:(nameAt b p t k).cps.toList=b.cps.toList.take p++[(t+k) % 26+97]++b.cps.toList.drop (p+1):=by simp[nameAt]
 have l:(b.cps.toList.take p++[(t+k) % 26+97]++b.cps.toList.drop (p+1)).length=b.cps.toList.length:=by rw[List.length_append,List.length_append,List.length_take,List.length_drop,List.length_singleton];omega
 refine⟨by rw[e,l];exact h.lo,by rw[e,l];exact h.hi,λc hc=>?_⟩;rw[e]at hc;rcases List.mem_append.mp hc with hc|hc
 ·
  rcases List.mem_append.mp hc with hc|hc
  · exact h.let_ c (List.mem_of_mem_take hc)
  · rw[List.mem_singleton.mp hc];unfold o3;have:=Nat.mod_lt (t+k) (y:=26) (by decide);omega
 · exact h.let_ c (List.mem_of_mem_drop hc)
theorem yY{b:Str}{p t j k:Nat}(hp:p<b.cps.toList.length)(hj:j<26)(hk:k<26)(h:nameAt b p t j=nameAt b p t k):j=k:=by
 have e:b.cps.toList.take p++[(t+j) % 26+97]++b.cps.toList.drop (p+1)=b.cps.toList.take p++[(t+k) % 26+97]++b.cps.toList.drop (p+1):=by have:=congrArg (λz:Str=>z.cps.toList) h;simpa[nameAt]using this
 rw[List.append_assoc,List.append_assoc]at e;have e2:=List.append_cancel_left e;have e3:=(List.cons.inj e2).1;omega
theorem ui{α β:Type}{f:α->β}:∀{xs:List α},xs.Nodup->(∀x∈xs,∀y∈xs,f x=f y->x=y)->(xs.map f).Nodup
 |[],_,_=>List.nodup_nil
 | x::xs,hn,h=>by rw[List.map_cons,List.nodup_cons];obtain⟨h1,h2⟩:=List.nodup_cons.mp hn;refine⟨λhm=>?_,ui h2 λa ha b hb=>h a (List.mem_cons_of_mem _ ha) b (List.mem_cons_of_mem _ hb)⟩;obtain⟨y,hy,e⟩:=List.mem_map.mp hm;have:=h y (List.mem_cons_of_mem _ hy) x List.mem_cons_self e;rw[this]at hy;exact h1 hy
theorem Dt{q:Rat}(h:RB 60 q):q<((2^300:Nat):Rat):=by
 have h1:=Ef q;have hd:(1:Rat)≤(q.den:Rat):=by have:=q.den_pos;exact_mod_cast this
 have h2:(q.num:Rat)<((2^300:Nat):Rat):=by
  have h3:q.num<((2^300:Nat):Int):=by have:=Nat.lt_of_lt_of_le h.1 (Nat.pow_le_pow_right (show 0<2 by decide) (show 60≤300 by decide));omega
  exact Rat.intCast_lt_intCast.mpr h3
 have hV:(0:Rat)<((2^300:Nat):Rat):=Rat.natCast_pos.mpr (Nat.pow_pos (by decide));generalize ((2^300:Nat):Rat)=V at *;refine Rat.not_le.mp λhq=>?_;have h4:V*1≤q*(q.den:Rat):=Rat.le_trans (Rat.mul_le_mul_of_nonneg_left hd (Rat.le_of_lt hV)) (Rat.mul_le_mul_of_nonneg_right hq (by grind));rw[← h1]at h4;grind
noncomputable def yZ:List N9->Nat
 |[]=>1
 |a::as=>a.size.den*yZ as
theorem rm:∀as,0<yZ as
 |[]=>Nat.one_pos
 |a::as=>Nat.mul_pos a.size.den_pos (rm as)
theorem vV:∀{as:List N9},(∀a∈as,RB 60 a.size)->yZ as≤2^(60*as.length)
 |[],_=>Nat.le_refl 1
 | a::as,h=>by have h1:=(h a List.mem_cons_self).2;have h2:=vV (as:=as) λp hp=>h p (List.mem_cons_of_mem _ hp);show a.size.den*yZ as≤2^(60*(as.length+1));rw[Nat.mul_add,Nat.mul_one,Nat.pow_add,Nat.mul_comm (2^_)];exact Nat.mul_le_mul (Nat.le_of_lt h1) h2
theorem og:∀{as:List N9}{a:N9},a∈as->a.size.den∣yZ as
 | b::as,a,h=>by
  rcases List.mem_cons.mp h with rfl|h
  · exact Nat.dvd_mul_right _ _
  · exact Nat.dvd_trans (og h) (Nat.dvd_mul_left _ _)
theorem IY{as:List N9}(h:∀a∈as,RB 60 a.size)(hl:as.length≤20):∃D:Nat,0<D/\D<2^1240/\∀a∈as,a.size.den∣D:=by refine⟨yZ as,rm as,Nat.lt_of_le_of_lt (vV h) (Nat.pow_lt_pow_right (by decide) (by omega)),λa ha=>og ha⟩
end L2
namespace L2
open PySem
noncomputable def Ob(n i j:Nat):List Nat:=(List.range ((j+n-i) % n)).map λs=>(i+s) % n
noncomputable def o4(n i j:Nat):List Nat:=(List.range ((i+n-j) % n)).map λs=>(i+n-1-s) % n
noncomputable def vW(n:Nat)(a:N9)(w:Bool):List Nat:=if w then Ob n a.one a.other else o4 n a.one a.other
theorem A7{n i j:Nat}(hi:i<n)(hj:j<n):(((j:Int)-i).fmod n)=(((j+n-i) % n:Nat):Int):=by
 rw[Int.fmod_eq_emod_of_nonneg _ (by omega)];have e:((j:Int)-i) % n=((j:Int)-i+n) % n:=(Int.add_emod_right _ _).symm;rw[e];have:(j:Int)-i+n=((j+n-i:Nat):Int):=by omega
 rw[this];exact(Int.natCast_emod _ _).symm
theorem xN{n i s:Nat}:(((i:Int)+s).fmod n)=(((i+s) % n:Nat):Int):=by rw[Int.fmod_eq_emod_of_nonneg _ (by omega),Int.natCast_emod,Int.natCast_add]
theorem Du{n i s:Nat}(hn:0<n)(hs:s<n):(((i:Int)-1-s).fmod n)=(((i+n-1-s) % n:Nat):Int):=by
 rw[Int.fmod_eq_emod_of_nonneg _ (by omega)];have e:((i:Int)-1-s) % n=((i:Int)-1-s+n) % n:=(Int.add_emod_right _ _).symm;rw[e];have:(i:Int)-1-s+n=((i+n-1-s:Nat):Int):=by omega
 rw[this];exact(Int.natCast_emod _ _).symm
noncomputable def Oc(n i j:Nat):Nat:=(j+n-i) % n
theorem lA{x n:Nat}(h:x<2*n):x % n=if x<n then x else x-n:=by
 by_cases hx:x<n
 · rw[if_pos hx,Nat.mod_eq_of_lt hx]
 · rw[if_neg hx,Nat.mod_eq_sub_mod (by omega),Nat.mod_eq_of_lt (by omega)]
theorem ng{n i j:Nat}(hi:i<n)(hj:j<n):Oc n i j=if i≤j then j-i else j+n-i:=by unfold Oc;rw[lA (by omega)];split<;>split<;>omega
theorem qr(n i j:Nat):(Ob n i j).length=Oc n i j:=by simp[Ob,Oc]
theorem xO(n i j:Nat):(o4 n i j).length=Oc n j i:=by simp[o4,Oc]
theorem GC{n:Nat}{a:N9}(h:fk n a)(w:Bool):(vW n a w).length<n:=by
 have h1:=h.one;have h2:=h.other;cases w
 · show(o4 n a.one a.other).length<n;rw[xO];exact Nat.mod_lt _ (by omega)
 · show(Ob n a.one a.other).length<n;rw[qr];exact Nat.mod_lt _ (by omega)
theorem uj{n i j:Nat}(hn:0<n):Oc n i j<n:=Nat.mod_lt _ hn
theorem xP{n i s:Nat}(hi:i<n)(hs:s<n):Oc n i ((i+s) % n)=s:=by have h1:=Nat.mod_lt (i+s) (y:=n) (by omega);rw[ng hi h1,lA (by omega)];split<;>split<;>omega
theorem rn{n i t:Nat}(hi:i<n)(ht:t<n):(i+Oc n i t) % n=t:=by have h1:=uj (n:=n) (i:=i) (j:=t) (by omega);rw[lA (by omega),ng hi ht];split<;>split<;>omega
theorem A8{n i j:Nat}(hi:i<n)(hj:j<n)(h:i≠j):Oc n i j+Oc n j i=n:=by rw[ng hi hj,ng hj hi];split<;>split<;>omega
theorem GD{n i j:Nat}(hi:i<n)(hj:j<n)(h:i≠j):0<Oc n i j:=by rw[ng hi hj];split<;>omega
theorem A9{n i j t:Nat}(hi:i<n):t∈Ob n i j↔t<n/\Oc n i t<Oc n i j:=by
 constructor
 · intro h;obtain⟨s,hs,rfl⟩:=List.mem_map.mp h;have hs:s<Oc n i j:=List.mem_range.mp hs;have:=uj (n:=n) (i:=i) (j:=j) (by omega);exact⟨Nat.mod_lt _ (by omega),by rw[xP hi (by omega)];exact hs⟩
 · rintro⟨ht,h⟩;exact List.mem_map.mpr ⟨Oc n i t,List.mem_range.mpr h,rn hi ht⟩
theorem Ba{n i s:Nat}(hi:i<n)(hs:s<n):(i+n-1-s) % n=(i+(n-1-s)) % n:=by
 congr 1
 omega
theorem rq{n i j t:Nat}(hi:i<n)(hj:j<n)(hij:i≠j):t∈o4 n i j↔t<n/\¬Oc n i t<Oc n i j:=by
 have hsum:=A8 hi hj hij;constructor
 · intro h;obtain⟨s,hs,rfl⟩:=List.mem_map.mp h;have hs:s<Oc n j i:=List.mem_range.mp hs;refine⟨Nat.mod_lt _ (by omega),?_⟩;rw[Ba hi (by omega),xP hi (by omega)];omega
 ·
  rintro⟨ht,h⟩;have:=uj (n:=n) (i:=i) (j:=t) (by omega);refine List.mem_map.mpr ⟨n-1-Oc n i t,List.mem_range.mpr (show _<Oc n j i by omega),?_⟩;rw[Ba hi (by omega)];have e:n-1-(n-1-Oc n i t)=Oc n i t:=by omega
  rw[e,rn hi ht]
noncomputable def uk(n:Nat)(a:N9)(t:Nat):Bool:=decide (Oc n a.one t<Oc n a.one a.other)
theorem rC{n:Nat}{a:N9}(h:fk n a)(w:Bool){t:Nat}(ht:t<n):t∈vW n a w↔(uk n a t == w)=true:=by
 have h1:=h.one;have h2:=h.other;cases w
 · show t∈o4 n a.one a.other↔_;rw[rq h1 h2 h.ne];simp[uk,ht]
 · show t∈Ob n a.one a.other↔_;rw[A9 h1];simp[uk,ht]
theorem Ei{n i j:Nat}(hi:i<n)(hj:j<n)(hij:i≠j):Ob n j i=(o4 n i j).reverse:=by
 have hsum:=A8 hi hj hij;refine List.ext_getElem (by rw[List.length_reverse,qr,xO]) λs h1 h2=>?_;rw[qr]at h1;have hp:=GD hi hj hij;rw[List.getElem_reverse];simp only[Ob,o4,List.getElem_map,List.getElem_range,List.length_map,List.length_range];have e:(i+n-j) % n=Oc n j i:=rfl;rw[e];have e2:j=(i+Oc n i j) % n:=(rn hi hj).symm;have e3:i+n-1-(Oc n j i-1-s)=i+Oc n i j+s:=by omega
 rw[e3]
 conv=>lhs;rw[e2]
 rw[Nat.mod_add_mod]
theorem Dv{n i j:Nat}(hi:i<n)(hj:j<n)(hij:i≠j):o4 n j i=(Ob n i j).reverse:=by rw[Ei hj hi (Ne.symm hij),List.reverse_reverse]
noncomputable def Bb(a:N9):N9:=⟨a.nm,a.other,a.one,a.size⟩
theorem Dw{n:Nat}{a:N9}(h:fk n a):fk n (Bb a):=⟨h.other,h.one,Ne.symm h.ne,h.size,h.lt,h.nm⟩
theorem Dx{n:Nat}{a:N9}(h:fk n a)(w:Bool):vW n (Bb a) w=(vW n a !w).reverse:=by
 cases w
 · exact Dv h.one h.other h.ne
 · exact Ei h.one h.other h.ne
theorem Bc{n:Nat}{a:N9}(h:fk n a){t:Nat}(ht:t<n):uk n (Bb a) t=!uk n a t:=by
 have e1:=rC (Dw h) true ht;have e2:=rC h false ht;rw[Dx h true,List.mem_reverse]at e1;have e3:=e1.symm.trans e2
 revert e3
 cases uk n (Bb a) t<;>cases uk n a t<;>simp
theorem rD(t:Nat):∀(T:List Nat),M4 (.int (t:Int)) (T.map λ(s:Nat)=>D.int (s:Int))=decide (t∈T)
 |[]=>rfl
 | s::T=>by
  have ih:=rD t T;unfold M4 at ih ⊢;rw[List.map_cons,List.any_cons,ih];show(NA (.int (s:Int)) (.int (t:Int)) ||_)=_;have e:NA (.int (s:Int)) (.int (t:Int))=decide (t=s):=by show decide ((s:Int)=(t:Int))=_;rw[decide_eq_decide];omega
  rw[e];simp[Bool.decide_or]
theorem RB.sum{b:Nat}:∀(qs:List Rat),(∀q∈qs,RB b q)->RB (1+(b+1)*qs.length) (Gm qs)
 |[],_=>RB.mono (m:=1) ⟨by decide,by decide⟩ (by omega)
 | q::qs,h=>by have ih:=RB.sum qs λz hz=>h z (List.mem_cons_of_mem _ hz);rw[AS];refine((h q List.mem_cons_self).add ih).mono ?_;rw[List.length_cons,Nat.mul_succ];omega
theorem Bd{b:Nat}:∀(qs:List Rat),(∀q∈qs,RB b q)->Kp qs≤2^(b*qs.length)
 |[],_=>Nat.le_refl 1
 | q::qs,h=>by have ih:=Bd qs λz hz=>h z (List.mem_cons_of_mem _ hz);show q.den*Kp qs≤_;refine Nat.le_trans (Nat.mul_le_mul (Nat.le_of_lt (h q List.mem_cons_self).2) ih) ?_;rw[← Nat.pow_add,List.length_cons,Nat.mul_succ];exact Nat.pow_le_pow_right (by decide) (by omega)
noncomputable def Ha(n:Nat)(a:N9)(p:Rat)(t:Nat):Rat:=if uk n a t then p else a.size-p
noncomputable def Dy(n:Nat)(as:List N9)(ps:List Rat)(t:Nat):Rat:=Gm ((as.zip ps).map λx=>Ha n x.1 x.2 t)
structure GE (R:aR) (ps:List Rat) (c:Nat):Prop where
 len:ps.length=R.asks.length
 lo:∀x∈R.asks.zip ps,0≤x.2/\x.2≤x.1.size
 rb:∀p∈ps,RB c p
theorem vX{n c:Nat}{a:N9}{p:Rat}(h:RB 60 a.size)(hp:RB c p)(t:Nat):RB (61+c) (Ha n a p t):=by
 unfold Ha;split
 · exact hp.mono (by omega)
 · exact(h.sub hp).mono (by omega)
theorem Dz{n c:Nat}{as:List N9}{ps:List Rat}(ha:∀a∈as,RB 60 a.size)(hp:∀p∈ps,RB c p)(hl:as.length≤20)(t:Nat):RB (1+(62+c)*20) (Dy n as ps t):=by
 unfold Dy;have h:=RB.sum (b:=61+c) ((as.zip ps).map λx=>Ha n x.1 x.2 t) λq hq=>by obtain⟨x,hx,rfl⟩:=List.mem_map.mp hq;obtain⟨h1,h2⟩:=List.of_mem_zip (a:=x.1) (b:=x.2) hx;exact vX (ha _ h1) (hp _ h2) t
 refine h.mono ?_;rw[List.length_map,List.length_zip];have:min as.length ps.length≤20:=by omega
 have e:61+c+1=62+c:=by omega
 rw[e];exact Nat.add_le_add_left (Nat.mul_le_mul_left _ this) 1
theorem xQ{α:Type}{xs:List α}{k:Nat}{P:α->Prop}(h:∀x∈xs,P x):∀x∈xs.take k,P x:=λx hx=>h x (List.mem_of_mem_take hx)
noncomputable def zu(c:Nat×Nat)(p:Nat):Bool:=decide (c.1<p/\p≤c.2)
noncomputable def apart(c:Nat×Nat)(i j:Nat):Bool:=zu c i != zu c j
noncomputable def GF(as:List N9)(c:Nat×Nat):Rat:=Gm ((as.filter λa=>apart c a.one a.other).map (·.size))
noncomputable def aR.room(R:aR)(t:Nat):Rat:=R.rooms.getD t 0
noncomputable def I0(R:aR)(c:Nat×Nat):Rat:=R.room c.1+R.room c.2
noncomputable def K6(R:aR)(c:Nat×Nat):Rat:=GF R.asks c / I0 R c
def Ks(n:Nat)(c:Nat×Nat):Prop:=c.1≤c.2/\c.2<n
def Kt(qs:List Rat):Prop:=Kp qs<2^9000∨∃D:Nat,0<D/\D<2^4400/\∀q∈qs,q.den∣D
theorem DA(qs:List Rat):eD (qs.map ND)=(List.range qs.length).map λ(t:Nat)=>D.tup [.int (t:Int),ND (qs.getD t 0)]:=by
 unfold eD;refine List.ext_getElem (by simp) λj h1 h2=>?_;have hj:j<qs.length:=by simpa using h1
 simp[hj]
noncomputable def Ja(P:Nat->Bool)(n:Nat):Option Nat:=(List.range n).find? P
noncomputable def aR.sz(R:aR)(k:Nat):Rat:=(R.asks.map (·.size)).getD k 0
theorem Jb{R:aR}{k:Nat}(h:k<R.asks.length):R.sz k=R.asks[k].size:=by unfold aR.sz;rw[List.getD_eq_getElem?_getD,List.getElem?_map,List.getElem?_eq_getElem h];rfl
theorem Be{qs:List Rat}{k:Nat}(h:k<qs.length):qs.getD k 0=qs[k]:=by rw[List.getD_eq_getElem?_getD,List.getElem?_eq_getElem h];rfl
noncomputable def Jc(R:aR)(ps:List Rat)(k:Nat):Bool:=decide (ps.getD k 0<0) ||decide (R.sz k<ps.getD k 0)
end L2
namespace My
open PySem L2
noncomputable def bh(R:aR)(j:Nat):N9:=(R.asks[j]?).getD ⟨"",0,0,0⟩
noncomputable def Od(R:aR)(j t:Nat):Bool:=uk R.n (bh R j) t
noncomputable def dI(R:aR)(w:Nat->Int)(k g h:Nat):Int:=((List.range (R.asks.length-k)).map λi=>if Od R (k+i) g != Od R (k+i) h then w (k+i)else 0).sum
def LN(R:aR)(w f:Nat->Int)(k:Nat):Prop:=∀g h,g<R.n->h<R.n->dI R w k g h≤f g+f h/\(f g+f h-dI R w k g h) % 2=0
noncomputable def Ku(R:aR)(w f:Nat->Int)(k:Nat)(p:Int)(t:Nat):Int:=f t-if Od R k t then p else w k-p
noncomputable def Oe(i j:Int):Int:=if j<i then j else i
noncomputable def Of(R:aR)(k:Nat):List Nat:=(PySem.W.sortI ((vW R.n (bh R k) true).map λ(t:Nat)=>(t:Int))).map Int.toNat
noncomputable def LO(R:aR)(w f:Nat->Int)(k g h:Nat):Int:=f g+f h-dI R w (k+1) g h
noncomputable def Jd(R:aR)(w f:Nat->Int)(k:Nat)(acc:Int)(g:Nat)(hs:List Nat):Int:=hs.foldl (λt h=>if decide (g≤h)then Oe t (LO R w f k g h)else t) acc
noncomputable def Je(R:aR)(w f:Nat->Int)(k:Nat)(gs:List Nat):Int:=gs.foldl (λt g=>Jd R w f k t g (Of R k)) (2*w k)
noncomputable def Jf(R:aR)(w f:Nat->Int)(k:Nat):Int:=(Je R w f k (Of R k)).fdiv 2
noncomputable def Og(R:aR)(w f:Nat->Int):Nat->Nat->Int
 |0=>f
 |k+1=>Ku R w (Og R w f k) k (Jf R w (Og R w f k) k)
noncomputable def Oh(R:aR)(w f:Nat->Int)(k:Nat):Int:=Jf R w (Og R w f k) k
theorem vY{t b:Int}(h:b≠0):(Rat.divInt t b).den∣b.natAbs:=by rw[Rat.den_divInt,if_neg h];exact Nat.div_dvd_of_dvd (by rw[Int.gcd];exact Nat.gcd_dvd_left _ _)
theorem vZ(p q:Rat):(p*q).den∣p.den*q.den:=by
 have e:p*q=Rat.divInt (p.num*q.num) ((p.den:Int)*q.den):=by rw[← Rat.divInt_mul_divInt,Rat.num_divInt_den,Rat.num_divInt_den]
 rw[e];have:=vY (t:=p.num*q.num) (b:=(p.den:Int)*q.den) (Int.mul_ne_zero (vM _) (vM _));rwa [Int.natAbs_mul,Int.natAbs_natCast,Int.natAbs_natCast]at this
theorem DB(q:Rat):(q.num:Rat)=q*(q.den:Rat):=by
 have h:((q.den:Int):Rat)≠0:=λe=>vM q (by
  have:((q.den:Int):Rat)=((0:Int):Rat):=e
  exact Rat.intCast_inj.mp this)
 have e:q=(q.num:Rat) / ((q.den:Int):Rat):=by
  conv=>lhs;rw[← Rat.num_divInt_den q,Rat.divInt_eq_div]
 have:=Rat.div_mul_cancel (a:=(q.num:Rat)) h;rw[← e]at this;exact this.symm
noncomputable def Oi(qs:List Rat):Nat:=qs.foldl (λb q=>Nat.lcm b q.den) 1
noncomputable def um(u:Nat)(q:Rat):Int:=q.num*((u / q.den:Nat):Int)
theorem uo{u:Nat}{q:Rat}(h:q.den∣u):((um u q:Int):Rat)=q*(u:Rat):=by obtain⟨c,rfl⟩:=h;unfold um;rw[Nat.mul_div_cancel_left _ (den_pos q),Rat.intCast_mul,DB,Rat.intCast_natCast,Rat.natCast_mul,Rat.mul_assoc]
noncomputable def Jg(R:aR):List Rat:=R.asks.map (·.size)
noncomputable def Kv(R:aR)(q:Rat):List Rat:=R.rooms.map λr=>q*r
noncomputable def Oj(R:aR)(q:Rat):Nat:=Oi (Jg R++Kv R q)
noncomputable def Ej(R:aR)(q:Rat):Nat:=2*Oj R q
noncomputable def wI(R:aR)(q:Rat)(j:Nat):Int:=um (Ej R q) (bh R j).size
noncomputable def Ol(R:aR)(q:Rat)(t:Nat):Int:=um (Ej R q) (q*R.room t)
noncomputable def pI(R:aR)(q:Rat)(k:Nat):Int:=Oh R (wI R q) (Ol R q) k
end My
set_option exponentiation.threshold 2000
namespace L2
open PySem
theorem Ek{a n:Nat}(h:a<2^n)(hn:n≤1900):a<2^1900:=Nat.lt_of_lt_of_le h (Nat.pow_le_pow_right (by decide) hn)
theorem xR{q:Rat}{n:Nat}(h:RB n q)(hn:n≤1900):bE (ND q)=true:=by have h1:=Ek h.1 hn;have h2:=Ek h.2 hn;simp only[ND,bE,cV,Bool.and_true,Bool.and_eq_true,decide_eq_true_eq];exact⟨h1,by simpa using h2⟩
end L2
set_option exponentiation.threshold 5000
namespace My
open PySem L2
structure LB (R:aR) (ps:List Rat):Prop where
 p:∀p∈ps,RB 4100 p
 ld:∀k t,RB 4100 (Dy R.n (R.asks.take k) (ps.take k) t)
 st:∀(k:Nat)(h1:k<R.asks.length)(h2:k<ps.length)(t:Nat),RB 4100 (Ha R.n R.asks[k] ps[k] t)
 sm:∀t,Kt ((R.asks.zip ps).map λx=>Ha R.n x.1 x.2 t)
theorem LB.all{R:aR}{ps:List Rat}(h:LB R ps)(hl:ps.length=R.asks.length)(t:Nat):RB 4100 (Dy R.n R.asks ps t):=by have:=h.ld R.asks.length t;rwa [List.take_of_length_le (Nat.le_refl _),List.take_of_length_le (by omega)]at this
theorem LB.of{R:aR}(hR:R.Ok)(hT:∀a∈R.asks,RB 60 a.size){ps:List Rat}{c:Nat}(hb:∀p∈ps,RB c p)(hc:c≤100):LB R ps:=by
 refine⟨λp hp=>(hb p hp).mono (by omega),λk t=>?_,λk h1 h2 t=>?_,λt=>.inl ?_⟩
 · exact(Dz (xQ hT) (xQ hb) (by rw[List.length_take];have:=hR.few;omega) t).mono (by omega)
 · exact(vX (hT _ (List.getElem_mem h1)) (hb _ (List.getElem_mem h2)) t).mono (by omega)
 ·
  refine Nat.lt_of_le_of_lt (Bd (b:=161) _ λq hq=>?_) (Nat.pow_lt_pow_right (by decide) ?_)
  · obtain⟨x,hx,rfl⟩:=List.mem_map.mp hq;obtain⟨h1,h2⟩:=List.of_mem_zip (a:=x.1) (b:=x.2) hx;exact(vX (hT _ h1) (hb _ h2) t).mono (by omega)
  · rw[List.length_map,List.length_zip];have:=hR.few;omega
noncomputable def zI(R:aR)(q:Rat)(t j:Nat):Int:=if uk R.n (bh R j) t then pI R q j else wI R q j-pI R q j
noncomputable def pM:D->Bool
 |.tup [.int i,.int j]=>decide (1≤j) && decide ((Int.gcd i j:Int)=1)
 |_=>false
theorem mD{d:D}(h:∀i j,d≠.tup [.int i,.int j]):pM d=false:=by
 unfold pM;split
 · rename_i i j;exact absurd rfl (h i j)
 · rfl
mutual
noncomputable def zo:D->Nat
 |.tup xs=>max xs.length (v3 xs)
 |.lst xs=>max xs.length (v3 xs)
 |_=>0
noncomputable def v3:List D->Nat
 |[]=>0
 |x::xs=>max (zo x) (v3 xs)
end
theorem xS{n:Nat}:∀{xs:List D},(∀x∈xs,zo x≤n)->v3 xs≤n
 |[],_=>Nat.zero_le _
 | y::ys,h=>by simp only[v3];have:=h y List.mem_cons_self;have:=xS (xs:=ys) λx hx=>h x (List.mem_cons_of_mem _ hx);omega
theorem El{n:Nat}(h:n≤99):n≤sizeLine:=Nat.le_trans h (by decide)
theorem GG(q:Rat):zo (ND q)=2:=by simp[ND,zo,v3]
theorem DC(a:N9):zo (ml a)=4:=by have:=GG a.size;simp[ml,zo,v3,this]
theorem Bf{as:List N9}{n:Nat}(h:as.length≤n)(h2:4≤n):zo (.lst (as.map ml))≤n:=by
 simp only[zo,List.length_map];have:=xS (n:=4) (xs:=as.map ml) λx hx=>by obtain⟨q,_,rfl⟩:=List.mem_map.mp hx;rw[DC];exact Nat.le_refl _
 omega
structure Om (n:Nat) (d:D):Prop where
 dep:xv d<n
 wid:zo d≤99
theorem Om.mono{n m:Nat}{d:D}(h:Om n d)(hm:n≤m):Om m d:=⟨Nat.lt_of_lt_of_le h.dep hm,h.wid⟩
theorem GH(q:Rat):xv (ND q)=1:=by simp[ND,xv,vG]
theorem DD(a:N9):xv (ml a)=2:=by have:=GH a.size;simp[ml,xv,vG,this]
theorem DE{xs:List D}{n:Nat}(h:∀x∈xs,xv x≤n):xv (.lst xs)≤n+1:=by simp only[xv];have:=xw h;omega
theorem Bg(as:List N9):xv (.lst (as.map ml))≤3:=DE λx hx=>by obtain⟨q,_,rfl⟩:=List.mem_map.mp hx;rw[DD];exact Nat.le_refl _
theorem Om.asks{as:List N9}(h:as.length≤99):Om 4 (.lst (as.map ml)):=⟨by have:=Bg as;omega,Bf h (by decide)⟩
end My
set_option exponentiation.threshold 5000
namespace My
open PySem L2
def Tw(R:aR)(ps:List Rat):Prop:=∀k,k<R.asks.length->∃v:Int,0≤v/\v≤12/\ps.getD k 0=R.sz k*Rat.divInt v 12
end My
set_option exponentiation.threshold 5000
namespace My
open PySem L2
structure LP where
 top:Rat
 strict:Bool
 elder:List (Option Bool)
 most:Nat
noncomputable def Jh(x:Option Bool×Option Bool):Bool:=match x.1 with
 |none=>false
 |some a=>x.2 == some (!a)
noncomputable def Kw(el ws:List (Option Bool)):List Nat:=((el.zip ws).zipIdx.filter λx=>Jh x.1).map (·.2)
noncomputable def Kx(st:Bool)(load bound:Int):Bool:=decide (bound<load) ||(st && decide (load=bound))
end My
set_option exponentiation.threshold 5000
namespace My
open PySem L2
noncomputable def K7:Nat->(Nat->Int)->Int
 |0,_=>0
 |n+1,f=>K7 n f+f n
inductive Tr where
 |turned
 |cut (c:Nat×Nat)
 |split (k:Nat) (a b:Tr)
noncomputable def On(R:aR)(fixed:List (Option Bool))(c:Nat×Nat)(i:Nat):Int:=match fixed.getD i none with
 |none=>if apart c (bh R i).one (bh R i).other then 1 else 0
 |some b=>(if Od R i c.1 == b then 1 else 0)+if Od R i c.2 == b then 1 else 0
noncomputable def Ky(R:aR)(q:Rat)(fixed:List (Option Bool))(c:Nat×Nat):Int:=K7 R.asks.length λi=>wI R q i*On R fixed c i
def Tr.Ok(R:aR)(w:LP):List (Option Bool)->Tr->Prop
 |fixed,.turned=>w.most<(Kw w.elder fixed).length
 |fixed,.cut c=>Ks R.n c/\Kx w.strict (Ky R w.top fixed c) (Ol R w.top c.1+Ol R w.top c.2)=true
 |fixed,.split k a b=>k<fixed.length/\fixed.getD k none=none/\Tr.Ok R w (fixed.set k (some true)) a/\Tr.Ok R w (fixed.set k (some false)) b
end My
set_option exponentiation.threshold 5000
namespace My
open PySem L2
noncomputable def Tr.size:Tr->Nat
 |.turned=>1
 |.cut _=>1
 |.split _ a b=>a.size+b.size+1
end My
set_option exponentiation.threshold 5000
namespace My
open PySem L2
end My
set_option exponentiation.threshold 5000
namespace My
open PySem L2
end My
set_option exponentiation.threshold 5000
namespace My
open PySem L2
theorem Bh{d:D}(h:pM d=true):∃q:Rat,d=ND q:=by
 by_cases hd:∃i j,d=.tup [.int i,.int j]
 ·
  obtain⟨i,j,rfl⟩:=hd;have e:pM (.tup [.int i,.int j])=(decide (1≤j) && decide ((Int.gcd i j:Int)=1)):=rfl;rw[e,Bool.and_eq_true]at h;have h1:=of_decide_eq_true h.1;have h2:=of_decide_eq_true h.2;refine⟨⟨i,j.toNat,by omega,?_⟩,?_⟩
  ·
   have:Int.gcd i j=1:=by omega
   show Nat.gcd i.natAbs j.toNat=1;have e2:j.natAbs=j.toNat:=by omega
   rw[← e2];exact this
  · show D.tup [.int i,.int j]=D.tup [.int i,.int (j.toNat:Int)];rw[Int.toNat_of_nonneg (by omega)]
 · rw[mD λi j e=>hd ⟨i,j,e⟩]at h;cases h
noncomputable def JN:D->Rat
 |.tup [.int i,.int j]=>mkRat i j.toNat
 |_=>0
theorem v5(q:Rat):JN (ND q)=q:=by show mkRat q.num (q.den:Int).toNat=q;rw[Int.toNat_natCast];exact Rat.mkRat_self q
theorem xT(ps:List Rat):(ps.map ND).map JN=ps:=by
 rw[List.map_map]
 conv=>rhs;rw[← List.map_id ps]
 exact List.map_congr_left λq _=>v5 q
structure Em (R:aR) (d:D):Prop where
 rb:∀(xs:List D)(q:Rat),d=.lst xs->ND q∈xs->RB 4400 q
 lb:∀ps:List Rat,d=.lst (ps.map ND)->ps.length=R.asks.length->Ja (Jc R ps) ps.length=none->LB R ps
theorem Em.of{R:aR}{ps:List Rat}(hb:LB R ps):Em R (.lst (ps.map ND)):=by
 refine⟨λxs q e hq=>?_,λps' e _ _=>?_⟩
 · cases e;obtain⟨p,hp,ep⟩:=List.mem_map.mp hq;have e2:=congrArg JN ep;rw[v5,v5]at e2;subst e2;exact(hb.p p hp).mono (by decide)
 ·
  have e1:ps.map ND=ps'.map ND:=by injection e
  have e2:=congrArg (List.map JN) e1;rw[xT,xT]at e2;subst e2;exact hb
end My
set_option exponentiation.threshold 5000
namespace My
open PySem L2
structure cm where
 k:Nat
 kw:Bool
 l:Nat
 lw:Bool
 am:Rat
noncomputable def Oo(s:cm):D:=.tup [.int (s.k:Int),.str (dg s.kw),.int (s.l:Int),.str (dg s.lw),ND s.am]
noncomputable def Oq(R:aR)(ps:List Rat)(k:Nat)(w:Bool):Rat:=if w then R.sz k-ps.getD k 0 else ps.getD k 0
noncomputable def Os(R:aR)(ps:List Rat)(k:Nat)(kw:Bool)(l:Nat)(lw:Bool):Rat:=if Oq R ps l lw<Oq R ps k kw then Oq R ps l lw else Oq R ps k kw
noncomputable def Ot(p:Rat)(w:Bool)(am:Rat):Rat:=if w then p+am else p-am
noncomputable def Ou(ps:List Rat)(s:cm):List Rat:=(ps.set s.k (Ot (ps.getD s.k 0) s.kw s.am)).set s.l (Ot ((ps.set s.k (Ot (ps.getD s.k 0) s.kw s.am)).getD s.l 0) s.lw s.am)
noncomputable def gG(n:Nat)(a:N9)(aw:Bool)(b:N9)(bw:Bool):Bool:=!((vW n a aw).any λt=>decide (t∈vW n b bw))
noncomputable def bF(n:Nat)(a b:N9):Bool×Bool:=if gG n a true b true then(true,true)else if gG n a true b false then(true,false)else if gG n a false b true then(false,true)else(false,false)
structure gu (R:aR) (ps:List Rat):Prop where
 ok:R.Ok
 len:ps.length=R.asks.length
 lo:∀k,k<ps.length->0≤ps.getD k 0/\ps.getD k 0≤R.sz k
 cd:∃D:Nat,0<D/\D<2^1500/\(∀a∈R.asks,a.size.den∣D)/\∀p∈ps,p.den∣D
theorem nL{R:aR}{k:Nat}(h:k<R.asks.length):R.sz k=R.asks[k].size:=by unfold aR.sz;rw[List.getD_eq_getElem?_getD,List.getElem?_map,List.getElem?_eq_getElem h];rfl
theorem cf{ps:List Rat}{k:Nat}(h:k<ps.length):ps.getD k 0=ps[k]:=by rw[List.getD_eq_getElem?_getD,List.getElem?_eq_getElem h];rfl
theorem Ov{a b c:Rat}(h1:a≤b)(h2:b<c):a<c:=by rw[← Rat.not_le]at h2 ⊢;exact λz=>h2 (Rat.le_trans z h1)
theorem DF{q:Rat}{D:Nat}(h0:0≤q)(h1:q<((2^300:Nat):Rat))(d0:0<D)(d1:D<2^1500)(hd:q.den∣D):RB 1800 q:=RB.of_val (v:=300) (d:=1500) h0 (Nat.lt_of_le_of_lt (Nat.le_of_dvd d0 hd) d1) h1
theorem gu.sz_rb{R:aR}{ps:List Rat}(h:gu R ps){k:Nat}(hk:k<ps.length):RB 1800 (R.sz k):=by
 have hk':k<R.asks.length:=by rw[← h.len];exact hk
 rw[nL hk'];exact(h.ok.rb (List.getElem_mem hk')).mono (by decide)
theorem gu.rb{R:aR}{ps:List Rat}(h:gu R ps){k:Nat}(hk:k<ps.length):RB 1800 (ps.getD k 0):=by
 obtain⟨D,d0,d1,_,hd⟩:=h.cd;have hk':k<R.asks.length:=by rw[← h.len];exact hk
 obtain⟨h1,h2⟩:=h.lo k hk;refine DF h1 (Ov h2 ?_) d0 d1 (hd _ (by rw[cf hk];exact List.getElem_mem hk));rw[nL hk'];exact(h.ok.ask _ (List.getElem_mem hk')).lt
theorem rE{p q:Rat}{D:Nat}(d0:0<D)(h1:p.den∣D)(h2:q.den∣D):(p+q).den∣D:=by
 have e:p+q=Rat.divInt (um D p+um D q) (D:Int):=by
  have hD:((D:Int):Rat)≠0:=by have:(0:Rat)<(D:Rat):=Rat.natCast_pos.mpr d0;intro z;rw[show((D:Int):Rat)=(D:Rat)from rfl]at z;rw[z]at this;exact absurd this (by decide)
  rw[Rat.divInt_eq_div,Rat.intCast_add,uo h1,uo h2,← Rat.add_mul,Rat.div_def,Rat.mul_assoc,show((D:Nat):Rat)=((D:Int):Rat)from rfl,Rat.mul_inv_cancel _ hD,Rat.mul_one]
 rw[e];have:=vY (t:=um D p+um D q) (b:=(D:Int)) (by omega);simpa using this
theorem rF{p q:Rat}{D:Nat}(d0:0<D)(h1:p.den∣D)(h2:q.den∣D):(p-q).den∣D:=by rw[Rat.sub_eq_add_neg];exact rE d0 h1 (by rw[Rat.neg_den];exact h2)
theorem gu.ns{R:aR}{ps:List Rat}(h:gu R ps){k:Nat}(hk:k<ps.length)(w:Bool):0≤Oq R ps k w/\Oq R ps k w≤R.sz k:=by
 obtain⟨h1,h2⟩:=h.lo k hk;unfold Oq;cases w
 · exact⟨h1,h2⟩
 ·
  have h3:=(Rat.le_iff_sub_nonneg _ _).mp h2;refine⟨h3,?_⟩;show R.sz k-ps.getD k 0≤R.sz k;rw[Rat.le_iff_sub_nonneg];have:R.sz k-(R.sz k-ps.getD k 0)=ps.getD k 0:=by rw[Rat.sub_eq_add_neg,Rat.sub_eq_add_neg,Rat.neg_add,Rat.neg_neg,← Rat.add_assoc,Rat.add_neg_cancel,Rat.zero_add]
  rw[this];exact h1
noncomputable def uq(a:N9):Nat:=min a.one a.other
noncomputable def iY(a:N9):Nat:=max a.one a.other
noncomputable def Ow(a:N9):Bool:=decide (a.one<a.other)
theorem ur{n:Nat}{a:N9}(h:fk n a){t:Nat}(ht:t<n):(uk n a t == Ow a)=true↔uq a≤t/\t<iY a:=by
 have h1:=h.one;have h2:=h.other;have h3:=h.ne;unfold uk uq iY Ow;rw[ng h1 ht,ng h1 h2];rw[beq_iff_eq,decide_eq_decide];by_cases h4:a.one<a.other
 ·
  rw[if_pos (show a.one≤a.other by omega)];by_cases h5:a.one≤t
  · rw[if_pos h5];omega
  · rw[if_neg h5];omega
 ·
  rw[if_neg (show ¬a.one≤a.other by omega)];by_cases h5:a.one≤t
  · rw[if_pos h5];omega
  · rw[if_neg h5];omega
theorem rG{n:Nat}{a b:N9}(ha:fk n a)(hb:fk n b){aw bw:Bool}(h:∀t,t<n->(uk n a t == aw)=true->(uk n b t == bw)=true->False):gG n a aw b bw=true:=by
 unfold gG;rw[Bool.not_eq_true',List.any_eq_false];intro t ht;rw[decide_eq_true_iff];intro hb'
 have htn:t<n:=by
  cases aw
  · exact((rq ha.one ha.other ha.ne).mp ht).1
  · exact((A9 ha.one).mp ht).1
 exact h t htn ((rC ha aw htn).mp ht) ((rC hb bw htn).mp hb')
theorem uu{n:Nat}{a:N9}(h:fk n a){t:Nat}(ht:t<n):(uk n a t == !Ow a)=true↔¬(uq a≤t/\t<iY a):=by rw[← ur h ht];cases uk n a t<;>cases Ow a<;>simp
noncomputable def Kz(a b:N9):Bool:=decide (uq a<uq b/\uq b<iY a/\iY a<iY b) ||decide (uq b<uq a/\uq a<iY b/\iY b<iY a)
theorem DG{n:Nat}{a b:N9}(ha:fk n a)(hb:fk n b)(h:Kz a b=false):gG n a (bF n a b).1 b (bF n a b).2=true:=by
 have ex:∃aw bw,gG n a aw b bw=true:=by
  unfold Kz at h;rw[Bool.or_eq_false_iff,decide_eq_false_iff_not,decide_eq_false_iff_not]at h;have la:uq a<iY a:=by have:=ha.ne;unfold uq iY;omega
  have lb:uq b<iY b:=by have:=hb.ne;unfold uq iY;omega
  by_cases h1:iY a≤uq b∨iY b≤uq a
  · refine⟨Ow a,Ow b,rG ha hb λt ht p q=>?_⟩;have p:=(ur ha ht).mp p;have q:=(ur hb ht).mp q;omega
  ·
   by_cases h2:uq b≤uq a/\iY a≤iY b
   · refine⟨Ow a,!Ow b,rG ha hb λt ht p q=>?_⟩;have p:=(ur ha ht).mp p;have q:=(uu hb ht).mp q;omega
   · refine⟨!Ow a,Ow b,rG ha hb λt ht p q=>?_⟩;have p:=(uu ha ht).mp p;have q:=(ur hb ht).mp q;omega
 unfold bF;split
 · assumption
 ·
  split
  · assumption
  ·
   split
   · assumption
   ·
    obtain⟨aw,bw,e⟩:=ex
    cases aw<;>cases bw<;>first|exact e|contradiction
noncomputable def Ox(R:aR)(ps:List Rat)(k l:Nat)(w:Bool×Bool):cm:=⟨k,w.1,l,w.2,Os R ps k w.1 l w.2⟩
theorem gu.ms{R:aR}{ps:List Rat}(h:gu R ps){k l:Nat}(hk:k<ps.length)(hl:l<ps.length)(kw lw:Bool):0≤Os R ps k kw l lw/\Os R ps k kw l lw≤Oq R ps k kw/\Os R ps k kw l lw≤Oq R ps l lw/\(Os R ps k kw l lw=Oq R ps k kw∨Os R ps k kw l lw=Oq R ps l lw):=by
 have h1:=h.ns hk kw;have h2:=h.ns hl lw;unfold Os;split
 · rename_i hlt;exact⟨h2.1,Rat.le_of_lt hlt,Rat.le_refl,.inr rfl⟩
 · rename_i hlt;exact⟨h1.1,Rat.le_refl,Rat.not_lt.mp hlt,.inl rfl⟩
noncomputable def Oy(R:aR)(k l:Nat):Bool:=Kz (bh R k) (bh R l)
noncomputable def Oz(cr:Nat->Nat->Bool):List Nat->Option (Nat×Nat)
 |[]=>none
 | k::ks=>match ks.find? (λl=>!cr k l)with
  |some l=>some (k,l)
  |none=>Oz cr ks
noncomputable def Bi:Option (Nat×Nat)->D
 |none=>.non
 |some (k,l)=>.tup [.int (k:Int),.int (l:Int)]
theorem dG{R:aR}{k:Nat}(h:k<R.asks.length):bh R k=R.asks[k]:=by unfold bh;rw[List.getElem?_eq_getElem h];rfl
end My
set_option exponentiation.threshold 5000
namespace My
open PySem L2
noncomputable def OA(R:aR)(ps:List Rat)(k:Nat):Bool:=decide (0<ps.getD k 0) && decide (ps.getD k 0<R.sz k)
noncomputable def OB(R:aR)(ps:List Rat):List Nat:=(List.range ps.length).filter (OA R ps)
theorem lB{R:aR}{ps:List Rat}{k:Nat}(h:k∈OB R ps):k<ps.length/\OA R ps k=true:=by obtain⟨h1,h2⟩:=List.mem_filter.mp h;exact⟨List.mem_range.mp h1,h2⟩
theorem Bj(R:aR)(ps:List Rat):(OB R ps).Pairwise (· < ·):=List.Pairwise.filter _ List.pairwise_lt_range
theorem oh{cr:Nat->Nat->Bool}:∀{ks:List Nat}{k l:Nat},ks.Pairwise (· < ·)->Oz cr ks=some (k,l)->k∈ks/\l∈ks/\k<l/\cr k l=false
 |[],_,_,_,h=>by cases h
 | a::ks,k,l,hp,h=>by
  obtain⟨p1,p2⟩:=List.pairwise_cons.mp hp;unfold Oz at h
  cases e:ks.find? (λl=>!cr a l)with
  | none =>
   rw[e]at h;obtain⟨h1,h2,h3,h4⟩:=oh p2 h;exact⟨List.mem_cons_of_mem _ h1,List.mem_cons_of_mem _ h2,h3,h4⟩
  | some m =>
   rw[e]at h;cases h;have hm:=List.mem_of_find?_eq_some e;have hc:=List.find?_some e;exact⟨List.mem_cons_self,List.mem_cons_of_mem _ hm,p1 _ hm,by simpa using hc⟩
theorem GJ(p s:Rat):p+(s-p)=s:=by rw[Rat.sub_eq_add_neg,← Rat.add_assoc,Rat.add_comm p s,Rat.add_assoc,Rat.add_neg_cancel,Rat.add_zero]
theorem Bk(p:Rat):p-p=0:=by rw[Rat.sub_eq_add_neg,Rat.add_neg_cancel]
theorem GK{p a:Rat}(h:a≤p):0≤p-a:=(Rat.le_iff_sub_nonneg _ _).mp h
theorem DH{p a:Rat}(h:0≤a):p-a≤p:=by rw[Rat.le_iff_sub_nonneg,Rat.sub_eq_add_neg,Rat.sub_eq_add_neg,Rat.neg_add,Rat.neg_neg,← Rat.add_assoc,Rat.add_neg_cancel,Rat.zero_add];exact h
theorem GL{p a:Rat}(h1:0≤p)(h2:0≤a):0≤p+a:=Rat.add_nonneg h1 h2
structure Hb (R:aR) (ps:List Rat) (s:cm):Prop where
 k:s.k<ps.length
 l:s.l<ps.length
 kl:s.k≠s.l
 nn:0≤s.am
 kn:s.am≤Oq R ps s.k s.kw
 ln:s.am≤Oq R ps s.l s.lw
theorem iZ(ps:List Rat)(s:cm):(Ou ps s).length=ps.length:=by simp[Ou]
theorem uv{ps:List Rat}{s:cm}(hk:s.k<ps.length)(hl:s.l<ps.length)(hkl:s.k≠s.l)(i:Nat):(Ou ps s).getD i 0=if i=s.k then Ot (ps.getD s.k 0) s.kw s.am else if i=s.l then Ot (ps.getD s.l 0) s.lw s.am else ps.getD i 0:=by
 have e0:(ps.set s.k (Ot (ps.getD s.k 0) s.kw s.am)).getD s.l 0=ps.getD s.l 0:=by rw[List.getD_eq_getElem?_getD,List.getElem?_set_ne hkl,← List.getD_eq_getElem?_getD]
 unfold Ou;rw[e0,List.getD_eq_getElem?_getD];by_cases h1:i=s.k
 · subst h1;rw[if_pos rfl,List.getElem?_set_ne (Ne.symm hkl),List.getElem?_set_self hk];rfl
 ·
  rw[if_neg h1];by_cases h2:i=s.l
  · subst h2;rw[if_pos rfl,List.getElem?_set_self (by simpa using hl)];rfl
  · rw[if_neg h2,List.getElem?_set_ne (Ne.symm h2),List.getElem?_set_ne (Ne.symm h1),List.getD_eq_getElem?_getD]
theorem xU{R:aR}{ps:List Rat}{k:Nat}{w:Bool}{am:Rat}(h1:0≤ps.getD k 0)(h2:ps.getD k 0≤R.sz k)(a0:0≤am)(a1:am≤Oq R ps k w):0≤Ot (ps.getD k 0) w am/\Ot (ps.getD k 0) w am≤R.sz k:=by
 unfold Oq at a1;unfold Ot
 cases w with
 | true =>
  simp only[if_true]at a1 ⊢;refine⟨GL h1 a0,?_⟩;have:=(Rat.add_le_add_left (c:=ps.getD k 0)).mpr a1;rwa [GJ]at this
 | false =>
  simp only[Bool.false_eq_true,if_false]at a1 ⊢;exact⟨GK a1,Rat.le_trans (DH a0) h2⟩
theorem gu.slid{R:aR}{ps:List Rat}{s:cm}(h:gu R ps)(hs:Hb R ps s)(hd:∀D:Nat,0<D->(∀a∈R.asks,a.size.den∣D)->(∀p∈ps,p.den∣D)->s.am.den∣D):gu R (Ou ps s):=by
 refine⟨h.ok,by rw[iZ];exact h.len,λi hi=>?_,?_⟩
 ·
  rw[iZ]at hi;rw[uv hs.k hs.l hs.kl];split
  · rename_i e;subst e;exact xU (h.lo _ hs.k).1 (h.lo _ hs.k).2 hs.nn hs.kn
  ·
   split
   · rename_i e;subst e;exact xU (h.lo _ hs.l).1 (h.lo _ hs.l).2 hs.nn hs.ln
   · exact h.lo i hi
 ·
  obtain⟨D,d0,d1,da,dp⟩:=h.cd;have dm:=hd D d0 da dp;have dk:∀k,k<ps.length->(ps.getD k 0).den∣D:=λk hk=>dp _ (by rw[cf hk];exact List.getElem_mem hk)
  have db:∀(k:Nat)(w:Bool),k<ps.length->(Ot (ps.getD k 0) w s.am).den∣D:=λk w hk=>by
   unfold Ot;cases w
   · exact rF d0 (dk k hk) dm
   · exact rE d0 (dk k hk) dm
  refine⟨D,d0,d1,da,λp hp=>?_⟩;obtain⟨i,hi,rfl⟩:=List.getElem_of_mem hp;rw[← cf hi,uv hs.k hs.l hs.kl];rw[iZ]at hi;split
  · exact db _ _ hs.k
  ·
   split
   · exact db _ _ hs.l
   · exact dk i hi
theorem xV{R:aR}{ps:List Rat}(h:gu R ps){k:Nat}(hk:k<ps.length)(w:Bool){D:Nat}(d0:0<D)(da:∀a∈R.asks,a.size.den∣D)(dp:∀p∈ps,p.den∣D):(Oq R ps k w).den∣D:=by
 have hk':k<R.asks.length:=by rw[← h.len];exact hk
 have e1:(ps.getD k 0).den∣D:=dp _ (by rw[cf hk];exact List.getElem_mem hk);unfold Oq;cases w
 · exact e1
 · refine rF d0 ?_ e1;rw[nL hk'];exact da _ (List.getElem_mem hk')
theorem En{R:aR}{ps:List Rat}(h:gu R ps){k l:Nat}(hk:k<ps.length)(hl:l<ps.length)(hkl:k≠l)(w:Bool×Bool):Hb R ps (Ox R ps k l w):=by obtain⟨m1,m2,m3,_⟩:=h.ms hk hl w.1 w.2;exact⟨hk,hl,hkl,m1,m2,m3⟩
theorem Eo{R:aR}{ps:List Rat}(h:gu R ps){k l:Nat}(hk:k<ps.length)(hl:l<ps.length)(hkl:k≠l)(w:Bool×Bool):gu R (Ou ps (Ox R ps k l w)):=by
 refine h.slid (En h hk hl hkl w) λD d0 da dp=>?_;show(Os R ps k w.1 l w.2).den∣D;rcases(h.ms hk hl w.1 w.2).2.2.2 with e|e
 · rw[e];exact xV h hk _ d0 da dp
 · rw[e];exact xV h hl _ d0 da dp
theorem Ep{R:aR}{ps:List Rat}{k:Nat}{w:Bool}:¬(0<Ot (ps.getD k 0) w (Oq R ps k w)/\Ot (ps.getD k 0) w (Oq R ps k w)<R.sz k):=by
 unfold Ot Oq
 cases w with
 | true =>
  simp only[if_true];rw[GJ];exact λz=>Rat.lt_irrefl z.2
 | false =>
  simp only[Bool.false_eq_true,if_false];rw[Bk];exact λz=>Rat.lt_irrefl z.1
theorem v7{p q:Nat->Bool}:∀{l:List Nat}{x:Nat},(∀y∈l,q y=true->p y=true)->x∈l->p x=true->q x=false->(l.filter q).length<(l.filter p).length
 |[],_,_,hx,_,_=>by cases hx
 | a::l,x,h,hx,hp,hq=>by
  have le:∀m:List Nat,(∀y∈m,q y=true->p y=true)->(m.filter q).length≤(m.filter p).length:=λm hm=>by
   induction m with
   |nil=>exact Nat.le_refl _
   | cons b m ih =>
    have ih:=ih λy hy=>hm y (List.mem_cons_of_mem _ hy);have hb:=hm b List.mem_cons_self;rw[List.filter_cons,List.filter_cons];cases e1:q b<;>cases e2:p b<;>simp_all<;>omega
  have h':∀y∈l,q y=true->p y=true:=λy hy=>h y (List.mem_cons_of_mem _ hy);rw[List.filter_cons,List.filter_cons];rcases List.mem_cons.mp hx with rfl|hx
  · rw[hp,hq];have:=le l h';simp;omega
  · have ih:=v7 h' hx hp hq;have hb:=h a List.mem_cons_self;cases e1:q a<;>cases e2:p a<;>simp_all<;>omega
theorem xW{R:aR}{ps:List Rat}(h:gu R ps){k l:Nat}(hk:k∈OB R ps)(hl:l∈OB R ps)(hkl:k≠l)(w:Bool×Bool):(OB R (Ou ps (Ox R ps k l w))).length<(OB R ps).length:=by
 obtain⟨hk1,hk2⟩:=lB hk;obtain⟨hl1,hl2⟩:=lB hl;have at_:=uv (s:=Ox R ps k l w) hk1 hl1 hkl;unfold OB;rw[iZ]
 have up:∀y∈List.range ps.length,OA R (Ou ps (Ox R ps k l w)) y=true->OA R ps y=true:=λy _ hy=>by
  unfold OA at hy ⊢;rw[at_]at hy;by_cases e1:y=k
  · subst e1;exact hk2
  ·
   by_cases e2:y=l
   · subst e2;exact hl2
   · rw[if_neg (show ¬y=(Ox R ps k l w).k from e1),if_neg (show ¬y=(Ox R ps k l w).l from e2)]at hy;exact hy
 rcases(h.ms hk1 hl1 w.1 w.2).2.2.2 with e|e
 · refine v7 up (List.mem_range.mpr hk1) hk2 ?_;unfold OA;rw[at_,if_pos (show k=(Ox R ps k l w).k from rfl)];show(decide (0<Ot (ps.getD k 0) w.1 (Os R ps k w.1 l w.2)) && decide (Ot (ps.getD k 0) w.1 (Os R ps k w.1 l w.2)<R.sz k))=false;rw[e];have:=Ep (R:=R) (ps:=ps) (k:=k) (w:=w.1);rw[← Bool.not_eq_true,Bool.and_eq_true,decide_eq_true_eq,decide_eq_true_eq];exact this
 · refine v7 up (List.mem_range.mpr hl1) hl2 ?_;unfold OA;rw[at_,if_neg (show ¬l=(Ox R ps k l w).k from Ne.symm hkl),if_pos (show l=(Ox R ps k l w).l from rfl)];show(decide (0<Ot (ps.getD l 0) w.2 (Os R ps k w.1 l w.2)) && decide (Ot (ps.getD l 0) w.2 (Os R ps k w.1 l w.2)<R.sz l))=false;rw[e];have:=Ep (R:=R) (ps:=ps) (k:=l) (w:=w.2);rw[← Bool.not_eq_true,Bool.and_eq_true,decide_eq_true_eq,decide_eq_true_eq];exact this
noncomputable def B7(R:aR)(ps:List Rat):Option cm:=(Oz (Oy R) (OB R ps)).map λp=>Ox R ps p.1 p.2 (bF R.n (bh R p.1) (bh R p.2))
noncomputable def v8(R:aR):Nat->List Rat->List cm
 |0,_=>[]
 | n+1,ps=>match B7 R ps with
  |none=>[]
  |some s=>s::v8 R n (Ou ps s)
theorem pS{R:aR}{ps:List Rat}(h:gu R ps){k:Nat}(hk:k<ps.length)(w:Bool):RB 3700 (Oq R ps k w):=by
 unfold Oq;cases w
 · exact(h.rb hk).mono (by decide)
 · exact((h.sz_rb hk).sub (h.rb hk)).mono (by decide)
theorem GM{R:aR}{ps:List Rat}{k:Nat}(w:Bool):R.sz k-Oq R ps k (!w)=Oq R ps k w:=by
 unfold Oq;cases w
 · show R.sz k-(R.sz k-ps.getD k 0)=ps.getD k 0;rw[Rat.sub_eq_add_neg,Rat.sub_eq_add_neg,Rat.neg_add,Rat.neg_neg,← Rat.add_assoc,Rat.add_neg_cancel,Rat.zero_add]
 · rfl
theorem GN{R:aR}{ps:List Rat}{k l:Nat}{kw lw:Bool}{am:Rat}:Os R ps k kw l lw<am↔Oq R ps k kw<am∨Oq R ps l lw<am:=by
 unfold Os;split
 · rename_i h;exact⟨.inr,λz=>z.elim (λq=>Ov (Rat.le_of_lt h) q) id⟩
 · rename_i h;exact⟨.inl,λz=>z.elim id λq=>Ov (Rat.not_lt.mp h) q⟩
end My
set_option exponentiation.threshold 5000
namespace My
open PySem L2
noncomputable def Nz(R:aR)(ps:List Rat)(s:cm):Bool:=!decide (s.k=s.l) && (gG R.n (bh R s.k) s.kw (bh R s.l) s.lw && (decide (0<s.am) && !decide (Os R ps s.k s.kw s.l s.lw<s.am)))
theorem Er{R:aR}{ps:List Rat}{k:Nat}(h:OA R ps k=true)(w:Bool):0<Oq R ps k w:=by
 unfold OA at h;rw[Bool.and_eq_true,decide_eq_true_eq,decide_eq_true_eq]at h;unfold Oq;cases w
 · exact h.1
 · show 0<R.sz k-ps.getD k 0;have:=h.2;rw[← Rat.not_le]at this ⊢;intro z;apply this;have:=(Rat.add_le_add_left (c:=ps.getD k 0)).mpr z;rw[GJ,Rat.add_zero]at this;exact this
theorem xX{R:aR}{ps:List Rat}{s:cm}(h:gu R ps)(e:B7 R ps=some s):Hb R ps s/\Nz R ps s=true/\gu R (Ou ps s)/\(OB R (Ou ps s)).length<(OB R ps).length/\RB 4000 s.am/\s.k∈OB R ps/\s.l∈OB R ps:=by
 unfold B7 at e
 cases e1:Oz (Oy R) (OB R ps)with
 |none=>rw[e1]at e;cases e
 | some p =>
  obtain⟨k,l⟩:=p;rw[e1]at e;obtain⟨hk,hl,hkl,hc⟩:=oh (Bj R ps) e1;obtain⟨hk1,hk2⟩:=lB hk;obtain⟨hl1,hl2⟩:=lB hl;have hk':k<R.asks.length:=by rw[← h.len];exact hk1
  have hl':l<R.asks.length:=by rw[← h.len];exact hl1
  have hkl':k≠l:=by omega
  have ee:Ox R ps k l (bF R.n (bh R k) (bh R l))=s:=Option.some.inj e;subst ee;refine⟨En h hk1 hl1 hkl' _,?_,Eo h hk1 hl1 hkl' _,xW h hk hl hkl' _,?_,hk,hl⟩
  ·
   unfold Nz;show(!decide (k=l) && (gG R.n (bh R k) (bF R.n (bh R k) (bh R l)).1 (bh R l) (bF R.n (bh R k) (bh R l)).2 && (decide (0<Os R ps k (bF R.n (bh R k) (bh R l)).1 l (bF R.n (bh R k) (bh R l)).2) && !decide (Os R ps k (bF R.n (bh R k) (bh R l)).1 l (bF R.n (bh R k) (bh R l)).2<Os R ps k (bF R.n (bh R k) (bh R l)).1 l (bF R.n (bh R k) (bh R l)).2))))=true;rw[decide_eq_false hkl',DG (by rw[dG hk'];exact h.ok.ask _ (List.getElem_mem hk')) (by rw[dG hl'];exact h.ok.ask _ (List.getElem_mem hl')) hc,decide_eq_false (Rat.lt_irrefl),decide_eq_true]
   · rfl
   ·
    rcases(h.ms hk1 hl1 (bF R.n (bh R k) (bh R l)).1 (bF R.n (bh R k) (bh R l)).2).2.2.2 with z|z
    · rw[z];exact Er hk2 _
    · rw[z];exact Er hl2 _
  ·
   show RB 4000 (Os R ps k _ l _);rcases(h.ms hk1 hl1 (bF R.n (bh R k) (bh R l)).1 (bF R.n (bh R k) (bh R l)).2).2.2.2 with z|z
   · rw[z];exact(pS h hk1 _).mono (by decide)
   · rw[z];exact(pS h hl1 _).mono (by decide)
theorem Bl{R:aR}:∀(m:Nat)(ps:List Rat),gu R ps->(v8 R m ps).length≤(OB R ps).length
 |0,_,_=>Nat.zero_le _
 | m+1,ps,h=>by
  unfold v8
  cases e:B7 R ps with
  |none=>exact Nat.zero_le _
  | some s =>
   obtain⟨_,_,h2,h3,_⟩:=xX h e;have:=Bl m (Ou ps s) h2;simp only[List.length_cons];omega
end My
set_option exponentiation.threshold 5000
namespace My
open PySem L2
end My
set_option exponentiation.threshold 5000
namespace My
open PySem L2
noncomputable def xY:D->Bool
 |.str z=>decide (z=Str.ofString "on") ||decide (z=Str.ofString "back")
 |_=>false
theorem Bm(z:Str):M4 (.str z) [.str (Str.ofString "on"),.str (Str.ofString "back")]=xY (.str z):=by
 have e1:(Str.ofString "on" == z)=decide (z=Str.ofString "on"):=by rw[Bool.eq_iff_iff,beq_iff_eq,decide_eq_true_iff]; exact eq_comm
 have e2:(Str.ofString "back" == z)=decide (z=Str.ofString "back"):=by rw[Bool.eq_iff_iff,beq_iff_eq,decide_eq_true_iff]; exact eq_comm
 show(Str.ofString "on" == z ||(Str.ofString "back" == z ||false))=_;rw[e1,e2,Bool.or_false];rfl
structure Pt (n:Nat) (d:D):Prop where
 dep:xv d≤n
 wid:zo d≤99
 same:xC (20+n) d=true
theorem Pt.int(i:Int):Pt 0 (.int i):=⟨by simp[xv],by simp[zo],by simp[xC]⟩
theorem Pt.str(z:Str):Pt 0 (.str z):=⟨by simp[xv],by simp[zo],by simp[xC]⟩
end My
set_option exponentiation.threshold 5000
namespace My
open PySem L2
noncomputable def mE:D->Option Bool
 |.str z=>if z=dg true then some true else if z=dg false then some false else none
 |_=>none
noncomputable def kg:D->Option Nat
 |.int i=>if 0≤i then some i.toNat else none
 |_=>none
noncomputable def rH(d:D):Option Rat:=match d with
 |.tup [.int i,.int j]=>if pM (.tup [.int i,.int j])then some (Rat.divInt i j)else none
 |_=>none
noncomputable def qt:D->Option cm
 | .tup [a,b,c,d,e]=>match kg a,mE b,kg c,mE d,rH e with
  |some k,some kw,some l,some lw,some am=>some ⟨k,kw,l,lw,am⟩
  |_,_,_,_,_=>none
 |_=>none
theorem oj{d:D}{w:Bool}(h:mE d=some w):d=.str (dg w):=by
 unfold mE at h;split at h
 ·
  split at h
  · rename_i e;cases h;rw[e]
  ·
   split at h
   · rename_i e;cases h;rw[e]
   · cases h
 · cases h
theorem Bn(w:Bool):mE (.str (dg w))=some w:=by cases w<;>decide +kernel
theorem rJ(d:D):xY d=(mE d).isSome:=by
 unfold xY mE
 cases d with
 | str z =>
  have e1:dg true=Str.ofString "on":=rfl;have e2:dg false=Str.ofString "back":=rfl;rw[← e1,← e2];by_cases h1:z=dg true
  · simp[h1]
  ·
   by_cases h2:z=dg false
   · simp[h1,h2];split<;>rfl
   · simp[h1,h2]
 |_=>rfl
theorem om{d:D}{k:Nat}(h:kg d=some k):d=.int (k:Int):=by
 unfold kg at h;split at h
 ·
  split at h
  ·
   cases h
   congr 1
   omega
  · cases h
 · cases h
theorem Bo(k:Nat):kg (.int (k:Int))=some k:=by
 show(if(0:Int)≤(k:Int)then some ((k:Int)).toNat else none)=_
 rw[if_pos (by omega)];rfl
theorem xZ{d:D}{q:Rat}(h:rH d=some q):d=ND q:=by
 unfold rH at h;split at h
 ·
  rename_i i j;split at h
  ·
   rename_i e;cases h;show D.tup [.int i,.int j]=_;have e':(decide (1≤j) && decide ((Int.gcd i j:Int)=1))=true:=e;rw[Bool.and_eq_true,decide_eq_true_eq,decide_eq_true_eq]at e';obtain⟨h1,h2⟩:=e';have h3:Nat.gcd i.natAbs j.natAbs=1:=Int.ofNat_inj.mp h2;obtain⟨m,rfl⟩:=Int.eq_ofNat_of_zero_le (show 0≤j by omega);have hm:m≠0:=by omega
   have h3':i.natAbs.Coprime m:=by rw[Int.natAbs_natCast]at h3;exact h3
   have em:Rat.divInt i (m:Int)=Rat.mk' i m hm h3':=by rw[Rat.mk_eq_divInt]
   rw[em];rfl
  · cases h
 · cases h
theorem ya(q:Rat):pM (ND q)=true:=by unfold ND pM;have h1:=q.den_pos;have h2:=q.reduced;unfold Nat.Coprime at h2;rw[Bool.and_eq_true,decide_eq_true_eq,decide_eq_true_eq];refine⟨by omega,?_⟩;show((Nat.gcd q.num.natAbs ((q.den:Int)).natAbs:Nat):Int)=1;rw[Int.natAbs_natCast,h2];rfl
theorem DI(q:Rat):rH (ND q)=some q:=by
 show(if pM (.tup [.int q.num,.int (q.den:Int)])then some (Rat.divInt q.num (q.den:Int))else none)=_
 rw[show pM (.tup [.int q.num,.int (q.den:Int)])=true from ya q,if_pos rfl,Rat.num_divInt_den]
theorem Bp(d:D):pM d=(rH d).isSome:=by
 by_cases h:∃i j,d=.tup [.int i,.int j]
 ·
  obtain⟨i,j,rfl⟩:=h
  show _=(if pM (.tup [.int i,.int j])then some (Rat.divInt i j)else none).isSome
  cases e:pM (.tup [.int i,.int j])<;>rfl
 ·
  have hn:∀i j,d≠.tup [.int i,.int j]:=λi j e=>h ⟨i,j,e⟩;rw[mD hn];unfold rH;split
  · exact absurd rfl (hn _ _)
  · rfl
theorem o5(s:cm):qt (Oo s)=some s:=by simp only[Oo,qt,Bo,Bn,DI]
theorem rK{d:D}{s:cm}(h:qt d=some s):d=Oo s:=by
 unfold qt at h;split at h
 ·
  split at h
  · rename_i h1 h2 h3 h4 h5;cases h;rw[om h1,oj h2,om h3,oj h4,xZ h5];rfl
  · cases h
 · cases h
noncomputable def nM(n:Nat)(d:D):Bool:=match qt d with
 |some s=>decide (s.k<n) && decide (s.l<n)
 |none=>false
noncomputable def jN(d:D)(n:Int):Bool:=match d with
 |.int i=>decide (0≤i/\i<n)
 |_=>false
theorem oo(d:D)(n:Nat):jN d (n:Int)=match kg d with|some k=>decide (k<n)|none=>false:=by
 unfold jN kg
 cases d with
 | int i =>
  by_cases h:0≤i
  · simp only[h,if_true,true_and];rw[decide_eq_decide];omega
  · simp only[h,if_false,false_and,decide_false]
 |_=>rfl
theorem rL(n:Nat)(a b c d e:D):nM n (.tup [a,b,c,d,e])=(jN a n && (jN c n && (xY b && (xY d && pM e)))):=by
 rw[oo,oo,rJ,rJ,Bp];unfold nM
 have e0:qt (.tup [a,b,c,d,e])=match kg a,mE b,kg c,mE d,rH e with
  |some k,some kw,some l,some lw,some am=>some ⟨k,kw,l,lw,am⟩
  |_,_,_,_,_=>none:=rfl
 rw[e0];cases kg a<;>cases mE b<;>cases kg c<;>cases mE d<;>cases rH e<;>simp
theorem uw{n:Nat}{xs:List D}(h:xs.length≠5):nM n (.tup xs)=false:=by
 have:qt (.tup xs)=none:=by
  unfold qt;split
  · rename_i eq;cases eq;exact absurd rfl h
  · rfl
 unfold nM;rw[this]
theorem yb{n:Nat}{d:D}(h:∀xs,d≠.tup xs):nM n d=false:=by
 have:qt d=none:=by
  unfold qt;split
  · exact absurd rfl (h _)
  · rfl
 unfold nM;rw[this]
theorem five{xs:List D}(h:xs.length=5):∃a b c d e,xs=[a,b,c,d,e]:=by
 match xs,h with
 |[a,b,c,d,e],_=>exact⟨a,b,c,d,e,rfl⟩
noncomputable def OC(R:aR)(ps:List Rat)(d:D):Bool:=match qt d with
 |some s=>decide (s.k<ps.length) && (decide (s.l<ps.length) && Nz R ps s)
 |none=>false
theorem Bq{R:aR}{ps:List Rat}{s:cm}(hk:s.k<ps.length)(hl:s.l<ps.length):OC R ps (Oo s)=Nz R ps s:=by unfold OC;rw[o5];simp[hk,hl]
theorem Es{R:aR}{ps:List Rat}{d:D}(h:OC R ps d=true):∃s,d=Oo s/\s.k<ps.length/\s.l<ps.length/\Nz R ps s=true:=by
 unfold OC at h;split at h
 · rename_i s e;rw[Bool.and_eq_true,Bool.and_eq_true,decide_eq_true_eq,decide_eq_true_eq]at h;exact⟨s,rK e,h.1,h.2.1,h.2.2⟩
 · cases h
end My
set_option exponentiation.threshold 5000
namespace My
open PySem L2
theorem GO{R:aR}{ps:List Rat}{s:cm}(h:gu R ps)(e:B7 R ps=some s){D:Nat}(d0:0<D)(da:∀a∈R.asks,a.size.den∣D)(dp:∀p∈ps,p.den∣D):s.am.den∣D:=by
 unfold B7 at e
 cases e1:Oz (Oy R) (OB R ps)with
 |none=>rw[e1]at e;cases e
 | some p =>
  obtain⟨k,l⟩:=p;rw[e1]at e;obtain⟨hk,hl,hkl,hc⟩:=oh (Bj R ps) e1;obtain⟨hk1,hk2⟩:=lB hk;obtain⟨hl1,hl2⟩:=lB hl;have ee:Ox R ps k l (bF R.n (bh R k) (bh R l))=s:=Option.some.inj e;subst ee;show(Os R ps k _ l _).den∣D;rcases(h.ms hk1 hl1 (bF R.n (bh R k) (bh R l)).1 (bF R.n (bh R k) (bh R l)).2).2.2.2 with z|z
  · rw[z];exact xV h hk1 _ d0 da dp
  · rw[z];exact xV h hl1 _ d0 da dp
mutual
theorem Et:∀{n:Nat}{d:D},NF n d=true->N7 d=true
 |_,.non,_=>rfl
 |_,.bl _,_=>rfl
 |_,.int _,_=>rfl
 |0,.str x,h=>by simpa only[NF,N7]using h
 |_+1,.str x,h=>by simpa only[NF,N7]using h
 |0,.tup _,h=>by simp[NF]at h
 |0,.lst _,h=>by simp[NF]at h
 | n+1,.tup xs,h=>by
  simp only[NF]at h
  simp only[N7]
  exact v9 h
 | n+1,.lst xs,h=>by
  simp only[NF]at h
  simp only[N7]
  exact v9 h
 |0,.dct _,h=>by simp[NF]at h
 |0,.exc _ _ _,h=>by simp[NF]at h
 |0,.fn _ _,h=>by simp[NF]at h
 |_+1,.dct _,h=>by simp[NF]at h
 |_+1,.exc _ _ _,h=>by simp[NF]at h
 |_+1,.fn _ _,h=>by simp[NF]at h
theorem v9:∀{n:Nat}{ds:List D},qW n ds=true->zm ds=true
 |_,[],_=>rfl
 | n,d::ds,h=>by
  simp only[qW,Bool.and_eq_true]at h
  simp only[zm,Et h.1,v9 h.2,Bool.and_self]
end
structure PG (y:D):Prop where
 ok:NF 4 y=true
 sh:bE y=true
 sg:n5 y≤200000
 ln:∀rs,y=.lst rs->rs.length≤1000
structure GI (x:D):Prop where
 ok:NF 6 x=true
 sh:bE x=true
 sg:n5 x≤700000
 ln:∀ys,x=.tup ys->∀y∈ys,∀rs,y=.lst rs->rs.length≤1000
structure OD (d:D):Prop where
 rp:B6 d
 it:∀xs,d=.lst xs->xs.length≤19/\∀x∈xs,GI x
theorem uy{n:Nat}:∀{ds:List D},(∀d∈ds,NF n d=true)->qW n ds=true
 |[],_=>rfl
 |d::ds,h=>by simp only[qW,h d List.mem_cons_self,uy λx hx=>h x (List.mem_cons_of_mem _ hx),Bool.and_self]
theorem nh:∀{ds:List D},(∀d∈ds,bE d=true)->cV ds=true
 |[],_=>rfl
 |d::ds,h=>by simp only[cV,h d List.mem_cons_self,nh λx hx=>h x (List.mem_cons_of_mem _ hx),Bool.and_self]
theorem qu{n:Nat}:∀{ds:List D},(∀d∈ds,n5 d≤n)->oX ds≤(n+2)*ds.length
 |[],_=>Nat.le_refl _
 | d::ds,h=>by have h1:=h d List.mem_cons_self;have h2:=qu λx hx=>h x (List.mem_cons_of_mem _ hx);simp only[oX,List.length_cons,Nat.mul_add,Nat.mul_one];omega
theorem PG.rooms{rs:List D}(h:∀r∈rs,NF 3 r=true/\bE r=true/\n5 r≤1300)(hl:rs.length≤150):PG (.lst rs)/\PG (.tup rs):=by have e1:qW 3 rs=true:=uy λd hd=>(h d hd).1;have e2:cV rs=true:=nh λd hd=>(h d hd).2.1;have e3:oX rs≤1302*rs.length:=qu λd hd=>(h d hd).2.2;refine⟨⟨by simpa only[NF]using e1,by simpa only[bE]using e2,by simp only[n5];omega,λys e=>?_⟩,⟨by simpa only[NF]using e1,by simpa only[bE]using e2,by simp only[n5];omega,λys e=>by cases e⟩⟩;cases e;omega
theorem Eu{xs:List D}{i:Int}(h0:0≤i)(h1:i<(xs.length:Int)):∃v,MT xs i=some v/\v∈xs:=by
 have hi:i.toNat<xs.length:=by omega
 exact⟨xs[i.toNat],xG h0 (List.getElem?_eq_getElem hi),List.getElem_mem hi⟩
theorem rM(xs:List D)(k:Nat):vf xs none (some (k:Int))=xs.take k:=by
 have:¬((k:Int)<0):=by omega
 unfold vf;simp[HT.sIx,this]
theorem lC(xs:List D)(k:Nat):vf xs (some (k:Int)) none=xs.drop k:=by
 have:¬((k:Int)<0):=by omega
 unfold vf;simp[HT.sIx,this];by_cases h:k≤xs.length
 · rw[Nat.min_eq_left h];exact List.take_of_length_le (by rw[List.length_drop];exact Nat.le_refl _)
 · rw[Nat.min_eq_right (by omega),List.drop_eq_nil_of_le (Nat.le_refl _),List.drop_eq_nil_of_le (by omega),List.take_nil]
theorem PG.of{y:D}(h1:NF 4 y=true)(h2:bE y=true)(h3:n5 y≤200000)(h4:∀rs,y=.lst rs->rs.length≤1000):PG y:=⟨h1,h2,h3,h4⟩
theorem PG.int{i:Int}(h:i.natAbs<2^60):PG (.int i):=⟨rfl,by simp only[bE];exact decide_eq_true (Nat.lt_of_lt_of_le h (Nat.pow_le_pow_right (by decide) (by decide))),by simp only[n5];decide,λrs e=>by cases e⟩
theorem OD.of{d:D}(h:PG d)(hn:∀xs,d≠.lst xs):OD d:=⟨⟨Et h.ok,h.sh,Nat.le_trans (mz 4 _ h.ok).2 (by decide),Nat.le_trans h.sg (by decide)⟩,λxs e=>absurd e (hn xs)⟩
theorem gf{n:Nat}(h:n≤1000):n≤sizeLine:=Nat.le_trans h (by decide)
end My
set_option exponentiation.threshold 5000
namespace My
open PySem L2
structure OE (R:aR) (qs:List Rat) (s:cm):Prop where
 k:s.k<qs.length
 l:s.l<qs.length
 kl:s.k≠s.l
 nt:gG R.n (bh R s.k) s.kw (bh R s.l) s.lw=true
 pos:0<s.am
 kn:s.am≤Oq R qs s.k s.kw
 ln:s.am≤Oq R qs s.l s.lw
theorem OE.b{R:aR}{qs:List Rat}{s:cm}(h:OE R qs s):Nz R qs s=true:=by
 have hm:¬Os R qs s.k s.kw s.l s.lw<s.am:=by
  unfold Os;split
  · exact Rat.not_lt.mpr h.ln
  · exact Rat.not_lt.mpr h.kn
 unfold Nz;rw[decide_eq_false h.kl,h.nt,decide_eq_true h.pos,decide_eq_false hm];rfl
theorem OE.of{R:aR}{qs:List Rat}{s:cm}(hS:gu R qs)(hk:s.k<qs.length)(hl:s.l<qs.length)(h:Nz R qs s=true):OE R qs s:=by unfold Nz at h;simp only[Bool.and_eq_true,Bool.not_eq_true',decide_eq_false_iff_not,decide_eq_true_eq]at h;obtain⟨e1,e2,e3,e4⟩:=h;obtain⟨_,m2,m3,_⟩:=hS.ms hk hl s.kw s.lw;have le:=Rat.not_lt.mp e4;exact⟨hk,hl,e1,e2,e3,Rat.le_trans le m2,Rat.le_trans le m3⟩
def Vs(R:aR):List Rat->List cm->Prop
 |_,[]=>True
 |qs,s::ss=>OE R qs s/\Vs R (Ou qs s) ss
noncomputable def JO(qs:List Rat)(ss:List cm):List Rat:=ss.foldl Ou qs
end My
set_option exponentiation.threshold 5000
namespace My
open PySem L2
structure WK (n s:Nat) (d:D):Prop where
 ok:N7 d=true
 sh:bE d=true
 dp:(Nq d).depth≤n
 sg:n5 d≤s
theorem WK.rep{n s:Nat}{d:D}(h:WK n s d)(hn:n≤40)(hs:s≤16777216):B6 d:=⟨h.ok,h.sh,Nat.le_trans h.dp hn,Nat.le_trans h.sg hs⟩
theorem WK.mono{n s m t:Nat}{d:D}(h:WK n s d)(hn:n≤m)(hs:s≤t):WK m t d:=⟨h.ok,h.sh,Nat.le_trans h.dp hn,Nat.le_trans h.sg hs⟩
theorem WK.all{n s:Nat}:∀{ds:List D},(∀d∈ds,WK n s d)->zm ds=true/\cV ds=true/\PyData.depthAll (de ds)≤n/\oX ds≤(s+2)*ds.length
 |[],_=>⟨rfl,rfl,Nat.zero_le _,Nat.le_refl _⟩
 | d::ds,h=>by have h0:=h d List.mem_cons_self;obtain⟨h1,h2,h3,h4⟩:=WK.all λx hx=>h x (List.mem_cons_of_mem _ hx);have dp:=h0.dp;have sg:=h0.sg;refine⟨by simp only[zm,h0.ok,h1,Bool.and_self],by simp only[cV,h0.sh,h2,Bool.and_self],by simp only[de,PyData.depthAll];omega,?_⟩;simp only[oX,List.length_cons,Nat.mul_add,Nat.mul_one];omega
theorem WK.two{n s m t:Nat}{ds:List D}(h:∀d∈ds,WK n s d)(hn:n+1≤m)(hs:(s+2)*ds.length+3≤t):WK m t (.tup ds)/\WK m t (.lst ds):=by obtain⟨h1,h2,h3,h4⟩:=WK.all h;refine⟨⟨by simpa only[N7]using h1,by simpa only[bE]using h2,Nat.le_trans (Nat.succ_le_succ h3) hn,by simp only[n5];omega⟩,⟨by simpa only[N7]using h1,by simpa only[bE]using h2,Nat.le_trans (Nat.succ_le_succ h3) hn,by simp only[n5];omega⟩⟩
theorem xR{q:Rat}(h:RB 1900 q):bE (ND q)=true:=by
 have h2:((q.den:Int)).natAbs<2^1900:=by rw[Int.natAbs_natCast];exact h.2
 simp only[ND,bE,cV,decide_eq_true h.1,decide_eq_true h2,Bool.and_self]
theorem WK.fr{q:Rat}(h:RB 1900 q):WK 1 1300 (ND q):=⟨rfl,xR h,Nat.le_refl 1,by show 1211≤1300;decide⟩
theorem WK.int{i:Int}(h:i.natAbs<2^60):WK 0 602 (.int i):=⟨rfl,by simp only[bE];exact decide_eq_true (Nat.lt_of_lt_of_le h (Nat.pow_le_pow_right (by decide) (by decide))),Nat.le_refl 0,Nat.le_refl _⟩
end My
set_option exponentiation.threshold 5000
namespace My
open PySem L2
structure GW (F b:Nat) (x:D):Prop where
 five:∀k w l o p q,x=.tup [k,w,l,o,.tup [.int p,.int q]]->p.natAbs<2^b/\q.natAbs<2^b/\∀n:Nat,0<n->q=(n:Int)->n∣F
 wk:WK 4 10000 x
 cp:∀ys,x=.tup ys->ys.length≤7/\∀y∈ys,WK 3 1300 y
theorem Br{q:Rat}{i j:Int}(e:ND q=.tup [.int i,.int j]):i=q.num/\j=(q.den:Int):=by unfold ND at e;injection e with e;injection e with e1 e;injection e with e2 _;injection e1 with e1;injection e2 with e2;exact⟨e1.symm,e2.symm⟩
theorem GW.am{F b:Nat}{x:D}(h:GW F b x){s:cm}(e:qt x=some s):RB b s.am/\s.am.den∣F:=by have ex:=rK e;obtain⟨h1,h2,h3⟩:=h.five (.int (s.k:Int)) (.str (dg s.kw)) (.int (s.l:Int)) (.str (dg s.lw)) s.am.num (s.am.den:Int) (by rw[ex];rfl);rw[Int.natAbs_natCast]at h2;exact⟨⟨h1,h2⟩,h3 _ (den_pos _) rfl⟩
theorem GW.dn{F b:Nat}{x:D}(h:GW F b x)(hb:b≤9000):∀k w l o i j,x=.tup [k,w,l,o,.tup [.int i,.int j]]->j.natAbs<2^9000:=λk w l o i j e=>Nat.lt_of_lt_of_le (h.five k w l o i j e).2.1 (Nat.pow_le_pow_right (by decide) hb)
theorem GW.up{F G b c:Nat}{x:D}(h:GW F b x)(hd:F∣G)(hb:b≤c):GW G c x:=⟨λk w l o p q e=>by
 obtain⟨h1,h2,h3⟩:=h.five k w l o p q e
 exact⟨Nat.lt_of_lt_of_le h1 (Nat.pow_le_pow_right (by decide) hb),Nat.lt_of_lt_of_le h2 (Nat.pow_le_pow_right (by decide) hb),λn n0 e=>Nat.dvd_trans (h3 n n0 e) hd⟩,h.wk,h.cp⟩
theorem GW.tup{F b:Nat}{ys:List D}(hl:ys.length≤7)(hy:∀y∈ys,WK 3 1300 y)(hf:∀k w l o p q,ys=[k,w,l,o,.tup [.int p,.int q]]->p.natAbs<2^b/\q.natAbs<2^b/\∀n:Nat,0<n->q=(n:Int)->n∣F):GW F b (.tup ys):=by refine⟨λk w l o p q e=>hf k w l o p q (by injection e),(WK.two (m:=4) (t:=10000) hy (by decide) (by omega)).1,λzs e=>?_⟩;cases e;exact⟨hl,hy⟩
theorem GW.no{F b:Nat}{x:D}(h:WK 4 10000 x)(hn:∀ys,x≠.tup ys):GW F b x:=⟨λk w l o p q e=>absurd e (hn _),h,λys e=>absurd e (hn ys)⟩
structure Tg (F b:Nat) (d:D):Prop where
 it:∀ss,d=.lst ss->ss.length≤99/\∀x∈ss,GW F b x
 rp:B6 d
theorem Tg.lst{F b:Nat}{ss:List D}(h:∀x∈ss,GW F b x)(hl:ss.length≤99):Tg F b (.lst ss):=⟨λys e=>by
 cases e
 exact⟨hl,h⟩,(WK.two (m:=5) (t:=1000000) (λd hd=>(h d hd).wk) (by decide) (by omega)).2.rep (by decide) (by decide)⟩
theorem Tg.no{F b:Nat}{d:D}(h:B6 d)(hn:∀ss,d≠.lst ss):Tg F b d:=⟨λss e=>absurd e (hn ss),h⟩
theorem Ew(w:Bool):WK 0 602 (.str (dg w)):=by cases w<;>exact⟨by decide +kernel,rfl,Nat.le_refl _,by decide +kernel⟩
theorem GW.sl{F b:Nat}{s:cm}(hk:s.k<100)(hl:s.l<100)(hb:RB b s.am)(hb2:b≤1900)(hd:s.am.den∣F):GW F b (Oo s):=by
 refine GW.tup (by simp) (λy hy=>?_) λk w l o p q e=>?_
 ·
  simp only[List.mem_cons,List.not_mem_nil,or_false]at hy;rcases hy with rfl|rfl|rfl|rfl|rfl
  · exact(WK.int (by rw[Int.natAbs_natCast];exact Nat.lt_trans hk (by decide))).mono (by decide) (by decide)
  · exact(Ew _).mono (by decide) (by decide)
  · exact(WK.int (by rw[Int.natAbs_natCast];exact Nat.lt_trans hl (by decide))).mono (by decide) (by decide)
  · exact(Ew _).mono (by decide) (by decide)
  · exact(WK.fr (hb.mono hb2)).mono (by decide) (by decide)
 ·
  injection e with _ e;injection e with _ e;injection e with _ e;injection e with _ e;injection e with e _;obtain⟨e1,e2⟩:=Br e;subst e1 e2;refine⟨hb.1,by rw[Int.natAbs_natCast];exact hb.2,λn n0 e=>?_⟩;have:s.am.den=n:=by omega
  rw[← this];exact hd
end My
set_option exponentiation.threshold 1000
namespace Hd
open PySem PySem.W PyProof.Rows
noncomputable abbrev pr:Program:=PySem.Challenge.pw_ringloads_k34_no_slides
noncomputable def top(i:Nat):Stmt:=pr.main.body.getD i (.Pass ⟨0,0,0,0⟩)
noncomputable def inCls(st:Stmt)(j:Nat):Stmt:=match st with
 |.ClassDef _ _ _ b ..=>b.getD j (.Pass ⟨0,0,0,0⟩)
 |_=>.Pass ⟨0,0,0,0⟩
noncomputable def Bs(s:Stmt):Str:=match s with
 |.FunctionDef n ..=>n
 |_=>""
noncomputable def Ji(s:Stmt):Arguments:=match s with
 |.FunctionDef _ a _ _ _ _ _ _ _ _=>a
 |_=>{posonlyargs:=[],args:=[],vararg:=none,kwonlyargs:=[],kw_defaults:=[],kwarg:=none,defaults:=[] }
noncomputable def KA(s:Stmt):List Stmt:=match s with
 |.FunctionDef _ _ b _ _ _ _ _ _ _=>b
 |_=>[]
noncomputable def Jj(s:Stmt):Scope:=match s with
 |.FunctionDef _ _ _ _ _ _ sc _ _ _=>sc
 |_=>{kind:=.function,names:=[],isGenerator:=false,isCoroutine:=false}
noncomputable def K8(s:Stmt):Pos:=match s with
 |.FunctionDef _ _ _ _ _ _ _ _ _ p=>p
 |_=>⟨0,0,0,0⟩
noncomputable def yc (st:Stmt) (q:Str) (g:Addr) (md cd:Value):FuncData:={ name:=Bs st,qualname:=q,params:=Ji st,body:=.stmts (KA st),scope:=Jj st,globals:=g,closure:=[],defaults:=.none,kwdefaults:=.none,doc:=.none,pyModule:=md,annotations:=none,code:=cd,closureTuple:=.none,builtins:=0 }
noncomputable def kh(P:Params)(x:Str):Int:=PySem.PyData.keyHash P x
noncomputable def Jk(vs:List Value):Obj:=⟨.type "tuple",none,.seq vs.toArray 0,#[]⟩
noncomputable def sN(vs:List Value):Obj:=⟨.none,none,.fields vs.toArray,#[]⟩
noncomputable def K9:Nat->List Str->List Value
 |_,[]=>[]
 |t,x::r=>.str x t::K9 (t+1) r
noncomputable def Jl(st:Stmt)(a t:Nat)(v1 v2:Value)(tm u:Nat):Obj:=⟨.type "code",none,.fields #[.str (Bs st) t,.str (Bs st) (t+1),.str "/claim/cut.py" (t+2),.int (K8 st).line 0,.int (Ji st).args.length 0,.int 0 0,.int 0 0,.int 3 0,.ref a,.bool true,.int 181 0,.ref (a+1),.none,v1,v2,.ref tm,.int u 0,.int (K8 st).line 0,.str "/claim/cut.py" (u+1)],#[]⟩
noncomputable def OF(st:Stmt)(md:Value)(cd:Nat):Obj:=⟨.type "function",none,.func (yc st (Bs st) 3 md (.ref cd)),#[]⟩
noncomputable def OG(st:Stmt):Obj:=⟨.none,none,.func (yc st (Bs st) 0 .none .none),#[]⟩
noncomputable def bH(st:Stmt)(a t:Nat)(vs:List Str)(md:Value):List Obj:=[Jk [],sN [],Jk (K9 (t+3) vs),Jk [],OG st,Jl st a t (.ref (a+2)) (.ref (a+3)) (a+4) (t+3+vs.length),OF st md (a+5)]
noncomputable def y1(st:Stmt)(a t:Nat)(md:Value):List Obj:=[Jk [],sN [],OG st,Jl st a t .none .none (a+2) (t+3),OF st md (a+3)]
noncomputable def lD (P:Params) (nm:Value) (es:List DictEntry) (n:Nat):Obj:=⟨.type "dict",none,.dict (([⟨kh P "__name__",.str "__name__" 165,nm⟩,⟨kh P "__doc__",.str "__doc__" 166,.none⟩,⟨kh P "__package__",.str "__package__" 167,.none⟩,⟨kh P "__loader__",.str "__loader__" 168,.builtin "__main__.__loader__#opaque"⟩,⟨kh P "__spec__",.str "__spec__" 169,.none⟩,⟨kh P "__annotations__",.str "__annotations__" 170,.ref 6⟩,⟨kh P "__builtins__",.str "__builtins__" 171,.ref 4⟩,⟨kh P "__file__",.str "__file__" 173,.str "/claim/cut.py" 172⟩,⟨kh P "__cached__",.str "__cached__" 174,.none⟩]:List DictEntry)++es).toArray n,#[]⟩
noncomputable def LQ:Obj:=⟨.type "code",none,.fields #[.str "<module>" 182,.str "<module>" 183,.str "/claim/cut.py" 184,.int 1 0,.int 0 0,.int 0 0,.int 0 0,.int 0 0,.ref 11,.bool false,.int 181 0,.ref 12,.none,.none,.none,.none,.int 185 0,.int 1 0,.str "/claim/cut.py" 186],#[]⟩
noncomputable def LR:Obj:=⟨.type "frame",none,.plain,#[some (.ref 13),some (.ref 3),some (.ref 3),none,some (.str "__main__" 164),none,some (.ref 0)]⟩
noncomputable def GP(P:Params):List Obj:=[boot_o_0 P,boot_o_1 P,boot_o_2 P,boot_o_3 P,boot_o_4 P,boot_o_5 P,boot_o_6 P,boot_o_7 P,boot_o_8 P,boot_o_9 P,boot_o_10 P,Jk [],sN [],LQ,LR]
noncomputable def iF:Life:=⟨[],[],[],0,[],[],false,#[],[],0,false,false,false,0,[2000,10,10],false,0,true,[],[],0,false⟩
noncomputable def KB(l:List (Nat×Obj))(b:Nat):Option Obj:=@List.rec (Nat×Obj) (λ_=>Option Obj) none (λx _ ih=>bif Nat.beq x.1 b then some x.2 else ih) l
noncomputable def Jm(P:Params)(ob:Params->Nat->Obj)(b:Nat):Obj:=bif b.blt 15 then(GP P).getD b default else ob P b
noncomputable def LS(l:List Nat)(b:Nat):Bool:=@List.rec Nat (λ_=>Bool) false (λx _ ih=>@Bool.rec (λ_=>Bool) ih true (Nat.beq x b)) l
noncomputable def wb(ks:List Nat)(P:Params)(ov:List (Nat×Obj))(ob:Params->Nat->Obj)(b j:Nat):Obj:=@Bool.rec (λ_=>Obj) (Jm P ob b) ((KB ov b).getD default) (LS ks b)
noncomputable def L0(n:Nat)(f:Nat->Obj)(a b j:Nat):BT:=.nil
noncomputable def L1(n:Nat)(f:Nat->Obj)(a b j:Nat):BT:=@Bool.rec (λ_=>BT) .nil (.node (f b) (L0 n f (2*a) (a+b) j) (L0 n f (2*a) (2*a+b) j)) (b.blt n)
noncomputable def L2(n:Nat)(f:Nat->Obj)(a b j:Nat):BT:=@Bool.rec (λ_=>BT) .nil (.node (f b) (L1 n f (2*a) (a+b) j) (L1 n f (2*a) (2*a+b) j)) (b.blt n)
noncomputable def L3(n:Nat)(f:Nat->Obj)(a b j:Nat):BT:=@Bool.rec (λ_=>BT) .nil (.node (f b) (L2 n f (2*a) (a+b) j) (L2 n f (2*a) (2*a+b) j)) (b.blt n)
noncomputable def L4(n:Nat)(f:Nat->Obj)(a b j:Nat):BT:=@Bool.rec (λ_=>BT) .nil (.node (f b) (L3 n f (2*a) (a+b) j) (L3 n f (2*a) (2*a+b) j)) (b.blt n)
noncomputable def L5(n:Nat)(f:Nat->Obj)(a b j:Nat):BT:=@Bool.rec (λ_=>BT) .nil (.node (f b) (L4 n f (2*a) (a+b) j) (L4 n f (2*a) (2*a+b) j)) (b.blt n)
noncomputable def L6(n:Nat)(f:Nat->Obj)(a b j:Nat):BT:=@Bool.rec (λ_=>BT) .nil (.node (f b) (L5 n f (2*a) (a+b) j) (L5 n f (2*a) (2*a+b) j)) (b.blt n)
noncomputable def L7(n:Nat)(f:Nat->Obj)(a b j:Nat):BT:=@Bool.rec (λ_=>BT) .nil (.node (f b) (L6 n f (2*a) (a+b) j) (L6 n f (2*a) (2*a+b) j)) (b.blt n)
noncomputable def L8(n:Nat)(f:Nat->Obj)(a b j:Nat):BT:=@Bool.rec (λ_=>BT) .nil (.node (f b) (L7 n f (2*a) (a+b) j) (L7 n f (2*a) (2*a+b) j)) (b.blt n)
noncomputable def L9(n:Nat)(f:Nat->Obj)(a b j:Nat):BT:=@Bool.rec (λ_=>BT) .nil (.node (f b) (L8 n f (2*a) (a+b) j) (L8 n f (2*a) (2*a+b) j)) (b.blt n)
noncomputable def OH(n:Nat)(f:Nat->Obj)(a b j:Nat):BT:=@Bool.rec (λ_=>BT) .nil (.node (f b) (L9 n f (2*a) (a+b) j) (L9 n f (2*a) (2*a+b) j)) (b.blt n)
noncomputable def OI(n:Nat)(f:Nat->Obj)(a b j:Nat):BT:=@Bool.rec (λ_=>BT) .nil (.node (f b) (OH n f (2*a) (a+b) j) (OH n f (2*a) (2*a+b) j)) (b.blt n)
noncomputable def OJ(n:Nat)(f:Nat->Obj)(a b j:Nat):BT:=@Bool.rec (λ_=>BT) .nil (.node (f b) (OI n f (2*a) (a+b) j) (OI n f (2*a) (2*a+b) j)) (b.blt n)
theorem ft{p:Program}{w:World}{m:Nat}{ann:Option Value}{b n:Nat}{s:SharedT}{t:Thread}{r:Option (Flow×SharedT×Code×Pos)}(h:Fast.tw10110043849684766642 Fast.tw14364793385576792824 p w m ann b n s t=r):segRunT treeTable p w m ann b n s t=r:=by rw[Fast.te10110043849684766642,Fast.te14364793385576792824];exact h
theorem Jn{p:Program}{w:World}{m:Nat}{ann:Option Value}{n:Nat}{s:Shared}{t:Thread}{r:Option Shared}(h:Fast.tw14082659384304107361 Fast.tw14364793385576792824 p w m ann n s t=r):topRun treeTable p w m ann n s t=r:=by rw[Fast.te14082659384304107361,Fast.te14364793385576792824];exact h
theorem Jo:denote treeTable=Fast.tw11892475500146522536 Fast.tw14364793385576792824:=by rw[← Fast.te11892475500146522536,← Fast.te14364793385576792824]
theorem KC{p:Program}{w:World}{m:Nat}{ann:Option Value}{n:Nat}{s:Shared}{t:Thread}{r:Option (Shared×Thread)}(h:Fast.tw15667345088766844465 Fast.tw14364793385576792824 p w m ann n s t=r):topGo treeTable p w m ann n s t=r:=by rw[Fast.te15667345088766844465,Fast.te14364793385576792824];exact h
theorem GQ{b b':List Stmt}(e:b=b'){tb:String->Option Builtin}{p:Program}{w:World}{m:Nat}{ann:Option Value}{n:Nat}{s:Shared}{env:Env}{c:Code}{ps:Pos}{B:List Frame}{r:Option Shared}(h:topRun tb p w m ann n s (restOf b' env c ps B)=r):topRun tb p w m ann n s (restOf b env c ps B)=r:=by rw[e];exact h
noncomputable def f1(P:Params):List Obj:=bH (top 1) 15 189 ["one","other","rest"] (.str "ringloads.divisors" 187)
noncomputable def f3(P:Params):List Obj:=[(Obj.mk (.type "tuple") none (.seq #[(.type "ValueError")] 0) #[]),
 (Obj.mk (.type "builtin_function_or_method") none (.fields #[(.builtin "type.__prepare__"),(.type "type")]) #[]),
 (Obj.mk (.type "dict") none (.dict #[(DictEntry.mk (kh P "__module__") (.str "__module__" 207) (.str "ringloads.errors" 198)),(DictEntry.mk (kh P "__qualname__") (.str "__qualname__" 209) (.str "LoadError" 208)),(DictEntry.mk (kh P "__firstlineno__") (.str "__firstlineno__" 211) (.int 9 210)),(DictEntry.mk (kh P "__init__") (.str "__init__" 219) (.ref 35)),(DictEntry.mk (kh P "__static_attributes__") (.str "__static_attributes__" 220) (.ref 36))] 5) #[]),
 (Obj.mk (.type "tuple") none (.seq #[] 0) #[]),
 (Obj.mk .none none (.fields #[(.int 11 0),(.int 4 0),(.ref 34)]) #[]),
 (Obj.mk (.type "code") none (.fields #[(.str "LoadError" 202),(.str "LoadError" 203),(.str "/claim/cut.py" 204),(.int 9 0),(.int 0 0),(.int 0 0),(.int 0 0),(.int 0 0),(.ref 25),(.bool false),(.int 181 0),(.ref 26),.none,.none,.none,.none,(.int 205 0),(.int 9 0),(.str "/claim/cut.py" 206)]) #[]),
 (Obj.mk (.type "frame") none .plain #[(some (.ref 27)),(some (.ref 3)),(some (.ref 24)),none,(some (.str "ringloads.errors" 198)),none,(some (.ref 0))]),
 (Obj.mk (.type "tuple") none (.seq #[] 0) #[]),
 (Obj.mk .none none (.fields #[]) #[]),
 (Obj.mk (.type "tuple") none (.seq #[(.str "self" 215),(.str "text" 216)] 0) #[]),
 (Obj.mk (.type "tuple") none (.seq #[] 0) #[]),
 (Obj.mk .none none (.func (yc (inCls (top 3) 0) "LoadError.__init__" 0 .none .none)) #[]),
 (Obj.mk (.type "code") none (.fields #[(.str "__init__" 212),(.str "LoadError.__init__" 213),(.str "/claim/cut.py" 214),(.int 11 0),(.int 2 0),(.int 0 0),(.int 0 0),(.int 3 0),(.ref 29),(.bool true),(.int 181 0),(.ref 30),.none,(.ref 31),(.ref 32),(.ref 33),(.int 217 0),(.int 11 0),(.str "/claim/cut.py" 218)]) #[]),
 (Obj.mk (.type "function") none (.func (yc (inCls (top 3) 0) "LoadError.__init__" 3 (.str "ringloads.errors" 198) (.ref 34))) #[]),
 (Obj.mk (.type "tuple") none (.seq #[] 0) #[]),
 (Obj.mk (.type "dict") none (.dict #[(DictEntry.mk (kh P "__module__") (.str "__module__" 207) (.str "ringloads.errors" 198)),(DictEntry.mk (kh P "__firstlineno__") (.str "__firstlineno__" 211) (.int 9 210)),(DictEntry.mk (kh P "__init__") (.str "__init__" 219) (.ref 35)),(DictEntry.mk (kh P "__static_attributes__") (.str "__static_attributes__" 220) (.ref 36)),(DictEntry.mk (kh P "__weakref__") (.str "__weakref__" 222) (.ref 39)),(DictEntry.mk (kh P "__doc__") (.str "__doc__" 223) .none)] 3) #[]),
 (Obj.mk (.type "type") none (.cls (PySem.ClassData.mk "LoadError" [(.type "ValueError")] [(.ref 38),(.type "ValueError"),(.type "Exception"),(.type "BaseException"),(.type "object")] 37 "LoadError" true [] [(.ref 51),(.ref 70),(.ref 89),(.ref 108),(.ref 120),(.ref 132),(.ref 151),(.ref 170),(.ref 182)] false none false)) #[(some (.ref 22)),none,(some (.str "LoadError" 200)),(some (.str "LoadError" 208)),(some (.builtin "ValueError.__new__")),(some (.bool true))]),
 (Obj.mk (.type "getset_descriptor") none (.fields #[(.str "__weakref__" 221),(.ref 38),(.builtin "ExceptionGroup.__weakref__"),.none]) #[]),
 (Obj.mk (.type "super") none (.fields #[(.ref 38),(.ref 38),(.ref 38)]) #[]),
 (Obj.mk (.type "builtin_function_or_method") none (.fields #[(.builtin "object.__init_subclass__"),(.ref 38)]) #[])]
noncomputable def f4(P:Params):List Obj:=[(Obj.mk (.type "tuple") none (.seq #[(.ref 38)] 0) #[]),
 (Obj.mk (.type "builtin_function_or_method") none (.fields #[(.builtin "type.__prepare__"),(.type "type")]) #[]),
 (Obj.mk (.type "dict") none (.dict #[(DictEntry.mk (kh P "__module__") (.str "__module__" 233) (.str "ringloads.errors" 198)),(DictEntry.mk (kh P "__qualname__") (.str "__qualname__" 235) (.str "NoNumber" 234)),(DictEntry.mk (kh P "__firstlineno__") (.str "__firstlineno__" 237) (.int 13 236)),(DictEntry.mk (kh P "__static_attributes__") (.str "__static_attributes__" 238) (.ref 49))] 4) #[]),
 (Obj.mk (.type "tuple") none (.seq #[] 0) #[]),
 (Obj.mk .none none (.fields #[]) #[]),
 (Obj.mk (.type "code") none (.fields #[(.str "NoNumber" 228),(.str "NoNumber" 229),(.str "/claim/cut.py" 230),(.int 13 0),(.int 0 0),(.int 0 0),(.int 0 0),(.int 0 0),(.ref 45),(.bool false),(.int 181 0),(.ref 46),.none,.none,.none,.none,(.int 231 0),(.int 13 0),(.str "/claim/cut.py" 232)]) #[]),
 (Obj.mk (.type "frame") none .plain #[(some (.ref 47)),(some (.ref 3)),(some (.ref 44)),none,(some (.str "ringloads.errors" 198)),none,(some (.ref 0))]),
 (Obj.mk (.type "tuple") none (.seq #[] 0) #[]),
 (Obj.mk (.type "dict") none (.dict #[(DictEntry.mk (kh P "__module__") (.str "__module__" 233) (.str "ringloads.errors" 198)),(DictEntry.mk (kh P "__firstlineno__") (.str "__firstlineno__" 237) (.int 13 236)),(DictEntry.mk (kh P "__static_attributes__") (.str "__static_attributes__" 238) (.ref 49)),(DictEntry.mk (kh P "__doc__") (.str "__doc__" 239) .none)] 2) #[]),
 (Obj.mk (.type "type") none (.cls (PySem.ClassData.mk "NoNumber" [(.ref 38)] [(.ref 51),(.ref 38),(.type "ValueError"),(.type "Exception"),(.type "BaseException"),(.type "object")] 50 "NoNumber" true [] [] false none false)) #[(some (.ref 42)),none,(some (.str "NoNumber" 226)),(some (.str "NoNumber" 234)),(some (.builtin "ValueError.__new__")),(some (.bool true))]),
 (Obj.mk (.type "super") none (.fields #[(.ref 51),(.ref 51),(.ref 51)]) #[]),
 (Obj.mk (.type "builtin_function_or_method") none (.fields #[(.builtin "object.__init_subclass__"),(.ref 51)]) #[])]
noncomputable def f5(P:Params):List Obj:=[(Obj.mk (.type "tuple") none (.seq #[(.ref 38)] 0) #[]),
 (Obj.mk (.type "builtin_function_or_method") none (.fields #[(.builtin "type.__prepare__"),(.type "type")]) #[]),
 (Obj.mk (.type "dict") none (.dict #[(DictEntry.mk (kh P "__module__") (.str "__module__" 249) (.str "ringloads.errors" 198)),(DictEntry.mk (kh P "__qualname__") (.str "__qualname__" 251) (.str "NoRing" 250)),(DictEntry.mk (kh P "__firstlineno__") (.str "__firstlineno__" 253) (.int 15 252)),(DictEntry.mk (kh P "__init__") (.str "__init__" 262) (.ref 67)),(DictEntry.mk (kh P "__static_attributes__") (.str "__static_attributes__" 265) (.ref 68))] 5) #[]),
 (Obj.mk (.type "tuple") none (.seq #[] 0) #[]),
 (Obj.mk .none none (.fields #[(.int 17 0),(.int 4 0),(.ref 66)]) #[]),
 (Obj.mk (.type "code") none (.fields #[(.str "NoRing" 244),(.str "NoRing" 245),(.str "/claim/cut.py" 246),(.int 15 0),(.int 0 0),(.int 0 0),(.int 0 0),(.int 0 0),(.ref 57),(.bool false),(.int 181 0),(.ref 58),.none,.none,.none,.none,(.int 247 0),(.int 15 0),(.str "/claim/cut.py" 248)]) #[]),
 (Obj.mk (.type "frame") none .plain #[(some (.ref 59)),(some (.ref 3)),(some (.ref 56)),none,(some (.str "ringloads.errors" 198)),none,(some (.ref 0))]),
 (Obj.mk (.type "tuple") none (.seq #[] 0) #[]),
 (Obj.mk .none none (.fields #[]) #[]),
 (Obj.mk (.type "tuple") none (.seq #[(.str "self" 257),(.str "part" 258),(.str "number" 259)] 0) #[]),
 (Obj.mk (.type "tuple") none (.seq #[] 0) #[]),
 (Obj.mk .none none (.func (yc (inCls (top 5) 0) "NoRing.__init__" 0 .none .none)) #[]),
 (Obj.mk (.type "code") none (.fields #[(.str "__init__" 254),(.str "NoRing.__init__" 255),(.str "/claim/cut.py" 256),(.int 17 0),(.int 3 0),(.int 0 0),(.int 0 0),(.int 3 0),(.ref 61),(.bool true),(.int 181 0),(.ref 62),.none,(.ref 63),(.ref 64),(.ref 65),(.int 260 0),(.int 17 0),(.str "/claim/cut.py" 261)]) #[]),
 (Obj.mk (.type "function") none (.func (yc (inCls (top 5) 0) "NoRing.__init__" 3 (.str "ringloads.errors" 198) (.ref 66))) #[]),
 (Obj.mk (.type "tuple") none (.seq #[(.str "number" 263),(.str "part" 264)] 0) #[]),
 (Obj.mk (.type "dict") none (.dict #[(DictEntry.mk (kh P "__module__") (.str "__module__" 249) (.str "ringloads.errors" 198)),(DictEntry.mk (kh P "__firstlineno__") (.str "__firstlineno__" 253) (.int 15 252)),(DictEntry.mk (kh P "__init__") (.str "__init__" 262) (.ref 67)),(DictEntry.mk (kh P "__static_attributes__") (.str "__static_attributes__" 265) (.ref 68)),(DictEntry.mk (kh P "__doc__") (.str "__doc__" 266) .none)] 2) #[]),
 (Obj.mk (.type "type") none (.cls (PySem.ClassData.mk "NoRing" [(.ref 38)] [(.ref 70),(.ref 38),(.type "ValueError"),(.type "Exception"),(.type "BaseException"),(.type "object")] 69 "NoRing" true [] [] false none false)) #[(some (.ref 54)),none,(some (.str "NoRing" 242)),(some (.str "NoRing" 250)),(some (.builtin "ValueError.__new__")),(some (.bool true))]),
 (Obj.mk (.type "super") none (.fields #[(.ref 70),(.ref 70),(.ref 70)]) #[]),
 (Obj.mk (.type "builtin_function_or_method") none (.fields #[(.builtin "object.__init_subclass__"),(.ref 70)]) #[])]
noncomputable def f6(P:Params):List Obj:=[(Obj.mk (.type "tuple") none (.seq #[(.ref 38)] 0) #[]),
 (Obj.mk (.type "builtin_function_or_method") none (.fields #[(.builtin "type.__prepare__"),(.type "type")]) #[]),
 (Obj.mk (.type "dict") none (.dict #[(DictEntry.mk (kh P "__module__") (.str "__module__" 276) (.str "ringloads.errors" 198)),(DictEntry.mk (kh P "__qualname__") (.str "__qualname__" 278) (.str "NoSlide" 277)),(DictEntry.mk (kh P "__firstlineno__") (.str "__firstlineno__" 280) (.int 21 279)),(DictEntry.mk (kh P "__init__") (.str "__init__" 288) (.ref 86)),(DictEntry.mk (kh P "__static_attributes__") (.str "__static_attributes__" 290) (.ref 87))] 5) #[]),
 (Obj.mk (.type "tuple") none (.seq #[] 0) #[]),
 (Obj.mk .none none (.fields #[(.int 23 0),(.int 4 0),(.ref 85)]) #[]),
 (Obj.mk (.type "code") none (.fields #[(.str "NoSlide" 271),(.str "NoSlide" 272),(.str "/claim/cut.py" 273),(.int 21 0),(.int 0 0),(.int 0 0),(.int 0 0),(.int 0 0),(.ref 76),(.bool false),(.int 181 0),(.ref 77),.none,.none,.none,.none,(.int 274 0),(.int 21 0),(.str "/claim/cut.py" 275)]) #[]),
 (Obj.mk (.type "frame") none .plain #[(some (.ref 78)),(some (.ref 3)),(some (.ref 75)),none,(some (.str "ringloads.errors" 198)),none,(some (.ref 0))]),
 (Obj.mk (.type "tuple") none (.seq #[] 0) #[]),
 (Obj.mk .none none (.fields #[]) #[]),
 (Obj.mk (.type "tuple") none (.seq #[(.str "self" 284),(.str "number" 285)] 0) #[]),
 (Obj.mk (.type "tuple") none (.seq #[] 0) #[]),
 (Obj.mk .none none (.func (yc (inCls (top 6) 0) "NoSlide.__init__" 0 .none .none)) #[]),
 (Obj.mk (.type "code") none (.fields #[(.str "__init__" 281),(.str "NoSlide.__init__" 282),(.str "/claim/cut.py" 283),(.int 23 0),(.int 2 0),(.int 0 0),(.int 0 0),(.int 3 0),(.ref 80),(.bool true),(.int 181 0),(.ref 81),.none,(.ref 82),(.ref 83),(.ref 84),(.int 286 0),(.int 23 0),(.str "/claim/cut.py" 287)]) #[]),
 (Obj.mk (.type "function") none (.func (yc (inCls (top 6) 0) "NoSlide.__init__" 3 (.str "ringloads.errors" 198) (.ref 85))) #[]),
 (Obj.mk (.type "tuple") none (.seq #[(.str "number" 289)] 0) #[]),
 (Obj.mk (.type "dict") none (.dict #[(DictEntry.mk (kh P "__module__") (.str "__module__" 276) (.str "ringloads.errors" 198)),(DictEntry.mk (kh P "__firstlineno__") (.str "__firstlineno__" 280) (.int 21 279)),(DictEntry.mk (kh P "__init__") (.str "__init__" 288) (.ref 86)),(DictEntry.mk (kh P "__static_attributes__") (.str "__static_attributes__" 290) (.ref 87)),(DictEntry.mk (kh P "__doc__") (.str "__doc__" 291) .none)] 2) #[]),
 (Obj.mk (.type "type") none (.cls (PySem.ClassData.mk "NoSlide" [(.ref 38)] [(.ref 89),(.ref 38),(.type "ValueError"),(.type "Exception"),(.type "BaseException"),(.type "object")] 88 "NoSlide" true [] [] false none false)) #[(some (.ref 73)),none,(some (.str "NoSlide" 269)),(some (.str "NoSlide" 277)),(some (.builtin "ValueError.__new__")),(some (.bool true))]),
 (Obj.mk (.type "super") none (.fields #[(.ref 89),(.ref 89),(.ref 89)]) #[]),
 (Obj.mk (.type "builtin_function_or_method") none (.fields #[(.builtin "object.__init_subclass__"),(.ref 89)]) #[])]
noncomputable def f7(P:Params):List Obj:=[(Obj.mk (.type "tuple") none (.seq #[(.ref 38)] 0) #[]),
 (Obj.mk (.type "builtin_function_or_method") none (.fields #[(.builtin "type.__prepare__"),(.type "type")]) #[]),
 (Obj.mk (.type "dict") none (.dict #[(DictEntry.mk (kh P "__module__") (.str "__module__" 301) (.str "ringloads.errors" 198)),(DictEntry.mk (kh P "__qualname__") (.str "__qualname__" 303) (.str "NoTree" 302)),(DictEntry.mk (kh P "__firstlineno__") (.str "__firstlineno__" 305) (.int 26 304)),(DictEntry.mk (kh P "__init__") (.str "__init__" 313) (.ref 105)),(DictEntry.mk (kh P "__static_attributes__") (.str "__static_attributes__" 315) (.ref 106))] 5) #[]),
 (Obj.mk (.type "tuple") none (.seq #[] 0) #[]),
 (Obj.mk .none none (.fields #[(.int 28 0),(.int 4 0),(.ref 104)]) #[]),
 (Obj.mk (.type "code") none (.fields #[(.str "NoTree" 296),(.str "NoTree" 297),(.str "/claim/cut.py" 298),(.int 26 0),(.int 0 0),(.int 0 0),(.int 0 0),(.int 0 0),(.ref 95),(.bool false),(.int 181 0),(.ref 96),.none,.none,.none,.none,(.int 299 0),(.int 26 0),(.str "/claim/cut.py" 300)]) #[]),
 (Obj.mk (.type "frame") none .plain #[(some (.ref 97)),(some (.ref 3)),(some (.ref 94)),none,(some (.str "ringloads.errors" 198)),none,(some (.ref 0))]),
 (Obj.mk (.type "tuple") none (.seq #[] 0) #[]),
 (Obj.mk .none none (.fields #[]) #[]),
 (Obj.mk (.type "tuple") none (.seq #[(.str "self" 309),(.str "way" 310)] 0) #[]),
 (Obj.mk (.type "tuple") none (.seq #[] 0) #[]),
 (Obj.mk .none none (.func (yc (inCls (top 7) 0) "NoTree.__init__" 0 .none .none)) #[]),
 (Obj.mk (.type "code") none (.fields #[(.str "__init__" 306),(.str "NoTree.__init__" 307),(.str "/claim/cut.py" 308),(.int 28 0),(.int 2 0),(.int 0 0),(.int 0 0),(.int 3 0),(.ref 99),(.bool true),(.int 181 0),(.ref 100),.none,(.ref 101),(.ref 102),(.ref 103),(.int 311 0),(.int 28 0),(.str "/claim/cut.py" 312)]) #[]),
 (Obj.mk (.type "function") none (.func (yc (inCls (top 7) 0) "NoTree.__init__" 3 (.str "ringloads.errors" 198) (.ref 104))) #[]),
 (Obj.mk (.type "tuple") none (.seq #[(.str "way" 314)] 0) #[]),
 (Obj.mk (.type "dict") none (.dict #[(DictEntry.mk (kh P "__module__") (.str "__module__" 301) (.str "ringloads.errors" 198)),(DictEntry.mk (kh P "__firstlineno__") (.str "__firstlineno__" 305) (.int 26 304)),(DictEntry.mk (kh P "__init__") (.str "__init__" 313) (.ref 105)),(DictEntry.mk (kh P "__static_attributes__") (.str "__static_attributes__" 315) (.ref 106)),(DictEntry.mk (kh P "__doc__") (.str "__doc__" 316) .none)] 2) #[]),
 (Obj.mk (.type "type") none (.cls (PySem.ClassData.mk "NoTree" [(.ref 38)] [(.ref 108),(.ref 38),(.type "ValueError"),(.type "Exception"),(.type "BaseException"),(.type "object")] 107 "NoTree" true [] [] false none false)) #[(some (.ref 92)),none,(some (.str "NoTree" 294)),(some (.str "NoTree" 302)),(some (.builtin "ValueError.__new__")),(some (.bool true))]),
 (Obj.mk (.type "super") none (.fields #[(.ref 108),(.ref 108),(.ref 108)]) #[]),
 (Obj.mk (.type "builtin_function_or_method") none (.fields #[(.builtin "object.__init_subclass__"),(.ref 108)]) #[])]
noncomputable def f8(P:Params):List Obj:=[(Obj.mk (.type "tuple") none (.seq #[(.ref 38)] 0) #[]),
 (Obj.mk (.type "builtin_function_or_method") none (.fields #[(.builtin "type.__prepare__"),(.type "type")]) #[]),
 (Obj.mk (.type "dict") none (.dict #[(DictEntry.mk (kh P "__module__") (.str "__module__" 326) (.str "ringloads.errors" 198)),(DictEntry.mk (kh P "__qualname__") (.str "__qualname__" 328) (.str "NoChange" 327)),(DictEntry.mk (kh P "__firstlineno__") (.str "__firstlineno__" 330) (.int 31 329)),(DictEntry.mk (kh P "__static_attributes__") (.str "__static_attributes__" 331) (.ref 118))] 4) #[]),
 (Obj.mk (.type "tuple") none (.seq #[] 0) #[]),
 (Obj.mk .none none (.fields #[]) #[]),
 (Obj.mk (.type "code") none (.fields #[(.str "NoChange" 321),(.str "NoChange" 322),(.str "/claim/cut.py" 323),(.int 31 0),(.int 0 0),(.int 0 0),(.int 0 0),(.int 0 0),(.ref 114),(.bool false),(.int 181 0),(.ref 115),.none,.none,.none,.none,(.int 324 0),(.int 31 0),(.str "/claim/cut.py" 325)]) #[]),
 (Obj.mk (.type "frame") none .plain #[(some (.ref 116)),(some (.ref 3)),(some (.ref 113)),none,(some (.str "ringloads.errors" 198)),none,(some (.ref 0))]),
 (Obj.mk (.type "tuple") none (.seq #[] 0) #[]),
 (Obj.mk (.type "dict") none (.dict #[(DictEntry.mk (kh P "__module__") (.str "__module__" 326) (.str "ringloads.errors" 198)),(DictEntry.mk (kh P "__firstlineno__") (.str "__firstlineno__" 330) (.int 31 329)),(DictEntry.mk (kh P "__static_attributes__") (.str "__static_attributes__" 331) (.ref 118)),(DictEntry.mk (kh P "__doc__") (.str "__doc__" 332) .none)] 2) #[]),
 (Obj.mk (.type "type") none (.cls (PySem.ClassData.mk "NoChange" [(.ref 38)] [(.ref 120),(.ref 38),(.type "ValueError"),(.type "Exception"),(.type "BaseException"),(.type "object")] 119 "NoChange" true [] [] false none false)) #[(some (.ref 111)),none,(some (.str "NoChange" 319)),(some (.str "NoChange" 327)),(some (.builtin "ValueError.__new__")),(some (.bool true))]),
 (Obj.mk (.type "super") none (.fields #[(.ref 120),(.ref 120),(.ref 120)]) #[]),
 (Obj.mk (.type "builtin_function_or_method") none (.fields #[(.builtin "object.__init_subclass__"),(.ref 120)]) #[])]
noncomputable def f9(P:Params):List Obj:=[(Obj.mk (.type "tuple") none (.seq #[(.ref 38)] 0) #[]),
 (Obj.mk (.type "builtin_function_or_method") none (.fields #[(.builtin "type.__prepare__"),(.type "type")]) #[]),
 (Obj.mk (.type "dict") none (.dict #[(DictEntry.mk (kh P "__module__") (.str "__module__" 342) (.str "ringloads.errors" 198)),(DictEntry.mk (kh P "__qualname__") (.str "__qualname__" 344) (.str "NoPlace" 343)),(DictEntry.mk (kh P "__firstlineno__") (.str "__firstlineno__" 346) (.int 33 345)),(DictEntry.mk (kh P "__static_attributes__") (.str "__static_attributes__" 347) (.ref 130))] 4) #[]),
 (Obj.mk (.type "tuple") none (.seq #[] 0) #[]),
 (Obj.mk .none none (.fields #[]) #[]),
 (Obj.mk (.type "code") none (.fields #[(.str "NoPlace" 337),(.str "NoPlace" 338),(.str "/claim/cut.py" 339),(.int 33 0),(.int 0 0),(.int 0 0),(.int 0 0),(.int 0 0),(.ref 126),(.bool false),(.int 181 0),(.ref 127),.none,.none,.none,.none,(.int 340 0),(.int 33 0),(.str "/claim/cut.py" 341)]) #[]),
 (Obj.mk (.type "frame") none .plain #[(some (.ref 128)),(some (.ref 3)),(some (.ref 125)),none,(some (.str "ringloads.errors" 198)),none,(some (.ref 0))]),
 (Obj.mk (.type "tuple") none (.seq #[] 0) #[]),
 (Obj.mk (.type "dict") none (.dict #[(DictEntry.mk (kh P "__module__") (.str "__module__" 342) (.str "ringloads.errors" 198)),(DictEntry.mk (kh P "__firstlineno__") (.str "__firstlineno__" 346) (.int 33 345)),(DictEntry.mk (kh P "__static_attributes__") (.str "__static_attributes__" 347) (.ref 130)),(DictEntry.mk (kh P "__doc__") (.str "__doc__" 348) .none)] 2) #[]),
 (Obj.mk (.type "type") none (.cls (PySem.ClassData.mk "NoPlace" [(.ref 38)] [(.ref 132),(.ref 38),(.type "ValueError"),(.type "Exception"),(.type "BaseException"),(.type "object")] 131 "NoPlace" true [] [] false none false)) #[(some (.ref 123)),none,(some (.str "NoPlace" 335)),(some (.str "NoPlace" 343)),(some (.builtin "ValueError.__new__")),(some (.bool true))]),
 (Obj.mk (.type "super") none (.fields #[(.ref 132),(.ref 132),(.ref 132)]) #[]),
 (Obj.mk (.type "builtin_function_or_method") none (.fields #[(.builtin "object.__init_subclass__"),(.ref 132)]) #[])]
noncomputable def OK(P:Params):List Obj:=[(Obj.mk (.type "tuple") none (.seq #[(.ref 38)] 0) #[]),
 (Obj.mk (.type "builtin_function_or_method") none (.fields #[(.builtin "type.__prepare__"),(.type "type")]) #[]),
 (Obj.mk (.type "dict") none (.dict #[(DictEntry.mk (kh P "__module__") (.str "__module__" 358) (.str "ringloads.errors" 198)),(DictEntry.mk (kh P "__qualname__") (.str "__qualname__" 360) (.str "NoString" 359)),(DictEntry.mk (kh P "__firstlineno__") (.str "__firstlineno__" 362) (.int 35 361)),(DictEntry.mk (kh P "__init__") (.str "__init__" 370) (.ref 148)),(DictEntry.mk (kh P "__static_attributes__") (.str "__static_attributes__" 372) (.ref 149))] 5) #[]),
 (Obj.mk (.type "tuple") none (.seq #[] 0) #[]),
 (Obj.mk .none none (.fields #[(.int 37 0),(.int 4 0),(.ref 147)]) #[]),
 (Obj.mk (.type "code") none (.fields #[(.str "NoString" 353),(.str "NoString" 354),(.str "/claim/cut.py" 355),(.int 35 0),(.int 0 0),(.int 0 0),(.int 0 0),(.int 0 0),(.ref 138),(.bool false),(.int 181 0),(.ref 139),.none,.none,.none,.none,(.int 356 0),(.int 35 0),(.str "/claim/cut.py" 357)]) #[]),
 (Obj.mk (.type "frame") none .plain #[(some (.ref 140)),(some (.ref 3)),(some (.ref 137)),none,(some (.str "ringloads.errors" 198)),none,(some (.ref 0))]),
 (Obj.mk (.type "tuple") none (.seq #[] 0) #[]),
 (Obj.mk .none none (.fields #[]) #[]),
 (Obj.mk (.type "tuple") none (.seq #[(.str "self" 366),(.str "number" 367)] 0) #[]),
 (Obj.mk (.type "tuple") none (.seq #[] 0) #[]),
 (Obj.mk .none none (.func (yc (inCls (top 10) 0) "NoString.__init__" 0 .none .none)) #[]),
 (Obj.mk (.type "code") none (.fields #[(.str "__init__" 363),(.str "NoString.__init__" 364),(.str "/claim/cut.py" 365),(.int 37 0),(.int 2 0),(.int 0 0),(.int 0 0),(.int 3 0),(.ref 142),(.bool true),(.int 181 0),(.ref 143),.none,(.ref 144),(.ref 145),(.ref 146),(.int 368 0),(.int 37 0),(.str "/claim/cut.py" 369)]) #[]),
 (Obj.mk (.type "function") none (.func (yc (inCls (top 10) 0) "NoString.__init__" 3 (.str "ringloads.errors" 198) (.ref 147))) #[]),
 (Obj.mk (.type "tuple") none (.seq #[(.str "number" 371)] 0) #[]),
 (Obj.mk (.type "dict") none (.dict #[(DictEntry.mk (kh P "__module__") (.str "__module__" 358) (.str "ringloads.errors" 198)),(DictEntry.mk (kh P "__firstlineno__") (.str "__firstlineno__" 362) (.int 35 361)),(DictEntry.mk (kh P "__init__") (.str "__init__" 370) (.ref 148)),(DictEntry.mk (kh P "__static_attributes__") (.str "__static_attributes__" 372) (.ref 149)),(DictEntry.mk (kh P "__doc__") (.str "__doc__" 373) .none)] 2) #[]),
 (Obj.mk (.type "type") none (.cls (PySem.ClassData.mk "NoString" [(.ref 38)] [(.ref 151),(.ref 38),(.type "ValueError"),(.type "Exception"),(.type "BaseException"),(.type "object")] 150 "NoString" true [] [] false none false)) #[(some (.ref 135)),none,(some (.str "NoString" 351)),(some (.str "NoString" 359)),(some (.builtin "ValueError.__new__")),(some (.bool true))]),
 (Obj.mk (.type "super") none (.fields #[(.ref 151),(.ref 151),(.ref 151)]) #[]),
 (Obj.mk (.type "builtin_function_or_method") none (.fields #[(.builtin "object.__init_subclass__"),(.ref 151)]) #[])]
noncomputable def OL(P:Params):List Obj:=[(Obj.mk (.type "tuple") none (.seq #[(.ref 38)] 0) #[]),
 (Obj.mk (.type "builtin_function_or_method") none (.fields #[(.builtin "type.__prepare__"),(.type "type")]) #[]),
 (Obj.mk (.type "dict") none (.dict #[(DictEntry.mk (kh P "__module__") (.str "__module__" 383) (.str "ringloads.errors" 198)),(DictEntry.mk (kh P "__qualname__") (.str "__qualname__" 385) (.str "NoText" 384)),(DictEntry.mk (kh P "__firstlineno__") (.str "__firstlineno__" 387) (.int 40 386)),(DictEntry.mk (kh P "__init__") (.str "__init__" 395) (.ref 167)),(DictEntry.mk (kh P "__static_attributes__") (.str "__static_attributes__" 397) (.ref 168))] 5) #[]),
 (Obj.mk (.type "tuple") none (.seq #[] 0) #[]),
 (Obj.mk .none none (.fields #[(.int 42 0),(.int 4 0),(.ref 166)]) #[]),
 (Obj.mk (.type "code") none (.fields #[(.str "NoText" 378),(.str "NoText" 379),(.str "/claim/cut.py" 380),(.int 40 0),(.int 0 0),(.int 0 0),(.int 0 0),(.int 0 0),(.ref 157),(.bool false),(.int 181 0),(.ref 158),.none,.none,.none,.none,(.int 381 0),(.int 40 0),(.str "/claim/cut.py" 382)]) #[]),
 (Obj.mk (.type "frame") none .plain #[(some (.ref 159)),(some (.ref 3)),(some (.ref 156)),none,(some (.str "ringloads.errors" 198)),none,(some (.ref 0))]),
 (Obj.mk (.type "tuple") none (.seq #[] 0) #[]),
 (Obj.mk .none none (.fields #[]) #[]),
 (Obj.mk (.type "tuple") none (.seq #[(.str "self" 391),(.str "row" 392)] 0) #[]),
 (Obj.mk (.type "tuple") none (.seq #[] 0) #[]),
 (Obj.mk .none none (.func (yc (inCls (top 11) 0) "NoText.__init__" 0 .none .none)) #[]),
 (Obj.mk (.type "code") none (.fields #[(.str "__init__" 388),(.str "NoText.__init__" 389),(.str "/claim/cut.py" 390),(.int 42 0),(.int 2 0),(.int 0 0),(.int 0 0),(.int 3 0),(.ref 161),(.bool true),(.int 181 0),(.ref 162),.none,(.ref 163),(.ref 164),(.ref 165),(.int 393 0),(.int 42 0),(.str "/claim/cut.py" 394)]) #[]),
 (Obj.mk (.type "function") none (.func (yc (inCls (top 11) 0) "NoText.__init__" 3 (.str "ringloads.errors" 198) (.ref 166))) #[]),
 (Obj.mk (.type "tuple") none (.seq #[(.str "row" 396)] 0) #[]),
 (Obj.mk (.type "dict") none (.dict #[(DictEntry.mk (kh P "__module__") (.str "__module__" 383) (.str "ringloads.errors" 198)),(DictEntry.mk (kh P "__firstlineno__") (.str "__firstlineno__" 387) (.int 40 386)),(DictEntry.mk (kh P "__init__") (.str "__init__" 395) (.ref 167)),(DictEntry.mk (kh P "__static_attributes__") (.str "__static_attributes__" 397) (.ref 168)),(DictEntry.mk (kh P "__doc__") (.str "__doc__" 398) .none)] 2) #[]),
 (Obj.mk (.type "type") none (.cls (PySem.ClassData.mk "NoText" [(.ref 38)] [(.ref 170),(.ref 38),(.type "ValueError"),(.type "Exception"),(.type "BaseException"),(.type "object")] 169 "NoText" true [] [] false none false)) #[(some (.ref 154)),none,(some (.str "NoText" 376)),(some (.str "NoText" 384)),(some (.builtin "ValueError.__new__")),(some (.bool true))]),
 (Obj.mk (.type "super") none (.fields #[(.ref 170),(.ref 170),(.ref 170)]) #[]),
 (Obj.mk (.type "builtin_function_or_method") none (.fields #[(.builtin "object.__init_subclass__"),(.ref 170)]) #[])]
noncomputable def OM(P:Params):List Obj:=[(Obj.mk (.type "tuple") none (.seq #[(.ref 38)] 0) #[]),
 (Obj.mk (.type "builtin_function_or_method") none (.fields #[(.builtin "type.__prepare__"),(.type "type")]) #[]),
 (Obj.mk (.type "dict") none (.dict #[(DictEntry.mk (kh P "__module__") (.str "__module__" 408) (.str "ringloads.errors" 198)),(DictEntry.mk (kh P "__qualname__") (.str "__qualname__" 410) (.str "NoName" 409)),(DictEntry.mk (kh P "__firstlineno__") (.str "__firstlineno__" 412) (.int 45 411)),(DictEntry.mk (kh P "__static_attributes__") (.str "__static_attributes__" 413) (.ref 180))] 4) #[]),
 (Obj.mk (.type "tuple") none (.seq #[] 0) #[]),
 (Obj.mk .none none (.fields #[]) #[]),
 (Obj.mk (.type "code") none (.fields #[(.str "NoName" 403),(.str "NoName" 404),(.str "/claim/cut.py" 405),(.int 45 0),(.int 0 0),(.int 0 0),(.int 0 0),(.int 0 0),(.ref 176),(.bool false),(.int 181 0),(.ref 177),.none,.none,.none,.none,(.int 406 0),(.int 45 0),(.str "/claim/cut.py" 407)]) #[]),
 (Obj.mk (.type "frame") none .plain #[(some (.ref 178)),(some (.ref 3)),(some (.ref 175)),none,(some (.str "ringloads.errors" 198)),none,(some (.ref 0))]),
 (Obj.mk (.type "tuple") none (.seq #[] 0) #[]),
 (Obj.mk (.type "dict") none (.dict #[(DictEntry.mk (kh P "__module__") (.str "__module__" 408) (.str "ringloads.errors" 198)),(DictEntry.mk (kh P "__firstlineno__") (.str "__firstlineno__" 412) (.int 45 411)),(DictEntry.mk (kh P "__static_attributes__") (.str "__static_attributes__" 413) (.ref 180)),(DictEntry.mk (kh P "__doc__") (.str "__doc__" 414) .none)] 2) #[]),
 (Obj.mk (.type "type") none (.cls (PySem.ClassData.mk "NoName" [(.ref 38)] [(.ref 182),(.ref 38),(.type "ValueError"),(.type "Exception"),(.type "BaseException"),(.type "object")] 181 "NoName" true [] [] false none false)) #[(some (.ref 173)),none,(some (.str "NoName" 401)),(some (.str "NoName" 409)),(some (.builtin "ValueError.__new__")),(some (.bool true))]),
 (Obj.mk (.type "super") none (.fields #[(.ref 182),(.ref 182),(.ref 182)]) #[]),
 (Obj.mk (.type "builtin_function_or_method") none (.fields #[(.builtin "object.__init_subclass__"),(.ref 182)]) #[])]
noncomputable def OO(P:Params):List Obj:=bH (top 14) 185 419 ["thing"] (.str "ringloads.names" 417)
noncomputable def OP(P:Params):List Obj:=bH (top 15) 192 426 ["thing","many"] (.str "ringloads.names" 417)
noncomputable def OQ(P:Params):List Obj:=bH (top 16) 199 434 ["thing"] (.str "ringloads.names" 417)
noncomputable def OR(P:Params):List Obj:=bH (top 17) 206 441 ["thing"] (.str "ringloads.names" 417)
noncomputable def OS(P:Params):List Obj:=[(Obj.mk (.type "tuple") none (.seq #[(.int 0 450),(.int 1 451)] 0) #[])]
noncomputable def OT(P:Params):List Obj:=bH (top 20) 214 453 ["top","bottom","shared"] (.str "ringloads.ratios" 448)
noncomputable def OU(P:Params):List Obj:=bH (top 21) 221 462 ["one","other"] (.str "ringloads.ratios" 448)
noncomputable def OV(P:Params):List Obj:=bH (top 22) 228 470 ["one","other"] (.str "ringloads.ratios" 448)
noncomputable def OW(P:Params):List Obj:=bH (top 23) 235 478 ["one","other"] (.str "ringloads.ratios" 448)
noncomputable def OX(P:Params):List Obj:=bH (top 24) 242 486 ["one","other"] (.str "ringloads.ratios" 448)
noncomputable def OY(P:Params):List Obj:=bH (top 26) 249 496 ["ring","k"] (.str "ringloads.crossing" 494)
noncomputable def OZ(P:Params):List Obj:=bH (top 27) 256 504 ["ring","k"] (.str "ringloads.crossing" 494)
noncomputable def O0(P:Params):List Obj:=bH (top 28) 263 512 ["ring","k","l","low","high","first","last"] (.str "ringloads.crossing" 494)
noncomputable def O1(P:Params):List Obj:=y1 (top 29) 270 525 (.str "ringloads.crossing" 494)
noncomputable def O2(P:Params):List Obj:=bH (top 30) 275 531 ["ring","some","number","k","l"] (.str "ringloads.crossing" 494)
noncomputable def O3(P:Params):List Obj:=bH (top 34) 282 548 ["thing"] (.str "ringloads.ways" 542)
noncomputable def O4(P:Params):List Obj:=y1 (top 35) 289 555 (.str "ringloads.ways" 542)
noncomputable def O5(P:Params):List Obj:=bH (top 37) 294 563 ["ring","sending","thing","slid","number","slide"] (.str "ringloads.slides" 561)
noncomputable def O6(P:Params):List Obj:=bH (top 38) 301 575 ["ring","sending","thing"] (.str "ringloads.slides" 561)
noncomputable def O7(P:Params):List Obj:=bH (top 39) 308 584 ["thing","asks"] (.str "ringloads.slides" 561)
noncomputable def O8(P:Params):List Obj:=y1 (top 40) 315 592 (.str "ringloads.slides" 561)
noncomputable def O9(P:Params):List Obj:=bH (top 41) 320 598 ["ring","sending","k","way"] (.str "ringloads.slides" 561)
noncomputable def Pa(P:Params):List Obj:=bH (top 42) 327 608 ["ring","sending","slide"] (.str "ringloads.slides" 561)
noncomputable def Pb(P:Params):List Obj:=bH (top 43) 334 617 ["sending","slide","slid"] (.str "ringloads.slides" 561)
noncomputable def Pc(P:Params):List Obj:=bH (top 44) 341 626 ["part","way","amount"] (.str "ringloads.slides" 561)
noncomputable def Pd(P:Params):List Obj:=bH (top 45) 348 635 ["ring","sending","slid","slides","pair","slide"] (.str "ringloads.slides" 561)
noncomputable def Pe(P:Params):List Obj:=bH (top 46) 355 647 ["ring","sending","k","l","ways","slide"] (.str "ringloads.slides" 561)
noncomputable def Pf(P:Params):List Obj:=bH (top 47) 362 659 ["ring","k","l","ways"] (.str "ringloads.slides" 561)
noncomputable def Pg(P:Params):List Obj:=bH (top 49) 369 671 ["_law_script","_law_k","_law_cell"] (.str "law_ringloads_k34_no_slides" 669)
noncomputable def Ph(P:Params):List Obj:=bH (top 50) 376 680 ["_law_state","_law_many","_law_digit","_law_drawn","_law_turn"] (.str "law_ringloads_k34_no_slides" 669)
noncomputable def Pi(P:Params):List Obj:=bH (top 51) 383 691 ["_law_top","_law_bottom","_law_one","_law_share"] (.str "law_ringloads_k34_no_slides" 669)
noncomputable def Pj(P:Params):List Obj:=bH (top 52) 390 701 ["_law_state","_law_least","_law_kind","_law_bottom","_law_top"] (.str "law_ringloads_k34_no_slides" 669)
noncomputable def Pk(P:Params):List Obj:=y1 (top 53) 397 712 (.str "law_ringloads_k34_no_slides" 669)
noncomputable def Pl(P:Params):List Obj:=bH (top 54) 402 718 ["_law_state","_law_ties_here","_law_kind","_law_alike","_law_one","_law_rooms_here","_law_more"] (.str "law_ringloads_k34_no_slides" 669)
noncomputable def Pn(P:Params):List Obj:=bH (top 55) 409 731 ["_law_state","_law_shape","_law_places","_law_k","_law_one","_law_other"] (.str "law_ringloads_k34_no_slides" 669)
noncomputable def Po(P:Params):List Obj:=bH (top 56) 416 743 ["_law_script","_law_at","_law_most","_law_count","_law_state","_law_places","_law_many","_law_kinds","_law_shape","_law_names_here","_law_rooms_here","_law_asks","_law_k","_law_one","_law_other"] (.str "law_ringloads_k34_no_slides" 669)
noncomputable def Pp(P:Params):List Obj:=bH (top 57) 423 764 ["_law_state","_law_ring_here","_law_parts_here","_law_name","_law_one","_law_other","_law_size","_law_way","_law_share"] (.str "law_ringloads_k34_no_slides" 669)
noncomputable def Pq(P:Params):List Obj:=bH (top 58) 430 779 ["_law_one","_law_other"] (.str "law_ringloads_k34_no_slides" 669)
noncomputable def Pu(P:Params):List Obj:=bH (top 59) 437 787 ["_law_one","_law_other"] (.str "law_ringloads_k34_no_slides" 669)
noncomputable def Pv(P:Params):List Obj:=bH (top 60) 444 795 ["_law_one","_law_other"] (.str "law_ringloads_k34_no_slides" 669)
noncomputable def Pw(P:Params):List Obj:=bH (top 61) 451 803 ["_law_ring_here","_law_k","_law_way","_law_name","_law_one","_law_other","_law_size","_law_ties_here"] (.str "law_ringloads_k34_no_slides" 669)
noncomputable def Px(P:Params):List Obj:=bH (top 62) 458 817 ["_law_thing","_law_part"] (.str "law_ringloads_k34_no_slides" 669)
noncomputable def Py(P:Params):List Obj:=bH (top 63) 465 825 ["_law_ring_here","_law_sending","_law_k","_law_way"] (.str "law_ringloads_k34_no_slides" 669)
noncomputable def Pz(P:Params):List Obj:=y1 (top 64) 472 835 (.str "law_ringloads_k34_no_slides" 669)
noncomputable def PD(P:Params):List Obj:=bH (top 65) 477 841 ["_law_sending","_law_slide","_law_k","_law_way","_law_l","_law_other","_law_amount_here","_law_made","_law_one","_law_word"] (.str "law_ringloads_k34_no_slides" 669)
noncomputable def PF(P:Params):List Obj:=bH (top 66) 484 857 ["_law_ring_here","_law_sending","_law_thing","_law_found","e","_law_other"] (.str "law_ringloads_k34_no_slides" 669)
noncomputable def PH(P:Params):List Obj:=bH (top 67) 491 869 ["_law_ring_here","_law_sending","_law_thing","_law_here","_law_number","_law_one"] (.str "law_ringloads_k34_no_slides" 669)
noncomputable def PJ(P:Params):List Obj:=bH (top 68) 498 881 ["_law_state","_law_slide","_law_k","_law_way","_law_l","_law_other","_law_amount_here","_law_step","_law_some"] (.str "law_ringloads_k34_no_slides" 669)
noncomputable def PN(P:Params):List Obj:=bH (top 69) 505 896 ["_law_state","_law_slides","_law_way","_law_at","_law_some"] (.str "law_ringloads_k34_no_slides" 669)
noncomputable def PP(P:Params):List Obj:=y1 (top 70) 512 907 (.str "law_ringloads_k34_no_slides" 669)
noncomputable def LU(P:Params)(b:Nat):Obj:=(bif b.blt 123 then(bif b.blt 54 then(bif b.blt 22 then(f1 P).getD (b-15) default else(bif b.blt 42 then(f3 P).getD (b-22) default else(f4 P).getD (b-42) default))else(bif b.blt 92 then(bif b.blt 73 then(f5 P).getD (b-54) default else(f6 P).getD (b-73) default)else(bif b.blt 111 then(f7 P).getD (b-92) default else(f8 P).getD (b-111) default)))else(bif b.blt 185 then(bif b.blt 154 then(bif b.blt 135 then(f9 P).getD (b-123) default else(OK P).getD (b-135) default)else(bif b.blt 173 then(OL P).getD (b-154) default else(OM P).getD (b-173) default))else(bif b.blt 199 then(bif b.blt 192 then(OO P).getD (b-185) default else(OP P).getD (b-192) default)else(bif b.blt 206 then(OQ P).getD (b-199) default else(OR P).getD (b-206) default))))
noncomputable def LV(P:Params)(b:Nat):Obj:=(bif b.blt 256 then(bif b.blt 228 then(bif b.blt 214 then(OS P).getD (b-213) default else(bif b.blt 221 then(OT P).getD (b-214) default else(OU P).getD (b-221) default))else(bif b.blt 242 then(bif b.blt 235 then(OV P).getD (b-228) default else(OW P).getD (b-235) default)else(bif b.blt 249 then(OX P).getD (b-242) default else(OY P).getD (b-249) default)))else(bif b.blt 282 then(bif b.blt 270 then(bif b.blt 263 then(OZ P).getD (b-256) default else(O0 P).getD (b-263) default)else(bif b.blt 275 then(O1 P).getD (b-270) default else(O2 P).getD (b-275) default))else(bif b.blt 294 then(bif b.blt 289 then(O3 P).getD (b-282) default else(O4 P).getD (b-289) default)else(bif b.blt 301 then(O5 P).getD (b-294) default else(O6 P).getD (b-301) default))))
noncomputable def PQ(P:Params)(b:Nat):Obj:=bif b.blt 213 then LU P b else LV P b
noncomputable def LW(P:Params)(b:Nat):Obj:=(bif b.blt 355 then(bif b.blt 327 then(bif b.blt 315 then(O7 P).getD (b-308) default else(bif b.blt 320 then(O8 P).getD (b-315) default else(O9 P).getD (b-320) default))else(bif b.blt 341 then(bif b.blt 334 then(Pa P).getD (b-327) default else(Pb P).getD (b-334) default)else(bif b.blt 348 then(Pc P).getD (b-341) default else(Pd P).getD (b-348) default)))else(bif b.blt 383 then(bif b.blt 369 then(bif b.blt 362 then(Pe P).getD (b-355) default else(Pf P).getD (b-362) default)else(bif b.blt 376 then(Pg P).getD (b-369) default else(Ph P).getD (b-376) default))else(bif b.blt 397 then(bif b.blt 390 then(Pi P).getD (b-383) default else(Pj P).getD (b-390) default)else(bif b.blt 402 then(Pk P).getD (b-397) default else(Pl P).getD (b-402) default))))
noncomputable def LX(P:Params)(b:Nat):Obj:=(bif b.blt 465 then(bif b.blt 437 then(bif b.blt 423 then(bif b.blt 416 then(Pn P).getD (b-409) default else(Po P).getD (b-416) default)else(bif b.blt 430 then(Pp P).getD (b-423) default else(Pq P).getD (b-430) default))else(bif b.blt 451 then(bif b.blt 444 then(Pu P).getD (b-437) default else(Pv P).getD (b-444) default)else(bif b.blt 458 then(Pw P).getD (b-451) default else(Px P).getD (b-458) default)))else(bif b.blt 491 then(bif b.blt 477 then(bif b.blt 472 then(Py P).getD (b-465) default else(Pz P).getD (b-472) default)else(bif b.blt 484 then(PD P).getD (b-477) default else(PF P).getD (b-484) default))else(bif b.blt 505 then(bif b.blt 498 then(PH P).getD (b-491) default else(PJ P).getD (b-498) default)else(bif b.blt 512 then(PN P).getD (b-505) default else(PP P).getD (b-512) default))))
noncomputable def PR(P:Params)(b:Nat):Obj:=bif b.blt 409 then LW P b else LX P b
noncomputable def ob(P:Params)(b:Nat):Obj:=bif b.blt 308 then PQ P b else PR P b
noncomputable def yd(P:Params):List DictEntry:=[(DictEntry.mk (kh P "greatest_shared") (.str "greatest_shared" 197) (.ref 21)),
 (DictEntry.mk (kh P "LoadError") (.str "LoadError" 225) (.ref 38)),
 (DictEntry.mk (kh P "NoNumber") (.str "NoNumber" 241) (.ref 51)),
 (DictEntry.mk (kh P "NoRing") (.str "NoRing" 268) (.ref 70)),
 (DictEntry.mk (kh P "NoSlide") (.str "NoSlide" 293) (.ref 89)),
 (DictEntry.mk (kh P "NoTree") (.str "NoTree" 318) (.ref 108)),
 (DictEntry.mk (kh P "NoChange") (.str "NoChange" 334) (.ref 120)),
 (DictEntry.mk (kh P "NoPlace") (.str "NoPlace" 350) (.ref 132)),
 (DictEntry.mk (kh P "NoString") (.str "NoString" 375) (.ref 151)),
 (DictEntry.mk (kh P "NoText") (.str "NoText" 400) (.ref 170)),
 (DictEntry.mk (kh P "NoName") (.str "NoName" 416) (.ref 182)),
 (DictEntry.mk (kh P "is_whole") (.str "is_whole" 425) (.ref 191)),
 (DictEntry.mk (kh P "is_number_below") (.str "is_number_below" 433) (.ref 198)),
 (DictEntry.mk (kh P "are_two_wholes") (.str "are_two_wholes" 440) (.ref 205)),
 (DictEntry.mk (kh P "is_ratio") (.str "is_ratio" 447) (.ref 212)),
 (DictEntry.mk (kh P "NOUGHT") (.str "NOUGHT" 452) (.ref 213)),
 (DictEntry.mk (kh P "lowest") (.str "lowest" 461) (.ref 220)),
 (DictEntry.mk (kh P "plus") (.str "plus" 469) (.ref 227)),
 (DictEntry.mk (kh P "minus") (.str "minus" 477) (.ref 234)),
 (DictEntry.mk (kh P "under") (.str "under" 485) (.ref 241)),
 (DictEntry.mk (kh P "lesser") (.str "lesser" 493) (.ref 248)),
 (DictEntry.mk (kh P "lesser_place") (.str "lesser_place" 503) (.ref 255)),
 (DictEntry.mk (kh P "greater_place") (.str "greater_place" 511) (.ref 262)),
 (DictEntry.mk (kh P "do_cross") (.str "do_cross" 524) (.ref 269)),
 (DictEntry.mk (kh P "parted_in") (.str "parted_in" 530) (.ref 274)),
 (DictEntry.mk (kh P "first_side_by_side") (.str "first_side_by_side" 541) (.ref 281)),
 (DictEntry.mk (kh P "ON") (.str "ON" 545) (.str "on" 544)),
 (DictEntry.mk (kh P "BACK") (.str "BACK" 547) (.str "back" 546)),
 (DictEntry.mk (kh P "is_way") (.str "is_way" 554) (.ref 288)),
 (DictEntry.mk (kh P "ties_of") (.str "ties_of" 560) (.ref 293)),
 (DictEntry.mk (kh P "slid_by") (.str "slid_by" 574) (.ref 300)),
 (DictEntry.mk (kh P "is_slide") (.str "is_slide" 583) (.ref 307)),
 (DictEntry.mk (kh P "has_form_of_slide") (.str "has_form_of_slide" 591) (.ref 314)),
 (DictEntry.mk (kh P "share_no_tie") (.str "share_no_tie" 597) (.ref 319)),
 (DictEntry.mk (kh P "not_sent") (.str "not_sent" 607) (.ref 326)),
 (DictEntry.mk (kh P "most_slid") (.str "most_slid" 616) (.ref 333)),
 (DictEntry.mk (kh P "slid_once") (.str "slid_once" 625) (.ref 340)),
 (DictEntry.mk (kh P "part_behind") (.str "part_behind" 634) (.ref 347)),
 (DictEntry.mk (kh P "slides_for") (.str "slides_for" 646) (.ref 354)),
 (DictEntry.mk (kh P "greatest_slide") (.str "greatest_slide" 658) (.ref 361)),
 (DictEntry.mk (kh P "ways_apart") (.str "ways_apart" 668) (.ref 368)),
 (DictEntry.mk (kh P "_law_begun") (.str "_law_begun" 679) (.ref 375)),
 (DictEntry.mk (kh P "_law_take") (.str "_law_take" 690) (.ref 382)),
 (DictEntry.mk (kh P "_law_low") (.str "_law_low" 700) (.ref 389)),
 (DictEntry.mk (kh P "_law_amount") (.str "_law_amount" 711) (.ref 396)),
 (DictEntry.mk (kh P "_law_names") (.str "_law_names" 717) (.ref 401)),
 (DictEntry.mk (kh P "_law_rooms") (.str "_law_rooms" 730) (.ref 408)),
 (DictEntry.mk (kh P "_law_ends") (.str "_law_ends" 742) (.ref 415)),
 (DictEntry.mk (kh P "_law_ring") (.str "_law_ring" 763) (.ref 422)),
 (DictEntry.mk (kh P "_law_parts") (.str "_law_parts" 778) (.ref 429)),
 (DictEntry.mk (kh P "_law_plus") (.str "_law_plus" 786) (.ref 436)),
 (DictEntry.mk (kh P "_law_minus") (.str "_law_minus" 794) (.ref 443)),
 (DictEntry.mk (kh P "_law_under") (.str "_law_under" 802) (.ref 450)),
 (DictEntry.mk (kh P "_law_ties") (.str "_law_ties" 816) (.ref 457)),
 (DictEntry.mk (kh P "_law_is_ratio") (.str "_law_is_ratio" 824) (.ref 464)),
 (DictEntry.mk (kh P "_law_gone") (.str "_law_gone" 834) (.ref 471)),
 (DictEntry.mk (kh P "_law_is_slide") (.str "_law_is_slide" 840) (.ref 476)),
 (DictEntry.mk (kh P "_law_slid") (.str "_law_slid" 856) (.ref 483)),
 (DictEntry.mk (kh P "_law_told") (.str "_law_told" 868) (.ref 490)),
 (DictEntry.mk (kh P "_law_due") (.str "_law_due" 880) (.ref 497)),
 (DictEntry.mk (kh P "_law_stepped") (.str "_law_stepped" 895) (.ref 504)),
 (DictEntry.mk (kh P "_law_bent") (.str "_law_bent" 906) (.ref 511)),
 (DictEntry.mk (kh P "law") (.str "law" 912) (.ref 516))]
noncomputable def PU:List Value:=[(.int 2 0),(.int 0 0),(.ref 20),(.int 9 0),(.int 0 0),(.ref 27),(.int 13 0),(.int 0 0),(.ref 47),(.int 15 0),(.int 0 0),(.ref 59),(.int 21 0),(.int 0 0),(.ref 78),(.int 26 0),(.int 0 0),(.ref 97),(.int 31 0),(.int 0 0),(.ref 116),(.int 33 0),(.int 0 0),(.ref 128),(.int 35 0),(.int 0 0),(.ref 140),(.int 40 0),(.int 0 0),(.ref 159),(.int 45 0),(.int 0 0),(.ref 178),(.int 48 0),(.int 0 0),(.ref 190),(.int 50 0),(.int 0 0),(.ref 197),(.int 52 0),(.int 0 0),(.ref 204),(.int 54 0),(.int 0 0),(.ref 211),(.int 58 0),(.int 0 0),(.ref 219),(.int 63 0),(.int 0 0),(.ref 226),(.int 65 0),(.int 0 0),(.ref 233),(.int 67 0),(.int 0 0),(.ref 240),(.int 69 0),(.int 0 0),(.ref 247),(.int 72 0),(.int 0 0),(.ref 254),(.int 74 0),(.int 0 0),(.ref 261),(.int 76 0),(.int 0 0),(.ref 268),(.int 82 0),(.int 0 0),(.ref 273),(.int 84 0),(.int 0 0),(.ref 280),(.int 93 0),(.int 0 0),(.ref 287),(.int 95 0),(.int 0 0),(.ref 292),(.int 103 0),(.int 0 0),(.ref 299),(.int 112 0),(.int 0 0),(.ref 306),(.int 118 0),(.int 0 0),(.ref 313),(.int 124 0),(.int 0 0),(.ref 318),(.int 127 0),(.int 0 0),(.ref 325),(.int 129 0),(.int 0 0),(.ref 332),(.int 131 0),(.int 0 0),(.ref 339),(.int 136 0),(.int 0 0),(.ref 346),(.int 138 0),(.int 0 0),(.ref 353),(.int 148 0),(.int 0 0),(.ref 360),(.int 152 0),(.int 0 0),(.ref 367),(.int 158 0),(.int 0 0),(.ref 374),(.int 163 0),(.int 0 0),(.ref 381),(.int 174 0),(.int 0 0),(.ref 388),(.int 182 0),(.int 0 0),(.ref 395),(.int 186 0),(.int 0 0),(.ref 400),(.int 192 0),(.int 0 0),(.ref 407),(.int 202 0),(.int 0 0),(.ref 414),(.int 212 0),(.int 0 0),(.ref 421),(.int 226 0),(.int 0 0),(.ref 428),(.int 233 0),(.int 0 0),(.ref 435),(.int 235 0),(.int 0 0),(.ref 442),(.int 237 0),(.int 0 0),(.ref 449),(.int 239 0),(.int 0 0),(.ref 456),(.int 248 0),(.int 0 0),(.ref 463),(.int 257 0),(.int 0 0),(.ref 470),(.int 261 0),(.int 0 0),(.ref 475),(.int 278 0),(.int 0 0),(.ref 482),(.int 287 0),(.int 0 0),(.ref 489),(.int 296 0),(.int 0 0),(.ref 496),(.int 305 0),(.int 0 0),(.ref 503),(.int 315 0),(.int 0 0),(.ref 510),(.int 333 0),(.int 0 0),(.ref 515)]
noncomputable def PV(P:Params):List (Nat×Obj):=[(12,sN (PU.take 0))]
noncomputable def T0(P:Params):BT:=OJ 15 (λb=>wb [12] P (PV P) ob b 0) 1 0 0
noncomputable abbrev S0(w:World)(os:OsState):SharedT:=⟨T0 w.params,15,iF,#[],⟨0,0,0,0⟩,187,os⟩
noncomputable def PX(P:Params):List (Nat×Obj):=[(3,lD P (.str "ringloads.errors" 198) ((yd P).take 2) 11),(12,sN (PU.take 6)),(38,(Obj.mk (.type "type") none (.cls (PySem.ClassData.mk "LoadError" [(.type "ValueError")] [(.ref 38),(.type "ValueError"),(.type "Exception"),(.type "BaseException"),(.type "object")] 37 "LoadError" true [] [] false none false)) #[(some (.ref 22)),none,(some (.str "LoadError" 200)),(some (.str "LoadError" 208)),(some (.builtin "ValueError.__new__")),(some (.bool true))]))]
noncomputable def T1(P:Params):BT:=OJ 42 (λb=>wb [3,12,38] P (PX P) ob b 1) 1 0 1
noncomputable abbrev S1(w:World)(os:OsState):SharedT:=⟨T1 w.params,42,iF,#[],⟨0,0,0,0⟩,226,os⟩
noncomputable def PY(P:Params):List (Nat×Obj):=[(3,lD P (.str "ringloads.errors" 198) ((yd P).take 3) 12),(12,sN (PU.take 9)),(38,(Obj.mk (.type "type") none (.cls (PySem.ClassData.mk "LoadError" [(.type "ValueError")] [(.ref 38),(.type "ValueError"),(.type "Exception"),(.type "BaseException"),(.type "object")] 37 "LoadError" true [] [(.ref 51)] false none false)) #[(some (.ref 22)),none,(some (.str "LoadError" 200)),(some (.str "LoadError" 208)),(some (.builtin "ValueError.__new__")),(some (.bool true))]))]
noncomputable def T2(P:Params):BT:=OJ 54 (λb=>wb [3,12,38] P (PY P) ob b 2) 1 0 2
noncomputable abbrev S2(w:World)(os:OsState):SharedT:=⟨T2 w.params,54,iF,#[],⟨0,0,0,0⟩,242,os⟩
noncomputable def PZ(P:Params):List (Nat×Obj):=[(3,lD P (.str "ringloads.errors" 198) ((yd P).take 4) 13),(12,sN (PU.take 12)),(38,(Obj.mk (.type "type") none (.cls (PySem.ClassData.mk "LoadError" [(.type "ValueError")] [(.ref 38),(.type "ValueError"),(.type "Exception"),(.type "BaseException"),(.type "object")] 37 "LoadError" true [] [(.ref 51),(.ref 70)] false none false)) #[(some (.ref 22)),none,(some (.str "LoadError" 200)),(some (.str "LoadError" 208)),(some (.builtin "ValueError.__new__")),(some (.bool true))]))]
noncomputable def T3(P:Params):BT:=OJ 73 (λb=>wb [3,12,38] P (PZ P) ob b 3) 1 0 3
noncomputable abbrev S3(w:World)(os:OsState):SharedT:=⟨T3 w.params,73,iF,#[],⟨0,0,0,0⟩,269,os⟩
noncomputable def P0(P:Params):List (Nat×Obj):=[(3,lD P (.str "ringloads.errors" 198) ((yd P).take 5) 14),(12,sN (PU.take 15)),(38,(Obj.mk (.type "type") none (.cls (PySem.ClassData.mk "LoadError" [(.type "ValueError")] [(.ref 38),(.type "ValueError"),(.type "Exception"),(.type "BaseException"),(.type "object")] 37 "LoadError" true [] [(.ref 51),(.ref 70),(.ref 89)] false none false)) #[(some (.ref 22)),none,(some (.str "LoadError" 200)),(some (.str "LoadError" 208)),(some (.builtin "ValueError.__new__")),(some (.bool true))]))]
noncomputable def T4(P:Params):BT:=OJ 92 (λb=>wb [3,12,38] P (P0 P) ob b 4) 1 0 4
noncomputable abbrev S4(w:World)(os:OsState):SharedT:=⟨T4 w.params,92,iF,#[],⟨0,0,0,0⟩,294,os⟩
noncomputable def P1(P:Params):List (Nat×Obj):=[(3,lD P (.str "ringloads.errors" 198) ((yd P).take 6) 15),(12,sN (PU.take 18)),(38,(Obj.mk (.type "type") none (.cls (PySem.ClassData.mk "LoadError" [(.type "ValueError")] [(.ref 38),(.type "ValueError"),(.type "Exception"),(.type "BaseException"),(.type "object")] 37 "LoadError" true [] [(.ref 51),(.ref 70),(.ref 89),(.ref 108)] false none false)) #[(some (.ref 22)),none,(some (.str "LoadError" 200)),(some (.str "LoadError" 208)),(some (.builtin "ValueError.__new__")),(some (.bool true))]))]
noncomputable def T5(P:Params):BT:=OJ 111 (λb=>wb [3,12,38] P (P1 P) ob b 5) 1 0 5
noncomputable abbrev S5(w:World)(os:OsState):SharedT:=⟨T5 w.params,111,iF,#[],⟨0,0,0,0⟩,319,os⟩
noncomputable def P2(P:Params):List (Nat×Obj):=[(3,lD P (.str "ringloads.errors" 198) ((yd P).take 7) 16),(12,sN (PU.take 21)),(38,(Obj.mk (.type "type") none (.cls (PySem.ClassData.mk "LoadError" [(.type "ValueError")] [(.ref 38),(.type "ValueError"),(.type "Exception"),(.type "BaseException"),(.type "object")] 37 "LoadError" true [] [(.ref 51),(.ref 70),(.ref 89),(.ref 108),(.ref 120)] false none false)) #[(some (.ref 22)),none,(some (.str "LoadError" 200)),(some (.str "LoadError" 208)),(some (.builtin "ValueError.__new__")),(some (.bool true))]))]
noncomputable def T6(P:Params):BT:=OJ 123 (λb=>wb [3,12,38] P (P2 P) ob b 6) 1 0 6
noncomputable abbrev S6(w:World)(os:OsState):SharedT:=⟨T6 w.params,123,iF,#[],⟨0,0,0,0⟩,335,os⟩
noncomputable def P4(P:Params):List (Nat×Obj):=[(3,lD P (.str "ringloads.errors" 198) ((yd P).take 8) 17),(12,sN (PU.take 24)),(38,(Obj.mk (.type "type") none (.cls (PySem.ClassData.mk "LoadError" [(.type "ValueError")] [(.ref 38),(.type "ValueError"),(.type "Exception"),(.type "BaseException"),(.type "object")] 37 "LoadError" true [] [(.ref 51),(.ref 70),(.ref 89),(.ref 108),(.ref 120),(.ref 132)] false none false)) #[(some (.ref 22)),none,(some (.str "LoadError" 200)),(some (.str "LoadError" 208)),(some (.builtin "ValueError.__new__")),(some (.bool true))]))]
noncomputable def T7(P:Params):BT:=OJ 135 (λb=>wb [3,12,38] P (P4 P) ob b 7) 1 0 7
noncomputable abbrev S7(w:World)(os:OsState):SharedT:=⟨T7 w.params,135,iF,#[],⟨0,0,0,0⟩,351,os⟩
noncomputable def P5(P:Params):List (Nat×Obj):=[(3,lD P (.str "ringloads.errors" 198) ((yd P).take 9) 18),(12,sN (PU.take 27)),(38,(Obj.mk (.type "type") none (.cls (PySem.ClassData.mk "LoadError" [(.type "ValueError")] [(.ref 38),(.type "ValueError"),(.type "Exception"),(.type "BaseException"),(.type "object")] 37 "LoadError" true [] [(.ref 51),(.ref 70),(.ref 89),(.ref 108),(.ref 120),(.ref 132),(.ref 151)] false none false)) #[(some (.ref 22)),none,(some (.str "LoadError" 200)),(some (.str "LoadError" 208)),(some (.builtin "ValueError.__new__")),(some (.bool true))]))]
noncomputable def T8(P:Params):BT:=OJ 154 (λb=>wb [3,12,38] P (P5 P) ob b 8) 1 0 8
noncomputable abbrev S8(w:World)(os:OsState):SharedT:=⟨T8 w.params,154,iF,#[],⟨0,0,0,0⟩,376,os⟩
noncomputable def P6(P:Params):List (Nat×Obj):=[(3,lD P (.str "ringloads.errors" 198) ((yd P).take 10) 19),(12,sN (PU.take 30)),(38,(Obj.mk (.type "type") none (.cls (PySem.ClassData.mk "LoadError" [(.type "ValueError")] [(.ref 38),(.type "ValueError"),(.type "Exception"),(.type "BaseException"),(.type "object")] 37 "LoadError" true [] [(.ref 51),(.ref 70),(.ref 89),(.ref 108),(.ref 120),(.ref 132),(.ref 151),(.ref 170)] false none false)) #[(some (.ref 22)),none,(some (.str "LoadError" 200)),(some (.str "LoadError" 208)),(some (.builtin "ValueError.__new__")),(some (.bool true))]))]
noncomputable def T9(P:Params):BT:=OJ 173 (λb=>wb [3,12,38] P (P6 P) ob b 9) 1 0 9
noncomputable abbrev S9(w:World)(os:OsState):SharedT:=⟨T9 w.params,173,iF,#[],⟨0,0,0,0⟩,401,os⟩
noncomputable def LY(P:Params):List (Nat×Obj):=[(3,lD P (.str "ringloads.ratios" 448) ((yd P).take 17) 26),(12,sN (PU.take 48))]
noncomputable def P7(P:Params):BT:=OJ 221 (λb=>wb [3,12] P (LY P) ob b 10) 1 0 10
noncomputable abbrev P8(w:World)(os:OsState):SharedT:=⟨P7 w.params,221,iF,#[],⟨0,0,0,0⟩,462,os⟩
noncomputable def LZ(P:Params):List (Nat×Obj):=[(3,lD P (.str "ringloads.slides" 561) ((yd P).take 30) 39),(12,sN (PU.take 81))]
noncomputable def P9(P:Params):BT:=OJ 294 (λb=>wb [3,12] P (LZ P) ob b 11) 1 0 11
noncomputable abbrev Qa(w:World)(os:OsState):SharedT:=⟨P9 w.params,294,iF,#[],⟨0,0,0,0⟩,563,os⟩
noncomputable def Ma(P:Params):List (Nat×Obj):=[(3,lD P (.str "law_ringloads_k34_no_slides" 669) ((yd P).take 42) 51),(12,sN (PU.take 117))]
noncomputable def Qb(P:Params):BT:=OJ 376 (λb=>wb [3,12] P (Ma P) ob b 12) 1 0 12
noncomputable abbrev Qc(w:World)(os:OsState):SharedT:=⟨Qb w.params,376,iF,#[],⟨0,0,0,0⟩,680,os⟩
noncomputable def Mb(P:Params):List (Nat×Obj):=[(3,lD P (.str "law_ringloads_k34_no_slides" 669) ((yd P).take 54) 63),(12,sN (PU.take 153))]
noncomputable def Qd(P:Params):BT:=OJ 458 (λb=>wb [3,12] P (Mb P) ob b 13) 1 0 13
noncomputable abbrev Qe(w:World)(os:OsState):SharedT:=⟨Qd w.params,458,iF,#[],⟨0,0,0,0⟩,817,os⟩
noncomputable def La(P:Params):List (Nat×Obj):=[(3,lD P (.str "law_ringloads_k34_no_slides" 669) ((yd P).take 63) 72),(12,sN (PU.take 180))]
noncomputable def Qf(P:Params):BT:=OJ 517 (λb=>wb [3,12] P (La P) ob b 14) 1 0 14
noncomputable abbrev Qg(w:World)(os:OsState):SharedT:=⟨Qf w.params,517,iF,#[],⟨0,0,0,0⟩,913,os⟩
noncomputable abbrev env:Env:={scope:=pr.main.scope,locals:=mainNs,globals:=mainNs,cells:=[],code:=.ref 13,frame:=some 14}
noncomputable abbrev cE:Code:=.body (behindTheImports pr) env
noncomputable abbrev B:List Frame:=[topFrame ⟨0,0,0,0⟩]
noncomputable def Ld:List Stmt:=(pr.main.body.drop 0).take 4
theorem Qh(w:World)(os:OsState):segRunT treeTable pr w 11 (some (.ref 6)) 1 267 (S0 w os) (piecesOf Ld env cE ⟨0,0,0,0⟩ B)=some (.next,S1 w os,cE,⟨9,0,12,39⟩):=ft (by kernel_rfl)
noncomputable def Lf:List Stmt:=(pr.main.body.drop 4).take 1
theorem Qi(w:World)(os:OsState):segRunT treeTable pr w 11 (some (.ref 6)) 1 214 (S1 w os) (piecesOf Lf env cE ⟨9,0,12,39⟩ B)=some (.next,S2 w os,cE,⟨13,0,14,8⟩):=ft (by kernel_rfl)
noncomputable def Lg:List Stmt:=(pr.main.body.drop 5).take 1
theorem Qj(w:World)(os:OsState):segRunT treeTable pr w 11 (some (.ref 6)) 1 248 (S2 w os) (piecesOf Lg env cE ⟨13,0,14,8⟩ B)=some (.next,S3 w os,cE,⟨15,0,20,28⟩):=ft (by kernel_rfl)
noncomputable def Lh:List Stmt:=(pr.main.body.drop 6).take 1
theorem Qk(w:World)(os:OsState):segRunT treeTable pr w 11 (some (.ref 6)) 1 246 (S3 w os) (piecesOf Lh env cE ⟨15,0,20,28⟩ B)=some (.next,S4 w os,cE,⟨21,0,25,28⟩):=ft (by kernel_rfl)
noncomputable def Li:List Stmt:=(pr.main.body.drop 7).take 1
theorem Ql(w:World)(os:OsState):segRunT treeTable pr w 11 (some (.ref 6)) 1 246 (S4 w os) (piecesOf Li env cE ⟨21,0,25,28⟩ B)=some (.next,S5 w os,cE,⟨26,0,30,28⟩):=ft (by kernel_rfl)
noncomputable def Lj:List Stmt:=(pr.main.body.drop 8).take 1
theorem Qm(w:World)(os:OsState):segRunT treeTable pr w 11 (some (.ref 6)) 1 214 (S5 w os) (piecesOf Lj env cE ⟨26,0,30,28⟩ B)=some (.next,S6 w os,cE,⟨31,0,32,8⟩):=ft (by kernel_rfl)
noncomputable def Lk:List Stmt:=(pr.main.body.drop 9).take 1
theorem Qn(w:World)(os:OsState):segRunT treeTable pr w 11 (some (.ref 6)) 1 214 (S6 w os) (piecesOf Lk env cE ⟨31,0,32,8⟩ B)=some (.next,S7 w os,cE,⟨33,0,34,8⟩):=ft (by kernel_rfl)
noncomputable def Ll:List Stmt:=(pr.main.body.drop 10).take 1
theorem Qo(w:World)(os:OsState):segRunT treeTable pr w 11 (some (.ref 6)) 1 246 (S7 w os) (piecesOf Ll env cE ⟨33,0,34,8⟩ B)=some (.next,S8 w os,cE,⟨35,0,39,28⟩):=ft (by kernel_rfl)
noncomputable def Ln:List Stmt:=(pr.main.body.drop 11).take 1
theorem Qp(w:World)(os:OsState):segRunT treeTable pr w 11 (some (.ref 6)) 1 246 (S8 w os) (piecesOf Ln env cE ⟨35,0,39,28⟩ B)=some (.next,S9 w os,cE,⟨40,0,44,22⟩):=ft (by kernel_rfl)
noncomputable def Jp:List Stmt:=(pr.main.body.drop 12).take 9
theorem Mc(w:World)(os:OsState):segRunT treeTable pr w 11 (some (.ref 6)) 1 392 (S9 w os) (piecesOf Jp env cE ⟨40,0,44,22⟩ B)=some (.next,P8 w os,cE,⟨58,0,62,44⟩):=ft (by kernel_rfl)
noncomputable def Jq:List Stmt:=(pr.main.body.drop 21).take 16
theorem Md(w:World)(os:OsState):segRunT treeTable pr w 11 (some (.ref 6)) 1 375 (P8 w os) (piecesOf Jq env cE ⟨58,0,62,44⟩ B)=some (.next,Qa w os,cE,⟨102,0,102,8⟩):=ft (by kernel_rfl)
noncomputable def Jr:List Stmt:=(pr.main.body.drop 37).take 13
theorem Me(w:World)(os:OsState):segRunT treeTable pr w 11 (some (.ref 6)) 1 387 (Qa w os) (piecesOf Jr env cE ⟨102,0,102,8⟩ B)=some (.next,Qc w os,cE,⟨158,0,162,115⟩):=ft (by kernel_rfl)
noncomputable def Js:List Stmt:=(pr.main.body.drop 50).take 12
theorem Mf(w:World)(os:OsState):segRunT treeTable pr w 11 (some (.ref 6)) 1 400 (Qc w os) (piecesOf Js env cE ⟨158,0,162,115⟩ B)=some (.next,Qe w os,cE,⟨239,0,247,25⟩):=ft (by kernel_rfl)
noncomputable def Jt:List Stmt:=(pr.main.body.drop 62).take 9
theorem Mg(w:World)(os:OsState):segRunT treeTable pr w 11 (some (.ref 6)) 1 291 (Qe w os) (piecesOf Jt env cE ⟨239,0,247,25⟩ B)=some (.next,Qg w os,cE,⟨333,0,352,15⟩):=ft (by kernel_rfl)
noncomputable abbrev H1(P:Params):Heap:=absHeap (Qf P) 517 iF
theorem pre(w:World)(os:OsState):topGo treeTable pr w 11 (some (.ref 6)) 12 ⟨boot_heap w.params,#[],boot_drawn,boot_toks,os⟩ (topStub pr)=some (⟨⟨⟨GP w.params⟩,iF⟩,#[],⟨0,0,0,0⟩,187,os⟩,⟨denote treeTable cE,cE,⟨0,0,0,0⟩,B⟩):=by rw[Jo];exact KC (by kernel_rfl)
theorem EK(w:World)(os:OsState):segRun treeTable pr w 11 (some (.ref 6)) 1 1 ⟨⟨⟨GP w.params⟩,iF⟩,#[],⟨0,0,0,0⟩,187,os⟩ (blockOf (behindTheImports pr) env cE ⟨0,0,0,0⟩ B)=some (.next,(S0 w os).abs,cE,⟨0,0,0,0⟩):=by kernel_rfl
theorem Mx(w:World)(os:OsState):topRun treeTable pr w 11 (some (.ref 6)) 2 (Qg w os).abs ⟨doneF .next,cE,⟨333,0,352,15⟩,B⟩=some ⟨H1 w.params,#[],⟨0,0,0,0⟩,913,os⟩:=Jn (by kernel_rfl)
theorem GR:behindTheImports pr=(Ld++(Lf++(Lg++(Lh++(Li++(Lj++(Lk++(Ll++(Ln++(Jp++(Jq++(Jr++(Js++(Jt++[])))))))))))))):=by kernel_rfl
theorem run(w:World)(os:OsState):topRun treeTable pr w 11 (some (.ref 6)) (12+(1+(267+(214+(248+(246+(246+(214+(214+(246+(246+(392+(375+(387+(400+(291+2)))))))))))))))) ⟨boot_heap w.params,#[],boot_drawn,boot_toks,os⟩ (topStub pr)=some ⟨H1 w.params,#[],⟨0,0,0,0⟩,913,os⟩ :=
 go_top (pre w os) (piece_block (EK w os) (GQ GR (piece_app (segRun_of (Qh w os)) (piece_app (segRun_of (Qi w os)) (piece_app (segRun_of (Qj w os)) (piece_app (segRun_of (Qk w os)) (piece_app (segRun_of (Ql w os)) (piece_app (segRun_of (Qm w os)) (piece_app (segRun_of (Qn w os)) (piece_app (segRun_of (Qo w os)) (piece_app (segRun_of (Qp w os)) (piece_app (segRun_of (Mc w os)) (piece_app (segRun_of (Md w os)) (piece_app (segRun_of (Me w os)) (piece_app (segRun_of (Mf w os)) (piece_app (segRun_of (Mg w os)) (piece_nil (Mx w os))))))))))))))))))
noncomputable abbrev q:Program:=view pr [70]
noncomputable def loose:List Str:=(["greatest_shared","LoadError","NoNumber","NoRing","NoSlide","NoTree","NoChange","NoPlace","NoString","NoText","NoName","is_whole","is_number_below","are_two_wholes","is_ratio","NOUGHT","lowest","plus","minus","under","lesser","lesser_place","greater_place","do_cross","parted_in","first_side_by_side","ON","BACK","is_way","ties_of","slid_by","is_slide","has_form_of_slide","share_no_tie","not_sent","most_slid","slid_once","part_behind","slides_for","greatest_slide","ways_apart","_law_begun","_law_take","_law_low","_law_amount","_law_names","_law_rooms","_law_ends","_law_ring","_law_parts","_law_plus","_law_minus","_law_under","_law_ties","_law_is_ratio","_law_gone","_law_is_slide","_law_slid","_law_told","_law_due","_law_stepped","_law_bent"]:List String).map Str.ofString
noncomputable def Kf(P:Params):Frag:=(3,((La P).getD 0 (0,default)).2)::[(2,boot_o_2 P),(20,(f1 P).getD 5 default),(21,(f1 P).getD 6 default),(22,(f3 P).getD 0 default),(23,(f3 P).getD 1 default),(24,(f3 P).getD 2 default),(25,(f3 P).getD 3 default),(26,(f3 P).getD 4 default),(27,(f3 P).getD 5 default),(28,(f3 P).getD 6 default),(29,(f3 P).getD 7 default),(30,(f3 P).getD 8 default),(31,(f3 P).getD 9 default),(32,(f3 P).getD 10 default),(33,(f3 P).getD 11 default),(34,(f3 P).getD 12 default),(35,(f3 P).getD 13 default),(36,(f3 P).getD 14 default),(37,(f3 P).getD 15 default),(38,(f3 P).getD 16 default),(39,(f3 P).getD 17 default),(40,(f3 P).getD 18 default),(41,(f3 P).getD 19 default),(42,(f4 P).getD 0 default),(43,(f4 P).getD 1 default),(44,(f4 P).getD 2 default),(45,(f4 P).getD 3 default),(46,(f4 P).getD 4 default),(47,(f4 P).getD 5 default),(48,(f4 P).getD 6 default),(49,(f4 P).getD 7 default),(50,(f4 P).getD 8 default),(51,(f4 P).getD 9 default),(52,(f4 P).getD 10 default),(53,(f4 P).getD 11 default),(54,(f5 P).getD 0 default),(55,(f5 P).getD 1 default),(56,(f5 P).getD 2 default),(57,(f5 P).getD 3 default),(58,(f5 P).getD 4 default),(59,(f5 P).getD 5 default),(60,(f5 P).getD 6 default),(61,(f5 P).getD 7 default),(62,(f5 P).getD 8 default),(63,(f5 P).getD 9 default),(64,(f5 P).getD 10 default),(65,(f5 P).getD 11 default),(66,(f5 P).getD 12 default),(67,(f5 P).getD 13 default),(68,(f5 P).getD 14 default),(69,(f5 P).getD 15 default),(70,(f5 P).getD 16 default),(71,(f5 P).getD 17 default),(72,(f5 P).getD 18 default),(73,(f6 P).getD 0 default),(74,(f6 P).getD 1 default),(75,(f6 P).getD 2 default),(76,(f6 P).getD 3 default),(77,(f6 P).getD 4 default),(78,(f6 P).getD 5 default),(79,(f6 P).getD 6 default),(80,(f6 P).getD 7 default),(81,(f6 P).getD 8 default),(82,(f6 P).getD 9 default),(83,(f6 P).getD 10 default),(84,(f6 P).getD 11 default),(85,(f6 P).getD 12 default),(86,(f6 P).getD 13 default),(87,(f6 P).getD 14 default),(88,(f6 P).getD 15 default),(89,(f6 P).getD 16 default),(90,(f6 P).getD 17 default),(91,(f6 P).getD 18 default),(92,(f7 P).getD 0 default),(93,(f7 P).getD 1 default),(94,(f7 P).getD 2 default),(95,(f7 P).getD 3 default),(96,(f7 P).getD 4 default),(97,(f7 P).getD 5 default),(98,(f7 P).getD 6 default),(99,(f7 P).getD 7 default),(100,(f7 P).getD 8 default),(101,(f7 P).getD 9 default),(102,(f7 P).getD 10 default),(103,(f7 P).getD 11 default),(104,(f7 P).getD 12 default),(105,(f7 P).getD 13 default),(106,(f7 P).getD 14 default),(107,(f7 P).getD 15 default),(108,(f7 P).getD 16 default),(109,(f7 P).getD 17 default),(110,(f7 P).getD 18 default),(111,(f8 P).getD 0 default),(112,(f8 P).getD 1 default),(113,(f8 P).getD 2 default),(114,(f8 P).getD 3 default),(115,(f8 P).getD 4 default),(116,(f8 P).getD 5 default),(117,(f8 P).getD 6 default),(118,(f8 P).getD 7 default),(119,(f8 P).getD 8 default),(120,(f8 P).getD 9 default),(121,(f8 P).getD 10 default),(122,(f8 P).getD 11 default),(123,(f9 P).getD 0 default),(124,(f9 P).getD 1 default),(125,(f9 P).getD 2 default),(126,(f9 P).getD 3 default),(127,(f9 P).getD 4 default),(128,(f9 P).getD 5 default),(129,(f9 P).getD 6 default),(130,(f9 P).getD 7 default),(131,(f9 P).getD 8 default),(132,(f9 P).getD 9 default),(133,(f9 P).getD 10 default),(134,(f9 P).getD 11 default),(135,(OK P).getD 0 default),(136,(OK P).getD 1 default),(137,(OK P).getD 2 default),(138,(OK P).getD 3 default),(139,(OK P).getD 4 default),(140,(OK P).getD 5 default),(141,(OK P).getD 6 default),(142,(OK P).getD 7 default),(143,(OK P).getD 8 default),(144,(OK P).getD 9 default),(145,(OK P).getD 10 default),(146,(OK P).getD 11 default),(147,(OK P).getD 12 default),(148,(OK P).getD 13 default),(149,(OK P).getD 14 default),(150,(OK P).getD 15 default),(151,(OK P).getD 16 default),(152,(OK P).getD 17 default),(153,(OK P).getD 18 default),(154,(OL P).getD 0 default),(155,(OL P).getD 1 default),(156,(OL P).getD 2 default),(157,(OL P).getD 3 default),(158,(OL P).getD 4 default),(159,(OL P).getD 5 default),(160,(OL P).getD 6 default),(161,(OL P).getD 7 default),(162,(OL P).getD 8 default),(163,(OL P).getD 9 default),(164,(OL P).getD 10 default),(165,(OL P).getD 11 default),(166,(OL P).getD 12 default),(167,(OL P).getD 13 default),(168,(OL P).getD 14 default),(169,(OL P).getD 15 default),(170,(OL P).getD 16 default),(171,(OL P).getD 17 default),(172,(OL P).getD 18 default),(173,(OM P).getD 0 default),(174,(OM P).getD 1 default),(175,(OM P).getD 2 default),(176,(OM P).getD 3 default),(177,(OM P).getD 4 default),(178,(OM P).getD 5 default),(179,(OM P).getD 6 default),(180,(OM P).getD 7 default),(181,(OM P).getD 8 default),(182,(OM P).getD 9 default),(183,(OM P).getD 10 default),(184,(OM P).getD 11 default),(190,(OO P).getD 5 default),(191,(OO P).getD 6 default),(197,(OP P).getD 5 default),(198,(OP P).getD 6 default),(204,(OQ P).getD 5 default),(205,(OQ P).getD 6 default),(211,(OR P).getD 5 default),(212,(OR P).getD 6 default),(213,(OS P).getD 0 default),(219,(OT P).getD 5 default),(220,(OT P).getD 6 default),(226,(OU P).getD 5 default),(227,(OU P).getD 6 default),(233,(OV P).getD 5 default),(234,(OV P).getD 6 default),(240,(OW P).getD 5 default),(241,(OW P).getD 6 default),(247,(OX P).getD 5 default),(248,(OX P).getD 6 default),(254,(OY P).getD 5 default),(255,(OY P).getD 6 default),(261,(OZ P).getD 5 default),(262,(OZ P).getD 6 default),(268,(O0 P).getD 5 default),(269,(O0 P).getD 6 default),(273,(O1 P).getD 3 default),(274,(O1 P).getD 4 default),(280,(O2 P).getD 5 default),(281,(O2 P).getD 6 default),(287,(O3 P).getD 5 default),(288,(O3 P).getD 6 default),(292,(O4 P).getD 3 default),(293,(O4 P).getD 4 default),(299,(O5 P).getD 5 default),(300,(O5 P).getD 6 default),(306,(O6 P).getD 5 default),(307,(O6 P).getD 6 default),(313,(O7 P).getD 5 default),(314,(O7 P).getD 6 default),(318,(O8 P).getD 3 default),(319,(O8 P).getD 4 default),(325,(O9 P).getD 5 default),(326,(O9 P).getD 6 default),(332,(Pa P).getD 5 default),(333,(Pa P).getD 6 default),(339,(Pb P).getD 5 default),(340,(Pb P).getD 6 default),(346,(Pc P).getD 5 default),(347,(Pc P).getD 6 default),(353,(Pd P).getD 5 default),(354,(Pd P).getD 6 default),(360,(Pe P).getD 5 default),(361,(Pe P).getD 6 default),(367,(Pf P).getD 5 default),(368,(Pf P).getD 6 default),(374,(Pg P).getD 5 default),(375,(Pg P).getD 6 default),(381,(Ph P).getD 5 default),(382,(Ph P).getD 6 default),(388,(Pi P).getD 5 default),(389,(Pi P).getD 6 default),(395,(Pj P).getD 5 default),(396,(Pj P).getD 6 default),(400,(Pk P).getD 3 default),(401,(Pk P).getD 4 default),(407,(Pl P).getD 5 default),(408,(Pl P).getD 6 default),(414,(Pn P).getD 5 default),(415,(Pn P).getD 6 default),(421,(Po P).getD 5 default),(422,(Po P).getD 6 default),(428,(Pp P).getD 5 default),(429,(Pp P).getD 6 default),(435,(Pq P).getD 5 default),(436,(Pq P).getD 6 default),(442,(Pu P).getD 5 default),(443,(Pu P).getD 6 default),(449,(Pv P).getD 5 default),(450,(Pv P).getD 6 default),(456,(Pw P).getD 5 default),(457,(Pw P).getD 6 default),(463,(Px P).getD 5 default),(464,(Px P).getD 6 default),(470,(Py P).getD 5 default),(471,(Py P).getD 6 default),(475,(Pz P).getD 3 default),(476,(Pz P).getD 4 default),(482,(PD P).getD 5 default),(483,(PD P).getD 6 default),(489,(PF P).getD 5 default),(490,(PF P).getD 6 default),(496,(PH P).getD 5 default),(497,(PH P).getD 6 default),(503,(PJ P).getD 5 default),(504,(PJ P).getD 6 default),(510,(PN P).getD 5 default),(511,(PN P).getD 6 default),(515,(PP P).getD 3 default),(516,(PP P).getD 4 default)]
noncomputable abbrev as:List Addr:=[3,2,20,21,22,23,24,25,26,27,28,29,30,31,32,33,34,35,36,37,38,39,40,41,42,43,44,45,46,47,48,49,50,51,52,53,54,55,56,57,58,59,60,61,62,63,64,65,66,67,68,69,70,71,72,73,74,75,76,77,78,79,80,81,82,83,84,85,86,87,88,89,90,91,92,93,94,95,96,97,98,99,100,101,102,103,104,105,106,107,108,109,110,111,112,113,114,115,116,117,118,119,120,121,122,123,124,125,126,127,128,129,130,131,132,133,134,135,136,137,138,139,140,141,142,143,144,145,146,147,148,149,150,151,152,153,154,155,156,157,158,159,160,161,162,163,164,165,166,167,168,169,170,171,172,173,174,175,176,177,178,179,180,181,182,183,184,190,191,197,198,204,205,211,212,213,219,220,226,227,233,234,240,241,247,248,254,255,261,262,268,269,273,274,280,281,287,288,292,293,299,300,306,307,313,314,318,319,325,326,332,333,339,340,346,347,353,354,360,361,367,368,374,375,381,382,388,389,395,396,400,401,407,408,414,415,421,422,428,429,435,436,442,443,449,450,456,457,463,464,470,471,475,476,482,483,489,490,496,497,503,504,510,511,515,516]
noncomputable abbrev Hk:Hook:=kHook Kf as (λ_=>by kernel_rfl)
noncomputable abbrev Xt:Shared→Bool:=fun s=>xlAt q [] s && recOk (RowW.records PySem.Challenge.rw_ringloads_k34_no_slides.row.toRowW) s
theorem size (w:World):((boot_heap w.params).isNs mainGlobals && (#[]:Array GenState).size == 0,(boot_heap w.params).objs.size,(boot_heap w.params).nsMap mainGlobals "__annotations__")=(true,11,some (.ref 6)):=by kernel_rfl
theorem KD(w:World)(os:OsState):(staticsOk (importedModules pr.main.body) (boot_heap w.params) (H1 w.params) && namesBound pr (H1 w.params) && gensDone ⟨H1 w.params,#[],⟨0,0,0,0⟩,913,os⟩ && laidKept (boot_heap w.params) (H1 w.params))=true:=by kernel_rfl
theorem KF(w:World)(os:OsState):openSeen q loose (importedModules pr.main.body) Xt true ⟨H1 w.params,#[],⟨0,0,0,0⟩,913,os⟩=openGood q loose:=by rw[Fast.te4187177175401517315];kernel_rfl
theorem KG(w:World)(os:OsState):Hk.obs ⟨H1 w.params,#[],⟨0,0,0,0⟩,913,os⟩=Hk.val w:=by kernel_rfl
theorem Ju:opening pr=plainProg pr.main.scope.names:=by kernel_rfl
theorem left:LeftO pr q loose Xt Hk.obs Hk.val 8644:=LeftO.of_pieces (M:=(12+(1+(267+(214+(248+(246+(246+(214+(214+(246+(246+(392+(375+(387+(400+(291+2))))))))))))))))) (boot_open Ju (by decide) (λs=>by kernel_rfl)) size run (by decide +kernel) (λw=>funext λos=>looks_pair (KD w os) (looks_pair (KF w os) (KG w os)))
end Hd
namespace My
open PySem L2
local macro_rules | `(tactic| walk_at "w")=>do
 let ids:=("tR NH xA tV tY tX AM tZ t5 K4 N4 NZ yS NY C2 Gh C3 CL Ay AC HR Ct Fm HU Cu Fn CD Ii FI FU Gi C4 Iq Kc FV Ir Kd FZ Kg HN HP Cr z6 FQ Ip CK FR Aw yQ CN Ke AB q8 nc aV Nk aO ax Nj ak lg wC bq bS vt bN aP bp a8 ao jE aB Na Cy nH w7 cz fF nG Cv Nh mv J5 z8 HV bc eQ yH qQ FF FE NH tR eS CM FT Ax List.all_cons List.all_nil Bool.and_true Bool.true_and yG JI vA vw tH Fq zl yP FN qh vN vO yU b8 uc AX Di gC bA tU iD bG pP eB yB qM Fs G8 HY oK yC Ab Dc Dd De Df Dg Gn Gp Gq Gr IV IW Gv Gw Kq Kr A2 A3 Gy Au xm Eh xJ A5 AU xK qo AW IX Dh List.length_map AV AY AZ A0 Dk yV A1 vP vQ vR ud vS rj Dl Gs yD yF yE Ak oM qO fK Dm Gz Dn Do Dp Dq yW ue uf A4 GA Ka xh tN beq_self_eq_true String.reduceBEq String.reduceEq reduceCtorEq xq yI oO cA fZ bu yM Ar yN iV FL Ij List.getElem?_cons_zero List.getElem?_cons_succ List.set_cons_zero List.set_cons_succ List.cons_append List.nil_append List.replicate_succ List.replicate_zero List.map_cons List.map_nil List.drop_succ_cons List.drop_zero Option.getD_some true_and decide_eq_true_eq Bool.not_eq_true' decide_eq_false_iff_not ite_true ite_false Bool.false_eq_true Bool.true_eq_false if_true if_false List.length_cons List.length_nil Nat.reduceAdd Nat.reduceSub t7 t8 C7 IT Kn LJ LK LM Option.some.injEq exists_eq_left' exists_eq_left".splitOn " ").toArray.map fun s=>Lean.mkIdent ((s.splitOn ".").foldl Lean.Name.mkStr Lean.Name.anonymous)
 `(tactic| try simp only [$[$ids:ident],*])
local macro_rules | `(tactic| walk_at "o")=>`(tactic| first | exact Or.inl rfl | exact Or.inr rfl)
noncomputable abbrev dh:Stmt:=Hd.top 1
noncomputable abbrev mF:List Str:=["one","other","rest"]
noncomputable abbrev mG:Stmt:=Hd.top 14
noncomputable abbrev y2:List Str:=["thing"]
noncomputable abbrev di:Stmt:=Hd.top 15
noncomputable abbrev mH:List Str:=["thing","many"]
noncomputable abbrev d7:Stmt:=Hd.top 16
noncomputable abbrev nN:List Str:=["thing"]
noncomputable abbrev mI:Stmt:=Hd.top 17
noncomputable abbrev y3:List Str:=["thing"]
noncomputable abbrev rN:Stmt:=Hd.top 20
noncomputable abbrev DJ:List Str:=["top","bottom","shared"]
noncomputable abbrev Bt:Stmt:=Hd.top 21
noncomputable abbrev Jv:List Str:=["one","other"]
noncomputable abbrev wc:Stmt:=Hd.top 22
noncomputable abbrev GS:List Str:=["one","other"]
noncomputable abbrev wd:Stmt:=Hd.top 23
noncomputable abbrev GT:List Str:=["one","other"]
noncomputable abbrev rO:Stmt:=Hd.top 24
noncomputable abbrev DK:List Str:=["one","other"]
noncomputable abbrev fM:Stmt:=Hd.top 26
noncomputable abbrev pT:List Str:=["ring","k"]
noncomputable abbrev eU:Stmt:=Hd.top 27
noncomputable abbrev o6:List Str:=["ring","k"]
noncomputable abbrev mJ:Stmt:=Hd.top 28
noncomputable abbrev y4:List Str:=["ring","k","l","low","high","first","last"]
noncomputable abbrev gH:Stmt:=Hd.top 29
noncomputable abbrev o7:List Str:=["ring","sending"]
noncomputable abbrev cF:Stmt:=Hd.top 30
noncomputable abbrev jO:List Str:=["ring","some","number","k","l"]
noncomputable abbrev rP:Stmt:=Hd.top 34
noncomputable abbrev DL:List Str:=["thing"]
noncomputable abbrev i3:Stmt:=Hd.top 35
noncomputable abbrev o8:List Str:=["ring","k","way","places","one","other"]
noncomputable abbrev gI:Stmt:=Hd.top 44
noncomputable abbrev rQ:List Str:=["part","way","amount"]
noncomputable abbrev ki:Stmt:=Hd.top 43
noncomputable abbrev we:List Str:=["sending","slide","slid"]
noncomputable abbrev dH:Stmt:=Hd.top 40
noncomputable abbrev jU:List Str:=["ring","k","way","l","other","taken"]
noncomputable abbrev cQ:Stmt:=Hd.top 39
noncomputable abbrev kj:List Str:=["thing","asks"]
noncomputable abbrev mK:Stmt:=Hd.top 41
noncomputable abbrev y6:List Str:=["ring","sending","k","way"]
noncomputable abbrev km:Stmt:=Hd.top 42
noncomputable abbrev wg:List Str:=["ring","sending","slide"]
noncomputable abbrev mL:Stmt:=Hd.top 38
noncomputable abbrev y7:List Str:=["ring","sending","thing"]
noncomputable abbrev o9:Stmt:=Hd.top 37
noncomputable abbrev Bu:List Str:=["ring","sending","thing","slid","number","slide"]
noncomputable abbrev i4:Stmt:=Hd.top 47
noncomputable abbrev uz:List Str:=["ring","k","l","ways"]
noncomputable abbrev d8:Stmt:=Hd.top 46
noncomputable abbrev nO:List Str:=["ring","sending","k","l","ways","slide"]
noncomputable abbrev i5:Stmt:=Hd.top 45
noncomputable abbrev uA:List Str:=["ring","sending","slid","slides","pair","slide"]
noncomputable abbrev i6:Stmt:=Hd.top 49
noncomputable abbrev uB:List Str:=["_law_script","_law_k","_law_cell"]
noncomputable abbrev ko:Stmt:=Hd.top 50
noncomputable abbrev wj:List Str:=["_law_state","_law_many","_law_digit","_law_drawn","_law_turn"]
noncomputable abbrev dU:Stmt:=Hd.top 53
noncomputable abbrev i7:List Str:=["_law_state","_law_many","_law_letters","_law_base","_law_at","_law_turn"]
noncomputable abbrev mM:Stmt:=Hd.top 51
noncomputable abbrev y9:List Str:=["_law_top","_law_bottom","_law_one","_law_share"]
noncomputable abbrev gJ:Stmt:=Hd.top 52
noncomputable abbrev rR:List Str:=["_law_state","_law_least","_law_kind","_law_bottom","_law_top"]
noncomputable abbrev i8:Stmt:=Hd.top 54
noncomputable abbrev uC:List Str:=["_law_state","_law_ties_here","_law_kind","_law_alike","_law_one","_law_rooms_here","_law_more"]
noncomputable abbrev kq:Stmt:=Hd.top 55
noncomputable abbrev wm:List Str:=["_law_state","_law_shape","_law_places","_law_k","_law_one","_law_other"]
noncomputable abbrev kr:Stmt:=Hd.top 56
noncomputable abbrev wo:List Str:=["_law_script","_law_at","_law_most","_law_count","_law_state","_law_places","_law_many","_law_kinds","_law_shape","_law_names_here","_law_rooms_here","_law_asks","_law_k","_law_one","_law_other"]
noncomputable abbrev i9:Stmt:=Hd.top 57
noncomputable abbrev uD:List Str:=["_law_state","_law_ring_here","_law_parts_here","_law_name","_law_one","_law_other","_law_size","_law_way","_law_share"]
noncomputable abbrev eV:Stmt:=Hd.top 62
noncomputable abbrev pd:List Str:=["_law_thing","_law_part"]
noncomputable abbrev ku:Stmt:=Hd.top 58
noncomputable abbrev wq:List Str:=["_law_one","_law_other"]
noncomputable abbrev ja:Stmt:=Hd.top 59
noncomputable abbrev uE:List Str:=["_law_one","_law_other"]
noncomputable abbrev fN:Stmt:=Hd.top 68
noncomputable abbrev pU:List Str:=["_law_state","_law_slide","_law_k","_law_way","_law_l","_law_other","_law_amount_here","_law_step","_law_some"]
noncomputable abbrev kx:Stmt:=Hd.top 69
noncomputable abbrev wu:List Str:=["_law_state","_law_slides","_law_way","_law_at","_law_some"]
noncomputable abbrev ky:Stmt:=Hd.top 66
noncomputable abbrev wx:List Str:=["_law_ring_here","_law_sending","_law_thing","_law_found","e","_law_other"]
noncomputable abbrev kA:Stmt:=Hd.top 65
noncomputable abbrev wy:List Str:=["_law_sending","_law_slide","_law_k","_law_way","_law_l","_law_other","_law_amount_here","_law_made","_law_one","_law_word"]
noncomputable abbrev kB:Stmt:=Hd.top 61
noncomputable abbrev wz:List Str:=["_law_ring_here","_law_k","_law_way","_law_name","_law_one","_law_other","_law_size","_law_ties_here"]
noncomputable abbrev jb:Stmt:=Hd.top 60
noncomputable abbrev uF:List Str:=["_law_one","_law_other"]
noncomputable abbrev kC:Stmt:=Hd.top 63
noncomputable abbrev wB:List Str:=["_law_ring_here","_law_sending","_law_k","_law_way"]
noncomputable abbrev cW:Stmt:=Hd.top 64
noncomputable abbrev jc:List Str:=["_law_ring_here","_law_sending","_law_thing","_law_k","_law_way","_law_l","_law_other","_law_amount_here","_law_one","_law_word","_law_rest","_law_ties_here"]
noncomputable abbrev mN:Stmt:=Hd.top 67
noncomputable abbrev zb:List Str:=["_law_ring_here","_law_sending","_law_thing","_law_here","_law_number","_law_one"]
noncomputable abbrev Bv:Stmt:=Hd.top 70
noncomputable abbrev Jw:List Str:=["_law_script","_law_ring_here","_law_places","_law_asks","_law_sending","_law_slides","_law_kept","_law_first","_law_k","_law_state","_law_thing","_law_held"]
def cg:FS:=λls post=>∃a b:Int,ls=[.d (.int a),.d (.int b)]/\post (.d (.int (Int.gcd a b))) ls
def kD:W Fl:=(aV (bq 2 (ax eB (ak 0) (ak 1)))
  (aV (bq 0 (ak 1))
  (bq 1 (ak 2))))
def dj:W Fl:=(aV (oH (aO (ax yC (ak 1) (wC (.int 0)))) kD)
  (bS (a8 yD (ao (ak 0) aB))))
theorem kE:∀ls post,ls.length=2->cg ls post->dj (ls++List.replicate 1 .un) (aY ls post):=by
 rintro ls post - ⟨a,b,rfl,h⟩;unfold dj;walk_at "w";refine⟨λn ρ=>∃x y r,ρ=[.d (.int x),.d (.int y),r]/\Int.gcd x y=Int.gcd a b/\n=y.natAbs,⟨_,a,b,_,rfl,rfl,rfl⟩,?_⟩;rintro n ρ ⟨x,y,r,rfl,hg,rfl⟩;walk_at "w";split
 ·
  rename_i hy;have hy:y≠0:=by simpa using hy
  exact⟨hy,_,jT x hy,y,x.fmod y,_,rfl,by rw[xi];exact hg,rfl⟩
 ·
  rename_i hy;have hy:y=0:=by simpa using hy
  subst hy;refine⟨_,aj (aj aL),?_⟩
  have e:(if x<0 then -x else x)=((Int.gcd a b:Nat):Int):=by rw[← hg,Int.gcd_zero_right];split<;>omega
  rw[e];exact h
def eW:FS:=λls post=>(∃i:Int,ls=[.d (.int i)]/\post (.d (.bl true)) ls)∨∃d:D,ls=[.d d]/\(∀i,d≠.int i)/\post (.d (.bl false)) ls
def jI:W Fl:=(bS (mv (Nj (fK "int") (ak 0)) (z8 (aO (Nj (fK "bool") (ak 0))))))
theorem uG:∀ls post,ls.length=1->eW ls post->jI (ls++List.replicate 0 .un) (aY ls post):=by
 rintro ls post-(⟨i,rfl,h⟩|⟨d,rfl,hd,h⟩)
 · unfold jI;walk_at "w";exact⟨_,aj aL,h⟩
 ·
  unfold jI
  cases d with
  |int i=>exact absurd rfl (hd i)
  |_=>walk_at "w"; exact⟨_,aj aL,h⟩
def cj:FS:=λls post=>∃(d:D)(n:Int),ls=[.d d,.d (.int n)]/\post (.d (.bl (jN d n))) ls
def du:W Fl:=(bS (mv (aP eW (ao (ak 0) aB)) (qh Fs qM (wC (.int 0)) (ak 0) (ak 1))))
theorem kF:∀ls post,ls.length=2->cj ls post->du (ls++List.replicate 0 .un) (aY ls post):=by
 rintro ls post - ⟨d,n,rfl,h⟩;unfold du;by_cases hd:∃i,d=.int i
 ·
  obtain⟨i,rfl⟩:=hd;have h:post (.d (.bl (decide (0≤i/\i<n)))) [.d (.int i),.d (.int n)]:=h;walk_at "w";refine .inl ⟨i,rfl,?_⟩;walk_at "w";by_cases c:0≤i
  ·
   rw[if_pos c];have e:decide (0≤i/\i<n)=decide (i<n):=by rw[decide_eq_decide];omega
   rw[e]at h;exact⟨_,aj (aj aL),h⟩
  · rw[if_neg c];have e:decide (0≤i/\i<n)=false:=decide_eq_false (by omega);rw[e]at h;exact⟨_,aj (aj aL),h⟩
 ·
  have e:jN d n=false:=by
   unfold jN;split
   · exact absurd ⟨_,rfl⟩ hd
   · rfl
  rw[e]at h;walk_at "w";refine .inr ⟨d,rfl,λi e=>hd ⟨i,e⟩,?_⟩;walk_at "w";exact⟨_,aj (aj aL),h⟩
noncomputable def Mh:D->Bool
 |.tup [.int _,.int _]=>true
 |_=>false
def dz:FS:=λls post=>(∃i j:Int,ls=[.d (.tup [.int i,.int j])]/\post (.d (.bl true)) ls)∨∃d:D,ls=[.d d]/\(∀i j,d≠.tup [.int i,.int j])/\post (.d (.bl false)) ls
def cM:W Fl:=(bS (mv (Nj (fK "tuple") (ak 0)) (mv (ax oK (a8 df (ao (ak 0) aB)) (wC (.int 2))) (mv (aP eW (ao (ax aN (ak 0) (wC (.int 0))) aB)) (aP eW (ao (ax aN (ak 0) (wC (.int 1))) aB))))))
theorem lE:∀ls post,ls.length=1->dz ls post->cM (ls++List.replicate 0 .un) (aY ls post):=by
 rintro ls post-(⟨i,j,rfl,h⟩|⟨d,rfl,hd,h⟩)
 · unfold cM;walk_at "w";refine .inl ⟨_,rfl,?_⟩;walk_at "w";refine .inl ⟨_,rfl,?_⟩;walk_at "w";exact⟨_,aj aL,h⟩
 ·
  unfold cM;have Mx:aY [.d d] post (.rt (.d (.bl false))) [.d d]:=⟨_,aj aL,h⟩;by_cases ht:∃xs,d=.tup xs
  ·
   obtain⟨xs,rfl⟩:=ht;by_cases hl:xs.length=2
   ·
    obtain⟨x,y,rfl⟩:∃x y,xs=[x,y]:=by rcases xs with _|⟨x,_|⟨y,_|⟨z,r⟩⟩⟩<;>simp at hl;exact⟨_,_,rfl⟩
    have wh:∀z:D,(∃i,z=.int i)∨(∀i,z≠.int i):=λz=>by cases z<;>simp
    walk_at "w";rcases wh x with⟨i,rfl⟩|hx
    ·
     refine .inl ⟨_,rfl,?_⟩;rcases wh y with⟨j,rfl⟩|hy
     · exact absurd rfl (hd i j)
     · walk_at "w";refine .inr ⟨_,rfl,hy,?_⟩;walk_at "w";exact Mx
    · refine .inr ⟨_,rfl,hx,?_⟩;walk_at "w";exact Mx
   ·
    walk_at "w";have e:¬((xs.length:Int)=2):=by omega
    simp only[e,decide_false];exact Mx
  ·
   have ei:jS "tuple" d=false:=by
    cases d<;>first
     |exact absurd ⟨_,rfl⟩ ht
     |rfl
   walk_at "w";rw[ei];walk_at "w";exact Mx
def kG:FS:=λls post=>∃d:D,ls=[.d d]/\post (.d (.bl (pM d))) ls
def jJ:W Fl:=(bS (mv (aP dz (ao (ak 0) aB)) (mv (ax HY (ax aN (ak 0) (wC (.int 1))) (wC (.int 1))) (ax oK (aP cg (ao (ax aN (ak 0) (wC (.int 0))) (ao (ax aN (ak 0) (wC (.int 1))) aB))) (wC (.int 1))))))
theorem uH:∀ls post,ls.length=1->kG ls post->jJ (ls++List.replicate 0 .un) (aY ls post):=by
 rintro ls post - ⟨d,rfl,h⟩;by_cases hd:∃i j,d=.tup [.int i,.int j]
 ·
  obtain⟨i,j,rfl⟩:=hd;unfold jJ;walk_at "w";refine .inl ⟨_,_,rfl,?_⟩;walk_at "w";have e:pM (.tup [.int i,.int j])=(decide (1≤j) && decide ((Int.gcd i j:Int)=1)):=rfl;rw[e]at h;split
  · rename_i hj;refine⟨_,_,rfl,?_⟩;walk_at "w";have hj':(1:Int)≤j:=hj;rw[decide_eq_true hj',Bool.true_and]at h;exact⟨_,aj aL,h⟩
  · rename_i hj;have hj':¬(1:Int)≤j:=hj;rw[decide_eq_false hj',Bool.false_and]at h;exact⟨_,aj aL,h⟩
 · have hn:∀i j,d≠.tup [.int i,.int j]:=λi j e=>hd ⟨i,j,e⟩;rw[mD hn]at h;unfold jJ;walk_at "w";refine .inr ⟨_,rfl,hn,?_⟩;walk_at "w";exact⟨_,aj aL,h⟩
def lF:FS:=λls post=>∃t b:Int,ls=[.d (.int t),.d (.int b)]/\b≠0/\b.natAbs<2^9000/\post (.d (ND (Rat.divInt t b))) ls
def rS:W Fl:=(aV (bq 2 (bc (aP cg (ao (ak 0) (ao (ak 1) aB)))))
  (aV (Nk (aO (ax qM (ak 1) (wC (.int 0)))) (bq 2 (Nj Ab (ak 2))) bN)
  (bS (cz (ao (ax pP (ak 0) (ak 2)) (ao (ax pP (ak 1) (ak 2)) aB))))))
theorem zd:∀ls post,ls.length=2->lF ls post->rS (ls++List.replicate 1 .un) (aY ls post):=by
 rintro ls post - ⟨t,b,rfl,hb,hz,h⟩;unfold rS;walk_at "w";refine⟨t,b,rfl,?_⟩;walk_at "w";have h1:=xj (t:=t) hb;have h2:=Nat.lt_of_le_of_lt (xk (t:=t) hb) hz
 have Mx:∀{g:Int}{ρ:Ev},g=cD t b->g≠0/\g.natAbs<2^9000/\g≠0/\g.natAbs<2^9000/\2≤sizeLine/\aY [.d (.int t),.d (.int b)] post (.rt (.d (.tup [.int (t.fdiv g),.int (b.fdiv g)]))) ρ:=λ{g ρ} e=>by
  have e1:g≠0:=by rw[e];exact h1
  have e2:g.natAbs<2^9000:=by rw[e];exact h2
  refine⟨e1,e2,e1,e2,by decide,_,aj (aj aL),?_⟩;rw[xI hb e];exact h
 split
 · rename_i hlt;exact Mx (by simp[cD,hlt])
 · rename_i hlt;exact Mx (by simp[cD,hlt])
def rT:FS:=λls post=>∃p q:Rat,ls=[.d (ND p),.d (ND q)]/\RB 400000 p/\RB 400000 q/\p.den*q.den<2^9000/\post (.d (ND (p+q))) ls
def Bw:W Fl:=(bS (aP lF (ao (bc (ax bA (ax bG (ax aN (ak 0) (wC (.int 0))) (ax aN (ak 1) (wC (.int 1)))) (ax bG (ax aN (ak 1) (wC (.int 0))) (ax aN (ak 0) (wC (.int 1)))))) (ao (bc (ax bG (ax aN (ak 0) (wC (.int 1))) (ax aN (ak 1) (wC (.int 1))))) aB))))
theorem DM:∀ls post,ls.length=2->rT ls post->Bw (ls++List.replicate 0 .un) (aY ls post):=by rintro ls post - ⟨p,q,rfl,hp,hq,hz,h⟩;unfold Bw;simp only[ND];walk_at "w";refine⟨hp.bn (by decide),hq.bd (by decide),hq.bn (by decide),hp.bd (by decide),hp.bd (by decide),hq.bd (by decide),_,_,rfl,rh p q,by rw[n9];exact hz,_,aj (aj aL),?_⟩;rw[xl];exact h
theorem DN{p q:Rat}{post:L->List L->Prop}(hp:RB 4400 p)(hq:RB 4400 q)(h:post (.d (ND (p+q))) [.d (ND p),.d (ND q)]):rT [.d (ND p),.d (ND q)] post :=
 ⟨p,q,rfl,hp.mono (by decide),hq.mono (by decide),Nat.lt_of_lt_of_le (bO hp.2 hq.2) (Nat.pow_le_pow_right (by decide) (by decide)),h⟩
def lG:FS:=λls post=>∃p q:Rat,ls=[.d (ND p),.d (ND q)]/\RB 400000 p/\RB 400000 q/\p.den*q.den<2^9000/\post (.d (ND (p-q))) ls
def wD:W Fl:=(bS (aP lF (ao (ax iD (ax bG (ax aN (ak 0) (wC (.int 0))) (ax aN (ak 1) (wC (.int 1)))) (ax bG (ax aN (ak 1) (wC (.int 0))) (ax aN (ak 0) (wC (.int 1))))) (ao (bc (ax bG (ax aN (ak 0) (wC (.int 1))) (ax aN (ak 1) (wC (.int 1))))) aB))))
theorem Bx:∀ls post,ls.length=2->lG ls post->wD (ls++List.replicate 0 .un) (aY ls post):=by rintro ls post - ⟨p,q,rfl,hp,hq,hz,h⟩;unfold wD;simp only[ND];walk_at "w";refine⟨hp.bn (by decide),hq.bd (by decide),hq.bn (by decide),hp.bd (by decide),hp.bd (by decide),hq.bd (by decide),_,_,rfl,rh p q,by rw[n9];exact hz,_,aj (aj aL),?_⟩;rw[D9];exact h
theorem uI{p q:Rat}{post:L->List L->Prop}(hp:RB 4400 p)(hq:RB 4400 q)(h:post (.d (ND (p-q))) [.d (ND p),.d (ND q)]):lG [.d (ND p),.d (ND q)] post :=
 ⟨p,q,rfl,hp.mono (by decide),hq.mono (by decide),Nat.lt_of_lt_of_le (bO hp.2 hq.2) (Nat.pow_le_pow_right (by decide) (by decide)),h⟩
def gK:FS:=λls post=>∃p q:Rat,ls=[.d (ND p),.d (ND q)]/\RB 400000 p/\RB 400000 q/\post (.d (.bl (decide (p<q)))) ls
def wF:W Fl:=(bS (ax qM (ax bG (ax aN (ak 0) (wC (.int 0))) (ax aN (ak 1) (wC (.int 1)))) (ax bG (ax aN (ak 1) (wC (.int 0))) (ax aN (ak 0) (wC (.int 1))))))
theorem By:∀ls post,ls.length=2->gK ls post->wF (ls++List.replicate 0 .un) (aY ls post):=by rintro ls post - ⟨p,q,rfl,hp,hq,h⟩;unfold wF;walk_at "w";refine⟨hp.bn (by decide),hq.bd (by decide),hq.bn (by decide),hp.bd (by decide),_,aj (aj aL),?_⟩;rw[IU];exact h
def pf:FS:=λls post=>∃p q:Rat,ls=[.d (ND p),.d (ND q)]/\RB 400000 p/\RB 400000 q/\post (.d (ND (if q<p then q else p))) ls
def rV:W Fl:=(bS (HV (aO (aP gK (ao (ak 1) (ao (ak 0) aB)))) (ak 1) (ak 0)))
theorem ze:∀ls post,ls.length=2->pf ls post->rV (ls++List.replicate 0 .un) (aY ls post):=by
 rintro ls post - ⟨p,q,rfl,hp,hq,h⟩;unfold rV;walk_at "w";refine⟨q,p,rfl,hq,hp,?_⟩;walk_at "w";split
 · rename_i hl;rw[if_pos hl]at h;exact⟨_,aj (aj aL),h⟩
 · rename_i hl;rw[if_neg hl]at h;exact⟨_,aj (aj aL),h⟩
noncomputable def Qq(a:N9):Nat:=min a.one a.other
noncomputable def Qr(a:N9):Nat:=max a.one a.other
def cX:FS:=λls post=>∃(R:aR)(k:Nat)(hk:k<R.asks.length),ls=[.d (aS R),.d (.int k)]/\post (.d (.int (Qq R.asks[k]))) ls
def fO:W Fl:=(bS (a8 yF (ao (ax aN (ax aN (ax aN (ak 0) (wC (.int 1))) (ak 1)) (wC (.int 1))) (ao (ax aN (ax aN (ax aN (ak 0) (wC (.int 1))) (ak 1)) (wC (.int 2))) aB))))
theorem nP:∀ls post,ls.length=2->cX ls post->fO (ls++List.replicate 0 .un) (aY ls post):=by
 rintro ls post - ⟨R,k,hk,rfl,h⟩;unfold fO;walk_at "w";refine⟨_,bP hk,?_⟩;walk_at "w";refine⟨_,bP hk,?_⟩;walk_at "w"
 have e:(if((R.asks[k].other:Nat):Int)<(R.asks[k].one:Int)then((R.asks[k].other:Nat):Int)else(R.asks[k].one:Int))=((Qq R.asks[k]:Nat):Int):=by unfold Qq;split<;>omega
 first|rw[e] | skip
 exact⟨_,aj (aj aL),h⟩
def cN:FS:=λls post=>∃(R:aR)(k:Nat)(hk:k<R.asks.length),ls=[.d (aS R),.d (.int k)]/\post (.d (.int ((max R.asks[k].one R.asks[k].other:Nat):Int))) ls
def eX:W Fl:=(bS (a8 yE (ao (ax aN (ax aN (ax aN (ak 0) (wC (.int 1))) (ak 1)) (wC (.int 1))) (ao (ax aN (ax aN (ax aN (ak 0) (wC (.int 1))) (ak 1)) (wC (.int 2))) aB))))
theorem mO:∀ls post,ls.length=2->cN ls post->eX (ls++List.replicate 0 .un) (aY ls post):=by
 rintro ls post - ⟨R,k,hk,rfl,h⟩;unfold eX;walk_at "w";refine⟨_,bP hk,?_⟩;walk_at "w";refine⟨_,bP hk,?_⟩;walk_at "w"
 have e:(if((R.asks[k].other:Nat):Int) > (R.asks[k].one:Int)then((R.asks[k].other:Nat):Int)else(R.asks[k].one:Int))=((max R.asks[k].one R.asks[k].other:Nat):Int):=by split<;>omega
 first|rw[e] | skip
 exact⟨_,aj (aj aL),h⟩
noncomputable def uJ(a b:N9):Bool:=decide (min a.one a.other<min b.one b.other/\min b.one b.other<max a.one a.other/\max a.one a.other<max b.one b.other) ||decide (min b.one b.other<min a.one a.other/\min a.one a.other<max b.one b.other/\max b.one b.other<max a.one a.other)
def kH:FS:=λls post=>∃(R:aR)(k l:Nat)(hk:k<R.asks.length)(hl:l<R.asks.length),ls=[.d (aS R),.d (.int k),.d (.int l)]/\post (.d (.bl (uJ R.asks[k] R.asks[l]))) ls
def mP:W Fl:=(aV (bq 3 (bc (aP cX (ao (ak 0) (ao (ak 1) aB)))))
  (aV (bq 4 (bc (aP cN (ao (ak 0) (ao (ak 1) aB)))))
  (aV (bq 5 (bc (aP cX (ao (ak 0) (ao (ak 2) aB)))))
  (aV (bq 6 (bc (aP cN (ao (ak 0) (ao (ak 2) aB)))))
  (bS (J5 (q8 (ak 3) [(qM,(ak 5)),(qM,(ak 4)),(qM,(ak 6))]) (q8 (ak 5) [(qM,(ak 3)),(qM,(ak 6)),(qM,(ak 4))])))))))
theorem DO(a b:N9){A B C D':Int}(hA:A=((min a.one a.other:Nat):Int))(hB:B=((min b.one b.other:Nat):Int))(hC:C=((max a.one a.other:Nat):Int))(hD:D'=((max b.one b.other:Nat):Int)):uJ a b=(decide (A<B/\B<C/\C<D') ||decide (B<A/\A<D'/\D' < C)):=by subst hA hB hC hD;unfold uJ;simp only[Int.ofNat_lt]
theorem uK:∀ls post,ls.length=3->kH ls post->mP (ls++List.replicate 4 .un) (aY ls post):=by
 rintro ls post - ⟨R,k,l,hk,hl,rfl,h⟩;unfold mP;walk_at "w";refine⟨R,k,hk,rfl,?_⟩;walk_at "w";refine⟨R,k,hk,rfl,?_⟩;walk_at "w";refine⟨R,l,hl,rfl,?_⟩;walk_at "w";refine⟨R,l,hl,rfl,?_⟩;walk_at "w";have Mx:∀b:Bool,b=uJ R.asks[k] R.asks[l]->∀x3 x4 x5 x6:L,aY [.d (aS R),.d (.int k),.d (.int l)] post (.rt (.d (.bl b))) [.d (aS R),.d (.int k),.d (.int l),x3,x4,x5,x6]:=λb hb x3 x4 x5 x6=>by subst hb;exact⟨_,aj (aj (aj aL)),h⟩
 have ec:=DO R.asks[k] R.asks[l] (A:=(Qq R.asks[k]:Int)) (B:=(Qq R.asks[l]:Int)) rfl rfl rfl rfl;generalize hA:((Qq R.asks[k]:Nat):Int)=A at *;generalize hB:((Qq R.asks[l]:Nat):Int)=B at *;generalize hC:((max R.asks[k].one R.asks[k].other:Nat):Int)=C at *;generalize hD:((max R.asks[l].one R.asks[l].other:Nat):Int)=D' at *
 by_cases c1:A<B<;>by_cases c2:B<C<;>by_cases c3:C<D'<;>by_cases c4:B<A<;>by_cases c5:A<D'<;>by_cases c6:D' < C <;>
  simp only[c1,c2,c3,c4,c5,c6,if_true,if_false,ite_true,ite_false,decide_true,decide_false,w7,Bool.false_eq_true]<;>refine Mx _ ?_ _ _ _ _<;>rw[ec]<;>simp only[c1,c2,c3,c4,c5,c6]<;>decide
noncomputable def GU(R:aR)(ps:List Rat)(k:Nat):Bool:=decide (0<ps.getD k 0) && decide (ps.getD k 0<R.sz k)
noncomputable def GV(R:aR)(ps:List Rat):List Nat:=(List.range ps.length).filter (GU R ps)
def dW:FS:=λls post=>∃(R:aR)(ps:List Rat)(c:Nat),ls=[.d (aS R),.d (.lst (ps.map ND))]/\R.Ok/\ps.length=R.asks.length/\(∀p∈ps,RB c p)/\c≤400000/\∀a,post (.own a ((GV R ps).map λ(k:Nat)=>D.int (k:Int))) ls
def lH:W L:=(ak 0)
def kI:W Fl:=(bS (oO 2 [0] (yP (ak 1)) (iP [0,1]) (Cv (aO (aP gK (ao (wC (.tup [(.int 0),(.int 1)])) (ao (ak 1) aB)))) (aO (aP gK (ao (ak 1) (ao (ax aN (ax aN (ax aN (ak 2) (wC (.int 1))) (ak 0)) (wC (.int 3))) aB))))) lH))
theorem Bz{α:Type}{e1 e2:α->D}{p:α->Bool}{caps:Ev}{ti:W Bool}{te:W L}{k:List D->Ev->Prop}{g:α->D}(as:List α)(acc:List D)(l m:L)
  (h1:∀a∈as,∀Q:Bool->Ev->Prop,Q (p a) (.d (e1 a)::.d (e2 a)::caps)->ti (.d (e1 a)::.d (e2 a)::caps) Q)
  (h2:∀a∈as,p a=true->∀Q:L->Ev->Prop,Q (.d (g a)) (.d (e1 a)::.d (e2 a)::caps)->te (.d (e1 a)::.d (e2 a)::caps) Q)
  (hk:∀l m,k (acc++(as.filter p).map g) (l::m::caps)):gb (iP [0,1]) ti te (as.map λa=>D.tup [e1 a,e2 a]) (l::m::caps) acc k:=by
 induction as generalizing acc l m with
 |nil=>simpa[gb]using hk l m
 | cons a as ih =>
  rw[List.map_cons];unfold gb;rw[uc];refine h1 a List.mem_cons_self _ ?_
  cases hp:p a with
  | false =>
   rw[if_neg (by decide)];refine ih acc _ _ (λb hb=>h1 b (List.mem_cons_of_mem _ hb)) (λb hb=>h2 b (List.mem_cons_of_mem _ hb)) λl m=>?_;have:=hk l m;rw[List.filter_cons,if_neg (by rw[hp];decide)]at this;exact this
  | true =>
   rw[if_pos rfl];refine h2 a List.mem_cons_self hp _ ?_;refine ih _ _ _ (λb hb=>h1 b (List.mem_cons_of_mem _ hb)) (λb hb=>h2 b (List.mem_cons_of_mem _ hb)) λl m=>?_;have:=hk l m;rw[List.filter_cons,if_pos hp,List.map_cons]at this;rw[List.append_assoc];exact this
theorem rW:∀ls post,ls.length=2->dW ls post->kI (ls++List.replicate 0 .un) (aY ls post):=by
 rintro ls post - ⟨R,ps,c,rfl,hR,hl,hb,hc,h⟩;unfold kI;walk_at "w";rw[DA];refine⟨by rw[List.length_map,List.length_range,hl];exact Nat.le_trans hR.few (by decide),?_⟩;refine Bz (p:=GU R ps) (g:=λ(k:Nat)=>D.int (k:Int)) _ _ _ _ (λk hk Q hq=>?_) (λk hk hp Q hq=>?_) λl m=>?_
 ·
  have hk':k<ps.length:=by simpa using hk
  have hb':=hb _ (List.getElem_mem hk');rw[← Be hk']at hb';walk_at "w";refine⟨0,_,rfl,RB.zero.mono (by decide),hb'.mono hc,?_⟩;walk_at "w";unfold GU at hq;by_cases h0:0<ps.getD k 0
  · rw[if_pos h0];refine⟨_,bP (by omega),?_⟩;walk_at "w";refine⟨_,_,rfl,hb'.mono hc,(hR.rb (List.getElem_mem _)).mono (by decide),?_⟩;walk_at "w";rw[Jb (by omega)]at hq;simpa only[h0,decide_true,Bool.true_and]using hq
  · rw[if_neg h0];simpa only[h0,decide_false,Bool.false_and]using hq
 · unfold lH;walk_at "w";exact hq
 · intro a;walk_at "w";exact⟨_,aj (aj aL),h a⟩
def bo:FS:=λls post=>∃(R:aR)(ks:List Nat),ls=[.d (aS R),.d (.lst (ks.map λ(k:Nat)=>D.int (k:Int)))]/\ks.length≤20/\(∀k∈ks,k<R.asks.length)/\post (.d (Bi (Oz (Oy R) ks))) ls
def bg:W Fl:=(Nk (nG (aO (aP kH (ao (ak 0) (ao (ak 3) (ao (ak 4) aB)))))) (bS (cz (ao (ak 3) (ao (ak 4) aB)))) bN)
def dc:W Fl:=(vw (zl (xq (ak 1) (some (ax bA (ak 2) (wC (.int 1)))) none)) (b8 4) bg)
def cG:W Fl:=(aV (vw (yP (ak 1)) (iP [2,3]) dc)
  (bS (wC .non)))
theorem uL{R:aR}{X:D}{x2:L}{k:Nat}(hk:k<R.asks.length){Q:Fl->Ev->Prop}:∀(ls:List Nat)(x4:L),(∀l∈ls,l<R.asks.length) ->
  (∀l,ls.find? (λl=>!Oy R k l)=some l->∀ρ,qf ρ [.d (aS R),.d X] [.d (aS R),.d X]->Q (.rt (.d (.tup [.int (k:Int),.int (l:Int)]))) ρ)->(ls.find? (λl=>!Oy R k l)=none->∀x4,Q .nx [.d (aS R),.d X,x2,.d (.int (k:Int)),x4]) ->
  cu (b8 4) bg (ls.map λ(k:Nat)=>D.int (k:Int)) [.d (aS R),.d X,x2,.d (.int (k:Int)),x4] Q
 |[],x4,_,_,h2=>h2 rfl x4
 | l::ls,x4,hl,h1,h2=>by
  have hl0:=hl l List.mem_cons_self;show cu (b8 4) bg (D.int (l:Int)::ls.map λ(k:Nat)=>D.int (k:Int)) _ Q;unfold cu;show bg [.d (aS R),.d X,x2,.d (.int (k:Int)),.d (.int (l:Int))] _;unfold bg;walk_at "w";refine⟨R,k,l,hk,hl0,rfl,?_⟩;have ec:uJ R.asks[k] R.asks[l]=Oy R k l:=by unfold Oy;rw[dG hk,dG hl0];rfl
  walk_at "w";rw[ec]
  cases e:Oy R k l with
  | false =>
   walk_at "w";exact⟨by decide,h1 l (by rw[List.find?_cons,e];rfl) _ (aj (aj aL))⟩
  | true =>
   walk_at "w";exact uL hk ls _ (λm hm=>hl m (List.mem_cons_of_mem _ hm)) (λm hm=>h1 m (by rw[List.find?_cons,e];exact hm)) (λhm=>h2 (by rw[List.find?_cons,e];exact hm))
theorem DP{cr:Nat->Nat->Bool}{ks:List Nat}{j:Nat}(h:j<ks.length):Oz cr (ks.drop j)=match (ks.drop (j+1)).find? (λl=>!cr ks[j] l)with
  |some l=>some (ks[j],l)
  |none=>Oz cr (ks.drop (j+1)):=by
 rw[List.drop_eq_getElem_cons h];rfl
theorem iG:∀ls post,ls.length=2->bo ls post->cG (ls++List.replicate 3 .un) (aY ls post):=by
 rintro ls post - ⟨R,ks,rfl,h20,hks,h⟩;unfold cG;walk_at "w";refine fo _ (λj ρ=>(∃x2 x3 x4,ρ=[.d (aS R),.d (.lst (ks.map λ(k:Nat)=>D.int (k:Int))),x2,x3,x4])/\Oz (Oy R) (ks.drop j)=Oz (Oy R) ks) _ ⟨⟨_,_,_,rfl⟩,rfl⟩ ?_ ?_
 ·
  rintro j x ρ hj ⟨⟨x2,x3,x4,rfl⟩,hf⟩ Q h1 h2 h3 h4;have hj':j<ks.length:=by have:=(List.getElem?_eq_some_iff.mp hj).1;simpa[eD]using this
  have ex:x=.tup [.int (j:Int),.int (ks[j]:Int)]:=by
   have:(eD (ks.map λ(k:Nat)=>D.int (k:Int)))[j]?=some (.tup [.int (j:Int),.int (ks[j]:Int)]):=by simp[eD,hj']
   rw[this]at hj;exact(Option.some.inj hj).symm
  subst ex;unfold dc;walk_at "w";rw[show(j:Int)+1=((j+1:Nat):Int) by omega,Da,Dj (show j+1≤ks.length by omega)];rw[DP hj']at hf;refine λ_=>uL (hks _ (List.getElem_mem hj')) _ _ (λl hl=>hks l (List.mem_of_mem_drop hl)) (λl e ρ b=>h4 _ _ ?_) λe x4=>h1 _ ⟨⟨_,_,_,rfl⟩,?_⟩
  · rw[e]at hf;rw[← hf]at h;exact⟨_,b,h⟩
  · rw[e]at hf;exact hf
 ·
  rintro ρ ⟨⟨x2,x3,x4,rfl⟩,hf⟩;have e:ks.drop (eD (ks.map λ(k:Nat)=>D.int (k:Int))).length=[]:=by simp[eD]
  rw[e]at hf;rw[← hf]at h;exact⟨_,aj (aj aL),h⟩
def lI:FS:=λls post=>∃d:D,ls=[.d d]/\post (.d (.bl (xY d))) ls
def rX:W Fl:=(bS (mv (Nj (fK "str") (ak 0)) (ax (tN false) (ak 0) (cz (ao (wC (.str "on")) (ao (wC (.str "back")) aB))))))
theorem zf:∀ls post,ls.length=1->lI ls post->rX (ls++List.replicate 0 .un) (aY ls post):=by
 rintro ls post - ⟨d,rfl,h⟩;unfold rX
 cases d with
 | str z =>
  walk_at "w";rw[Bm];exact⟨by decide,rfl,rfl,_,aj aL,h⟩
 | _ =>
  walk_at "w";exact⟨_,aj aL,h⟩
def jK:FS:=λls post=>∃(R:aR)(k:Nat)(w:Bool)(hk:k<R.asks.length),ls=[.d (aS R),.d (.int k),.d (.str (dg w))]/\R.Ok/\∀c,post (.own c ((vW R.n R.asks[k] w).map λ(t:Nat)=>D.int (t:Int))) ls
def ph:W L:=(ax eB (ax iD (ax iD (ak 1) (wC (.int 1))) (ak 0)) (ak 2))
def pj:W L:=(ax eB (ax bA (ak 1) (ak 0)) (ak 2))
def pk:W Fl:=(bS (oO 1 [4,3] (tH (ax eB (ax iD (ak 4) (ak 5)) (ak 3))) (b8 0) qU ph))
def pq:W Fl:=(aV (Nk (aO (ax oK (ak 2) (wC (.str "on")))) (bS (oO 1 [4,3] (tH (ax eB (ax iD (ak 5) (ak 4)) (ak 3))) (b8 0) qU pj)) bN)
  pk)
def pw:W Fl:=(aV (bq 5 (ax aN (ax aN (ax aN (ak 0) (wC (.int 1))) (ak 1)) (wC (.int 2))))
  pq)
def pA:W Fl:=(aV (bq 4 (ax aN (ax aN (ax aN (ak 0) (wC (.int 1))) (ak 1)) (wC (.int 1))))
  pw)
def pB:W Fl:=(aV (bq 3 (bc (a8 df (ao (ax aN (ak 0) (wC (.int 0))) aB))))
  pA)
theorem wG:∀ls post,ls.length=3->jK ls post->pB (ls++List.replicate 3 .un) (aY ls post):=by
 rintro ls post - ⟨R,k,w,hk,rfl,hR,h⟩;have ha:=hR.ask _ (List.getElem_mem hk);have h1:=ha.one;have h2:=ha.other;have hlo:=hR.lo;have hhi:=hR.hi;unfold pB;walk_at "w";unfold pA;walk_at "w";refine⟨_,bP hk,?_⟩;walk_at "w";unfold pw;walk_at "w";refine⟨_,bP hk,?_⟩;walk_at "w";unfold pq;walk_at "w";have f1:=A7 h1 h2;have f2:=A7 h2 h1;have b1:=Nat.mod_lt (R.asks[k].other+R.n-R.asks[k].one) (y:=R.n) (by omega);have b2:=Nat.mod_lt (R.asks[k].one+R.n-R.asks[k].other) (y:=R.n) (by omega);split
 ·
  rename_i hw;subst hw;rw[f1];refine⟨by omega,⟨by omega,by omega⟩,?_⟩;rw[ly,Int.toNat_natCast];refine⟨by rw[List.length_map,List.length_range];exact Nat.le_trans (show _≤12 by omega) (by decide),?_⟩;refine n8 (h:=λs=>D.int (((R.asks[k].one+s) % R.n:Nat):Int)) _ _ _ (λs hs Q q=>?_) λl'=>?_
  · unfold pj;walk_at "w";refine⟨by omega,?_⟩;rw[xN];exact q
  · walk_at "w";intro c;refine⟨_,aj (aj (aj aL)),?_⟩;have:=h c;simp only[vW,Ob,if_true,List.map_map]at this;exact this
 ·
  rename_i hw;have hw:w=false:=by simpa using hw
  subst hw;unfold pk;walk_at "w";rw[f2];refine⟨by omega,⟨by omega,by omega⟩,?_⟩;rw[ly,Int.toNat_natCast];refine⟨by rw[List.length_map,List.length_range];exact Nat.le_trans (show _≤12 by omega) (by decide),?_⟩;refine n8 (h:=λs=>D.int (((R.asks[k].one+R.n-1-s) % R.n:Nat):Int)) _ _ _ (λs hs Q q=>?_) λl'=>?_
  · unfold ph;walk_at "w";refine⟨by omega,?_⟩;have hs:=List.mem_range.mp hs;rw[Du (by omega) (by omega)];exact q
  · walk_at "w";intro c;refine⟨_,aj (aj (aj aL)),?_⟩;have:=h c;simp only[vW,o4,Bool.false_eq_true,if_false,List.map_map]at this;exact this
def dJ:FS:=λls post=>∃(p am:Rat)(w:Bool),ls=[.d (ND p),.d (.str (dg w)),.d (ND am)]/\RB 4400 p/\RB 4400 am/\post (.d (ND (Ot p w am))) ls
def gL:W Fl:=(bS (HV (aO (ax oK (ak 1) (wC (.str "on")))) (aP rT (ao (ak 0) (ao (ak 2) aB))) (aP lG (ao (ak 0) (ao (ak 2) aB)))))
theorem pC:∀ls post,ls.length=3->dJ ls post->gL (ls++List.replicate 0 .un) (aY ls post):=by
 rintro ls post - ⟨p,am,w,rfl,hp,ha,h⟩;unfold gL;unfold Ot at h;walk_at "w"
 cases w with
 | true =>
  walk_at "w";exact DN hp ha ⟨_,aj (aj (aj aL)),h⟩
 | false =>
  walk_at "w";exact uI hp ha ⟨_,aj (aj (aj aL)),h⟩
def fu:FS:=λls post=>∃(ps:List Rat)(s:cm),ls=[.d (.lst (ps.map ND)),.d (Oo s)]/\ps.length≤20/\s.k<ps.length/\s.l<ps.length/\s.k≠s.l/\(∀p∈ps,RB 4000 p)/\RB 4000 s.am/\∀a,post (.own a ((Ou ps s).map ND)) ls
def kJ:W Fl:=(aV (bq 2 (a8 oM (ao (ak 0) aB)))
  (aV (qQ 2 (ax aN (ak 1) (wC (.int 0))) (aP dJ (ao (eQ 2 (yH 2 (ax aN (ak 1) (wC (.int 0)))) (ax aN (ak 2) (ax aN (ak 1) (wC (.int 0))))) (ao (ax aN (ak 1) (wC (.int 1))) (ao (ax aN (ak 1) (wC (.int 4))) aB)))))
  (aV (qQ 2 (ax aN (ak 1) (wC (.int 2))) (aP dJ (ao (eQ 2 (yH 2 (ax aN (ak 1) (wC (.int 2)))) (ax aN (ak 2) (ax aN (ak 1) (wC (.int 2))))) (ao (ax aN (ak 1) (wC (.int 3))) (ao (ax aN (ak 1) (wC (.int 4))) aB)))))
  (bS (lg 2)))))
theorem BA{n k:Nat}(h:k<n):MS n (k:Int)=some k:=by unfold MS;rw[if_pos (by omega),if_pos (by omega)];simp
theorem rY:∀ls post,ls.length=2->fu ls post->kJ (ls++List.replicate 1 .un) (aY ls post):=by
 rintro ls post - ⟨ps,s,rfl,h20,hk,hl,hkl,hp,ha,h⟩;unfold kJ;simp only[Oo];walk_at "w";have r1:=hp _ (List.getElem_mem hk);have r2:=hp _ (List.getElem_mem hl);refine λa=>⟨_,bP hk,ps[s.k],s.am,s.kw,rfl,r1.mono (by decide),ha.mono (by decide),?_⟩;walk_at "w";have hl':s.l<(ps.set s.k (Ot ps[s.k] s.kw s.am)).length:=by rw[List.length_set];exact hl
 have e1:(ps.set s.k (Ot ps[s.k] s.kw s.am))[s.l]=ps[s.l]:=by rw[List.getElem_set_ne hkl]
 refine⟨s.k,BA hk,?_⟩;rw[← List.map_set];refine⟨_,bP hl',_,s.am,s.lw,rfl,by rw[e1];exact r2.mono (by decide),ha.mono (by decide),?_⟩;walk_at "w";refine⟨s.l,BA (by simpa using hl),_,aj (aj aL),?_⟩;have h:=h a;unfold Ou at h;rw[cf hk,cf hl',List.map_set]at h;exact h
def cY:FS:=λls post=>∃(R:aR)(k l:Nat)(kw lw:Bool)(hk:k<R.asks.length)(hl:l<R.asks.length),ls=[.d (aS R),.d (.int (k:Int)),.d (.str (dg kw)),.d (.int (l:Int)),.d (.str (dg lw))]/\R.Ok/\post (.d (.bl (gG R.n R.asks[k] kw R.asks[l] lw))) ls
def ik:W L:=(ax (tN false) (ak 0) (ak 1))
def fP:W Fl:=(aV (bq 5 (bc (aP jK (ao (ak 0) (ao (ak 3) (ao (ak 4) aB))))))
  (bS (z8 (aO (a8 Iu (ao (bc (oO 1 [5] (zl (aP jK (ao (ak 0) (ao (ak 1) (ao (ak 2) aB))))) (b8 0) qU ik)) aB))))))
theorem nQ:∀ls post,ls.length=5->cY ls post->fP (ls++List.replicate 1 .un) (aY ls post):=by
 rintro ls post - ⟨R,k,l,kw,lw,hk,hl,rfl,hR,h⟩;unfold fP;walk_at "w";refine⟨R,l,lw,hl,rfl,hR,λc=>?_⟩;walk_at "w";refine⟨R,k,kw,hk,rfl,hR,λc2=>?_⟩;walk_at "w";have hlen:=GC (hR.ask _ (List.getElem_mem hk)) kw;have hhi:=hR.hi;refine⟨El (by omega),n8 (h:=λt=>.bl (decide (t∈vW R.n R.asks[l] lw))) (vW R.n R.asks[k] kw) [] _ (λt hm Q hq=>?_) λl' a0=>?_⟩
 · unfold ik;walk_at "w";refine⟨rfl,by simp[nK],?_⟩;rw[rD];exact hq
 · rw[List.nil_append];refine⟨(vW R.n R.asks[k] kw).map λt=>decide (t∈vW R.n R.asks[l] lw),by rw[List.map_map];rfl,?_⟩;walk_at "w";refine⟨_,aj (aj (aj (aj (aj aL)))),?_⟩;unfold gG at h;simpa[List.any_map]using h
def cH:FS:=λls post=>∃(d:D)(n:Nat),ls=[.d d,.d (.int (n:Int))]/\post (.d (.bl (nM n d))) ls
def cR:W Fl:=(aV (Nk (Nh (nG (aO (Nj (fK "tuple") (ak 0)))) (aO (ax yC (a8 df (ao (ak 0) aB)) (wC (.int 5))))) (bS (wC (.bl false))) bN)
  (aV (Nk (Nh (nG (aO (aP cj (ao (ax aN (ak 0) (wC (.int 0))) (ao (ak 1) aB))))) (nG (aO (aP cj (ao (ax aN (ak 0) (wC (.int 2))) (ao (ak 1) aB)))))) (bS (wC (.bl false))) bN)
  (bS (mv (aP lI (ao (ax aN (ak 0) (wC (.int 1))) aB)) (mv (aP lI (ao (ax aN (ak 0) (wC (.int 3))) aB)) (aP kG (ao (ax aN (ak 0) (wC (.int 4))) aB)))))))
theorem jd:∀ls post,ls.length=2->cH ls post->cR (ls++List.replicate 0 .un) (aY ls post):=by
 rintro ls post - ⟨d,n,rfl,h⟩;unfold cR
 cases d with
 | tup xs =>
  by_cases h5:xs.length=5
  ·
   obtain⟨a,b,c,d,e,rfl⟩:=five h5;rw[rL]at h;walk_at "w";refine⟨_,_,rfl,?_⟩
   cases e1:jN a n with
   | false =>
    rw[e1]at h;walk_at "w";exact⟨_,aj (aj aL),h⟩
   | true =>
    rw[e1,Bool.true_and]at h;walk_at "w";refine⟨_,_,rfl,?_⟩
    cases e2:jN c n with
    | false =>
     rw[e2]at h;walk_at "w";exact⟨_,aj (aj aL),h⟩
    | true =>
     rw[e2,Bool.true_and]at h;walk_at "w";refine⟨_,rfl,?_⟩
     cases e3:xY b with
     | false =>
      rw[e3]at h;walk_at "w";exact⟨_,aj (aj aL),h⟩
     | true =>
      rw[e3,Bool.true_and]at h;walk_at "w";refine⟨_,rfl,?_⟩
      cases e4:xY d with
      | false =>
       rw[e4]at h;walk_at "w";exact⟨_,aj (aj aL),h⟩
      | true =>
       rw[e4,Bool.true_and]at h;walk_at "w";exact⟨_,rfl,_,aj (aj aL),h⟩
  ·
   rw[uw h5]at h;walk_at "w";have:¬((xs.length:Int)=5):=by omega
   simp only[this,not_false_eq_true,decide_true,if_true,ite_true];exact⟨_,aj (aj aL),h⟩
 | _ =>
  rw[yb (by intro xs e;cases e)]at h;walk_at "w";exact⟨_,aj (aj aL),h⟩
def gM:FS:=λls post=>∃(R:aR)(ps:List Rat)(k:Nat)(w:Bool),ls=[.d (aS R),.d (.lst (ps.map ND)),.d (.int (k:Int)),.d (.str (dg w))]/\gu R ps/\k<ps.length/\post (.d (ND (Oq R ps k w))) ls
def mQ:W Fl:=(bS (HV (aO (ax oK (ak 3) (wC (.str "on")))) (aP lG (ao (ax aN (ax aN (ax aN (ak 0) (wC (.int 1))) (ak 2)) (wC (.int 3))) (ao (ax aN (ak 1) (ak 2)) aB))) (ax aN (ak 1) (ak 2))))
theorem uM:∀ls post,ls.length=4->gM ls post->mQ (ls++List.replicate 0 .un) (aY ls post):=by
 rintro ls post - ⟨R,ps,k,w,rfl,hS,hk,h⟩;have hk':k<R.asks.length:=by rw[← hS.len];exact hk
 have r1:=hS.sz_rb hk;have r2:=hS.rb hk;rw[nL hk']at r1;rw[cf hk]at r2;unfold Oq at h;rw[nL hk',cf hk]at h;unfold mQ;walk_at "w"
 cases w with
 | true =>
  walk_at "w";refine⟨_,bP hk',?_⟩;walk_at "w";refine⟨_,bP hk,?_⟩;walk_at "w";exact uI (r1.mono (by decide)) (r2.mono (by decide)) ⟨_,aj (aj (aj (aj aL))),h⟩
 | false =>
  walk_at "w";exact⟨_,bP hk,_,aj (aj (aj (aj aL))),h⟩
def fv:FS:=λls post=>∃(R:aR)(ps:List Rat)(k l:Nat)(kw lw:Bool)(more:List D),ls=[.d (aS R),.d (.lst (ps.map ND)),.d (.tup (.int (k:Int)::.str (dg kw)::.int (l:Int)::.str (dg lw)::more))]/\gu R ps/\k<ps.length/\l<ps.length/\post (.d (ND (Os R ps k kw l lw))) ls
def kK:W Fl:=(bS (aP pf (ao (bc (aP gM (ao (ak 0) (ao (ak 1) (ao (ax aN (ak 2) (wC (.int 0))) (ao (ax aN (ak 2) (wC (.int 1))) aB)))))) (ao (bc (aP gM (ao (ak 0) (ao (ak 1) (ao (ax aN (ak 2) (wC (.int 2))) (ao (ax aN (ak 2) (wC (.int 3))) aB)))))) aB))))
theorem rZ:∀ls post,ls.length=3->fv ls post->kK (ls++List.replicate 0 .un) (aY ls post):=by rintro ls post - ⟨R,ps,k,l,kw,lw,more,rfl,hS,hk,hl,h⟩;unfold kK;walk_at "w";refine⟨R,ps,k,kw,rfl,hS,hk,?_⟩;walk_at "w";refine⟨R,ps,l,lw,rfl,hS,hl,?_⟩;walk_at "w";exact⟨_,_,rfl,(pS hS hk kw).mono (by decide),(pS hS hl lw).mono (by decide),_,aj (aj (aj aL)),h⟩
noncomputable def Mi(R:aR)(ps:List Rat)(s:cm):Bool:=!decide (s.k=s.l) && (gG R.n (bh R s.k) s.kw (bh R s.l) s.lw && (decide (0<s.am) && !decide (Os R ps s.k s.kw s.l s.lw<s.am)))
def kM:FS:=λls post=>∃(R:aR)(ps:List Rat)(d:D),ls=[.d (aS R),.d (.lst (ps.map ND)),.d d]/\gu R ps/\(∀s,qt d=some s->s.k<ps.length->s.l<ps.length->RB 400000 s.am)/\post (.d (.bl (OC R ps d))) ls
def mR:W Fl:=(aV (Nk (Nh (nG (aO (aP cH (ao (ak 2) (ao (bc (a8 df (ao (ax aN (ak 0) (wC (.int 1))) aB))) aB))))) (aO (ax oK (ax aN (ak 2) (wC (.int 0))) (ax aN (ak 2) (wC (.int 2)))))) (bS (wC (.bl false))) bN)
  (aV (Nk (nG (aO (aP cY (ao (ak 0) (ao (ax aN (ak 2) (wC (.int 0))) (ao (ax aN (ak 2) (wC (.int 1))) (ao (ax aN (ak 2) (wC (.int 2))) (ao (ax aN (ak 2) (wC (.int 3))) aB)))))))) (bS (wC (.bl false))) bN)
  (bS (mv (aP gK (ao (wC (.tup [(.int 0),(.int 1)])) (ao (ax aN (ak 2) (wC (.int 4))) aB))) (z8 (aO (aP gK (ao (bc (aP fv (ao (ak 0) (ao (ak 1) (ao (ak 2) aB))))) (ao (ax aN (ak 2) (wC (.int 4))) aB)))))))))
theorem KH{R:aR}{ps:List Rat}(h:gu R ps){k l:Nat}(hk:k<ps.length)(hl:l<ps.length)(kw lw:Bool):RB 400000 (Os R ps k kw l lw):=by
 rcases(h.ms hk hl kw lw).2.2.2 with e|e
 · rw[e];exact(pS h hk _).mono (by decide)
 · rw[e];exact(pS h hl _).mono (by decide)
theorem uN:∀ls post,ls.length=3->kM ls post->mR (ls++List.replicate 0 .un) (aY ls post):=by
 rintro ls post - ⟨R,ps,d,rfl,hS,ha,h⟩;unfold mR;walk_at "w";refine⟨_,R.asks.length,rfl,?_⟩
 cases ef:nM R.asks.length d with
 | false =>
  have e:OC R ps d=false:=by
   unfold nM at ef;unfold OC;rw[hS.len];split
   · rename_i s e;rw[e]at ef;have ef:(decide (s.k<R.asks.length) && decide (s.l<R.asks.length))=false:=ef;rw[← Bool.and_assoc,ef];rfl
   · rfl
  rw[e]at h;walk_at "w";exact⟨_,aj (aj (aj aL)),h⟩
 |true =>
 obtain⟨s,es,hk',hl'⟩:∃s,qt d=some s/\s.k<R.asks.length/\s.l<R.asks.length:=by
  unfold nM at ef;split at ef
  · rename_i s e;rw[Bool.and_eq_true,decide_eq_true_eq,decide_eq_true_eq]at ef;exact⟨s,e,ef.1,ef.2⟩
  · cases ef
 have hk:s.k<ps.length:=by rw[hS.len];exact hk'
 have hl:s.l<ps.length:=by rw[hS.len];exact hl'
 have ha2:=ha s es hk hl;have:=rK es;subst this;rw[Bq hk hl]at h;unfold Nz at h;rw[dG hk',dG hl']at h;simp only[Oo]at h ⊢;walk_at "w";by_cases e:s.k=s.l
 · rw[if_pos (by omega)];rw[decide_eq_true e]at h;exact⟨_,aj (aj (aj aL)),h⟩
 rw[if_neg (by omega)];rw[decide_eq_false e]at h;refine⟨R,s.k,s.l,s.kw,s.lw,hk',hl',rfl,hS.ok,?_⟩;walk_at "w"
 cases e1:gG R.n R.asks[s.k] s.kw R.asks[s.l] s.lw with
 | false =>
  rw[e1]at h;walk_at "w";exact⟨_,aj (aj (aj aL)),h⟩
 | true =>
  rw[e1]at h;walk_at "w";refine⟨0,s.am,rfl,RB.zero.mono (by decide),ha2,?_⟩;walk_at "w";by_cases e2:0<s.am
  · rw[decide_eq_true e2]at h;rw[if_pos e2];refine⟨R,ps,s.k,s.l,s.kw,s.lw,_,rfl,hS,hk,hl,?_⟩;walk_at "w";refine⟨_,s.am,rfl,KH hS hk hl _ _,ha2,?_⟩;walk_at "w";refine⟨_,aj (aj (aj aL)),?_⟩;simpa using h
  · rw[decide_eq_false e2]at h;rw[if_neg e2];exact⟨_,aj (aj (aj aL)),h⟩
noncomputable def Qs(ps:List Rat)(d:D):List Rat:=match qt d with
 |some s=>Ou ps s
 |none=>ps
noncomputable def uO(R:aR)(ps:List Rat)(ss:List D):List Rat:=ss.foldl Qs ps
noncomputable def sO(R:aR):Nat->List Rat->List D->Option Nat
 |_,_,[]=>none
 |i,ps,d::ss=>if OC R ps d then sO R (i+1) (Qs ps d) ss else some i
def cS:NW:=λds post xp=>(∃(R:aR)(ps:List Rat)(d:D),ds=[aS R,.lst (ps.map ND),d]/\(∀ ss,d≠.lst ss)/\xp ⟨"NoSlide",["number"],[.non]⟩)∨∃(R:aR)(ps:List Rat)(ss:List D)(D:Nat),ds=[aS R,.lst (ps.map ND),.lst ss]/\gu R ps/\ss.length≤99/\(∀ d∈ss,∀ s,qt d=some s->RB 4000 s.am/\s.am.den∣D)/\(0 < D/\D < 2^1500/\(∀ a∈R.asks,a.size.den∣D)/\(∀ p∈ps,p.den∣D)) /\
 (sO R 0 ps ss=none->∀ a,post (.own a ((uO R ps ss).map ND)))/\∀ i,sO R 0 ps ss=some i->xp ⟨"NoSlide",["number"],[.int (i:Int)]⟩
def pD(xp:Xc->Prop):W Fl:=(aV (Nk (nG (aO (aP kM (ao (ak 0) (ao (ak 3) (ao (ak 5) aB)))))) (tX "NoSlide" ["number"] xp (ao (ak 4) aB)) bN)
  (bq 3 (aP fu (ao (ak 3) (ao (ak 5) aB)))))
def lJ(xp:Xc->Prop):W Fl:=(aV (Nk (nG (aO (Nj (fK "list") (ak 2)))) (tX "NoSlide" ["number"] xp (ao (wC .non) aB)) bN)
  (aV (bq 3 (a8 oM (ao (ak 1) aB)))
  (aV (vw (yP (ak 2)) (iP [4,5]) (pD xp))
  (bS (lg 3)))))
theorem BB{R:aR}{ps:List Rat}{s:cm}(h:gu R ps)(hk:s.k<ps.length)(hl:s.l<ps.length)(e:Nz R ps s=true):Hb R ps s:=by unfold Nz at e;simp only[Bool.and_eq_true,Bool.not_eq_true',decide_eq_false_iff_not,decide_eq_true_eq]at e;obtain⟨e1,_,e3,e4⟩:=e;obtain⟨m1,m2,m3,_⟩:=h.ms hk hl s.kw s.lw;have le:=Rat.not_lt.mp e4;exact⟨hk,hl,e1,Rat.le_of_lt e3,Rat.le_trans le m2,Rat.le_trans le m3⟩
structure Qt (R:aR) (ps:List Rat) (D:Nat):Prop where
 ok:gu R ps
 d0:0<D
 d1:D<2^1500
 da:∀a∈R.asks,a.size.den∣D
 dp:∀p∈ps,p.den∣D
theorem Qt.slid{R:aR}{ps:List Rat}{D:Nat}{s:cm}(h:Qt R ps D)(hs:Hb R ps s)(dm:s.am.den∣D):Qt R (Ou ps s) D:=by
 have dk:∀k,k<ps.length->(ps.getD k 0).den∣D:=λk hk=>h.dp _ (by rw[cf hk];exact List.getElem_mem hk)
 have db:∀(k:Nat)(w:Bool),k<ps.length->(Ot (ps.getD k 0) w s.am).den∣D:=λk w hk=>by
  unfold Ot;cases w
  · exact rF h.d0 (dk k hk) dm
  · exact rE h.d0 (dk k hk) dm
 have dp':∀p∈Ou ps s,p.den∣D:=λp hp=>by
  obtain⟨i,hi,rfl⟩:=List.getElem_of_mem hp;rw[← cf hi,uv hs.k hs.l hs.kl];rw[iZ]at hi;split
  · exact db _ _ hs.k
  ·
   split
   · exact db _ _ hs.l
   · exact dk i hi
 refine⟨⟨h.ok.ok,by rw[iZ];exact h.ok.len,λi hi=>?_,D,h.d0,h.d1,h.da,dp'⟩,h.d0,h.d1,h.da,dp'⟩;rw[iZ]at hi;rw[uv hs.k hs.l hs.kl];split
 · rename_i e;subst e;exact xU (h.ok.lo _ hs.k).1 (h.ok.lo _ hs.k).2 hs.nn hs.kn
 ·
  split
  · rename_i e;subst e;exact xU (h.ok.lo _ hs.l).1 (h.ok.lo _ hs.l).2 hs.nn hs.ln
  · exact h.ok.lo i hi
theorem Ey{R:aR}{ps:List Rat}(h:gu R ps):∀p∈ps,RB 4000 p:=λp hp=>by obtain⟨i,hi,rfl⟩:=List.getElem_of_mem hp;rw[← cf hi];exact(h.rb hi).mono (by decide)
theorem uP{R:aR}{ss:List D}{j:Nat}{qs:List Rat}(h:j<ss.length):sO R j qs (ss.drop j)=if OC R qs ss[j]then sO R (j+1) (Qs qs ss[j]) (ss.drop (j+1))else some j:=by rw[List.drop_eq_getElem_cons h];rfl
theorem ye{ss:List D}{j:Nat}{x:D}(hj:(eD ss)[j]?=some x):∃h:j<ss.length,x=.tup [.int (j:Int),ss[j]]:=by
 have hj':j<ss.length:=by have:=(List.getElem?_eq_some_iff.mp hj).1;simpa[eD]using this
 refine⟨hj',?_⟩;have:(eD ss)[j]?=some (.tup [.int (j:Int),ss[j]]):=by simp[eD,hj']
 rw[this]at hj;exact(Option.some.inj hj).symm
theorem wH:∀ds post xp,ds.length=3->cS ds post xp->lJ xp (ds.map .d++List.replicate 3 .un) (NY post):=by
 rintro ds post xp-(⟨R,ps,d,rfl,hd,hx⟩|⟨R,ps,ss,D,rfl,hS,h20,hs,⟨d0,d1,da,dp⟩,h,hx⟩)
 ·
  have ei:jS "list" d=false:=by
   cases d<;>first
    |exact absurd rfl (hd _)
    |rfl
  unfold lJ;walk_at "w";rw[ei];walk_at "w";exact⟨.inr trivial,by decide,hx⟩
 unfold lJ;walk_at "w";refine λa0=>fo _ (λj ρ=>∃(qs:List Rat)(a:Addr)(x4 x5:L),ρ=[.d (aS R),.d (.lst (ps.map ND)),.d (.lst ss),.own a (qs.map ND),x4,x5]/\Qt R qs D/\qs.length=ps.length/\sO R j qs (ss.drop j)=sO R 0 ps ss/\uO R qs (ss.drop j)=uO R ps ss) _ ⟨ps,_,_,_,rfl,⟨hS,d0,d1,da,dp⟩,rfl,rfl,rfl⟩ ?_ ?_
 ·
  rintro j x ρ hj ⟨qs,a,x4,x5,rfl,hD,hl,hb,hr⟩ Q h1 h2 h3' h4;obtain⟨hj',ex⟩:=ye hj;subst ex;have hm:=List.getElem_mem hj';have s3:=hs _ hm;rw[uP hj']at hb;have hr':uO R (Qs qs ss[j]) (ss.drop (j+1))=uO R ps ss:=by rw[← hr,List.drop_eq_getElem_cons hj'];rfl
  unfold pD;walk_at "w";refine⟨R,qs,ss[j],rfl,hD.ok,λs e _ _=>(s3 s e).1.mono (by decide),?_⟩;walk_at "w"
  cases e:OC R qs ss[j]with
  | false =>
   rw[e,if_neg (by decide)]at hb;walk_at "w";exact⟨.inr trivial,by decide,hx j hb.symm⟩
  | true =>
   rw[e,if_pos rfl]at hb;obtain⟨s,es,hk,hl',e'⟩:=Es e;have dd:=BB hD.ok hk hl' e';have es':qt ss[j]=some s:=by rw[es];exact o5 s
   obtain⟨s4,s5⟩:=s3 s es';have est:Qs qs ss[j]=Ou qs s:=by unfold Qs;rw[es']
   rw[est]at hb hr';rw[es];walk_at "w";refine⟨qs,s,rfl,by rw[hD.ok.len];exact hD.ok.ok.few,hk,hl',dd.kl,Ey hD.ok,s4,λc=>?_⟩;walk_at "w";exact h1 _ ⟨_,_,_,_,rfl,hD.slid dd s5,by rw[iZ];exact hl,hb,hr'⟩
 ·
  rintro ρ ⟨qs,a,x4,x5,rfl,hD,hl,hb,hr⟩;have e:ss.drop (eD ss).length=[]:=by simp[eD]
  rw[e]at hb hr;walk_at "w";have h:=h hb.symm a;rw[← hr]at h;exact h
def gN:FS:=λls post=>∃(R:aR)(k l:Nat)(hk:k<R.asks.length)(hl:l<R.asks.length),ls=[.d (aS R),.d (.int (k:Int)),.d (.int (l:Int))]/\R.Ok/\post (.d (.tup [.str (dg (bF R.n R.asks[k] R.asks[l]).1),.str (dg (bF R.n R.asks[k] R.asks[l]).2)])) ls
def fQ:W Fl:=(Nk (aO (aP cY (ao (ak 0) (ao (ak 1) (ao (ax aN (ak 3) (wC (.int 0))) (ao (ak 2) (ao (ax aN (ak 3) (wC (.int 1))) aB))))))) (bS (lg 3)) bN)
def je:W Fl:=(aV (vw (zl (cz (ao (cz (ao (wC (.str "on")) (ao (wC (.str "on")) aB))) (ao (cz (ao (wC (.str "on")) (ao (wC (.str "back")) aB))) (ao (cz (ao (wC (.str "back")) (ao (wC (.str "on")) aB))) aB))))) (b8 3) fQ)
  (bS (cz (ao (wC (.str "back")) (ao (wC (.str "back")) aB)))))
theorem wJ{R:aR}{k l:Nat}(hk:k<R.asks.length)(hl:l<R.asks.length)(hR:R.Ok)(aw bw:Bool){Q:Fl->Ev->Prop}(h1:gG R.n R.asks[k] aw R.asks[l] bw=true->∀ρ,qf ρ [.d (aS R),.d (.int (k:Int)),.d (.int (l:Int))] [.d (aS R),.d (.int (k:Int)),.d (.int (l:Int))]->Q (.rt (.d (.tup [.str (dg aw),.str (dg bw)]))) ρ)
  (h2:gG R.n R.asks[k] aw R.asks[l] bw=false->Q .nx [.d (aS R),.d (.int (k:Int)),.d (.int (l:Int)),.d (.tup [.str (dg aw),.str (dg bw)])]) :
  fQ [.d (aS R),.d (.int (k:Int)),.d (.int (l:Int)),.d (.tup [.str (dg aw),.str (dg bw)])] Q:=by
 unfold fQ;walk_at "w";refine⟨R,k,l,aw,bw,hk,hl,rfl,hR,?_⟩;walk_at "w"
 cases e:gG R.n R.asks[k] aw R.asks[l] bw with
 |true=>exact h1 e _ (aj (aj (aj aL)))
 |false=>exact h2 e
theorem pV:∀ls post,ls.length=3->gN ls post->je (ls++List.replicate 1 .un) (aY ls post):=by
 rintro ls post - ⟨R,k,l,hk,hl,rfl,hR,h⟩;unfold je;walk_at "w";have e1:Str.ofString "on"=dg true:=rfl;have e2:Str.ofString "back"=dg false:=rfl;rw[e1,e2];refine⟨by decide,by decide,by decide,by decide,?_⟩;unfold bF at h;unfold cu;refine wJ hk hl hR true true (λe ρ b=>?_) λe=>?_
 · rw[if_pos e]at h;exact⟨_,b,h⟩
 rw[if_neg (by simp[e])]at h;unfold cu;refine wJ hk hl hR true false (λe ρ b=>?_) λe=>?_
 · rw[if_pos e]at h;exact⟨_,b,h⟩
 rw[if_neg (by simp[e])]at h;unfold cu;refine wJ hk hl hR false true (λe ρ b=>?_) λe=>?_
 · rw[if_pos e]at h;exact⟨_,b,h⟩
 rw[if_neg (by simp[e])]at h;unfold cu;exact⟨by decide,_,aj (aj (aj aL)),h⟩
def dA:FS:=λls post=>∃(R:aR)(ps:List Rat)(k l:Nat)(hk:k<R.asks.length)(hl:l<R.asks.length),ls=[.d (aS R),.d (.lst (ps.map ND)),.d (.int (k:Int)),.d (.int (l:Int))]/\gu R ps/\post (.d (Oo (Ox R ps k l (bF R.n R.asks[k] R.asks[l])))) ls
def d9:W Fl:=(aV (bq 4 (bc (aP gN (ao (ak 0) (ao (ak 2) (ao (ak 3) aB))))))
  (aV (bq 5 (cz (ao (ak 2) (ao (ax aN (ak 4) (wC (.int 0))) (ao (ak 3) (ao (ax aN (ak 4) (wC (.int 1))) aB))))))
  (bS (ax tU (ak 5) (cz (ao (bc (aP fv (ao (ak 0) (ao (ak 1) (ao (ak 5) aB))))) aB))))))
theorem lK:∀ls post,ls.length=4->dA ls post->d9 (ls++List.replicate 2 .un) (aY ls post):=by rintro ls post - ⟨R,ps,k,l,hk,hl,rfl,hS,h⟩;unfold d9;walk_at "w";refine⟨R,k,l,hk,hl,rfl,hS.ok,?_⟩;walk_at "w";refine⟨by decide,R,ps,k,l,_,_,[],rfl,hS,by rw[hS.len];exact hk,by rw[hS.len];exact hl,?_⟩;walk_at "w";refine⟨by decide,by simp,by simp,by decide,_,aj (aj (aj (aj aL))),h⟩
def gO:FS:=λls post=>∃(R:aR)(ps:List Rat),ls=[.d (aS R),.d (.lst (ps.map ND))]/\gu R ps/\∀a,post (.own a ((v8 R 20 ps).map Oo)) ls
def jV:W Fl:=(aV (bq 5 (bc (aP dA (ao (ak 0) (ao (ak 2) (ao (ax aN (ak 4) (wC (.int 0))) (ao (ax aN (ak 4) (wC (.int 1))) aB)))))))
  (aV (vt (FE 3 (ak 5)))
  (aV (bq 2 (bc (aP fu (ao (ak 2) (ao (ak 5) aB)))))
  (bq 4 (bc (aP bo (ao (ak 0) (ao (bc (aP dW (ao (ak 0) (ao (ak 2) aB)))) aB))))))))
def jf:W Fl:=(aV (bq 2 (ak 1))
  (aV (bq 3 (fF aB))
  (aV (bq 4 (bc (aP bo (ao (ak 0) (ao (bc (aP dW (ao (ak 0) (ao (ak 2) aB)))) aB)))))
  (aV (oH (aO (ax xh (ak 4) (wC .non))) jV)
  (bS (lg 3))))))
theorem uQ{R:aR}{ps:List Rat}(h:gu R ps){post:L->List L->Prop}(q:post (.d (Bi (Oz (Oy R) (OB R ps)))) [.d (aS R),.d (.lst ((OB R ps).map λ(k:Nat)=>D.int (k:Int)))]):bo [.d (aS R),.d (.lst ((OB R ps).map λ(k:Nat)=>D.int (k:Int)))] post:=by refine⟨R,OB R ps,rfl,?_,λk hk=>by rw[← h.len];exact(lB hk).1,q⟩;refine Nat.le_trans (List.length_filter_le _ _) ?_;rw[List.length_range,h.len];exact h.ok.few
theorem qv{R:aR}{ps:List Rat}(h:gu R ps){post:L->List L->Prop}(q:∀a,post (.own a ((OB R ps).map λ(k:Nat)=>D.int (k:Int))) [.d (aS R),.d (.lst (ps.map ND))]):dW [.d (aS R),.d (.lst (ps.map ND))] post:=by refine⟨R,ps,1800,rfl,h.ok,h.len,λp hp=>?_,by decide,q⟩;obtain⟨i,hi,rfl⟩:=List.getElem_of_mem hp;rw[← cf hi];exact h.rb hi
theorem KI{R:aR}{ps:List Rat}(h:gu R ps){k l:Nat}(hk:k<ps.length)(hl:l<ps.length)(w:Bool×Bool):RB 4000 (Ox R ps k l w).am:=by
 show RB 4000 (Os R ps k w.1 l w.2);rcases(h.ms hk hl w.1 w.2).2.2.2 with e|e
 · rw[e];exact(pS h hk _).mono (by decide)
 · rw[e];exact(pS h hl _).mono (by decide)
theorem KJ{R:aR}{ps:List Rat}(h:gu R ps):∀p∈ps,RB 4000 p:=λp hp=>by obtain⟨i,hi,rfl⟩:=List.getElem_of_mem hp;rw[← cf hi];exact(h.rb hi).mono (by decide)
theorem pW:∀ls post,ls.length=2->gO ls post->jf (ls++List.replicate 4 .un) (aY ls post):=by
 rintro ls post - ⟨R,ps,rfl,hS,h⟩;unfold jf;walk_at "w";refine⟨by decide,λa=>qv hS λb=>?_⟩;walk_at "w";refine uQ hS ?_;walk_at "w";have h20:(OB R ps).length≤20:=by refine Nat.le_trans (List.length_filter_le _ _) ?_;rw[List.length_range,hS.len];exact hS.ok.few
 refine⟨λn ρ=>∃(qs:List Rat)(done:List cm)(m:Nat)(x5:L),ρ=[.d (aS R),.d (.lst (ps.map ND)),.d (.lst (qs.map ND)),.own a (done.map Oo),.d (Bi (Oz (Oy R) (OB R qs))),x5]/\gu R qs/\(OB R qs).length=n/\n≤m/\done.length+m=20/\done++v8 R m qs=v8 R 20 ps,
  ⟨_,ps,[],20,_,rfl,hS,rfl,h20,rfl,rfl⟩,?_⟩
 rintro n ρ ⟨qs,done,m,x5,rfl,hQ,hn,hm,hd,hs⟩
 cases e:Oz (Oy R) (OB R qs)with
 | none =>
  unfold Bi;walk_at "w"
  have e0:v8 R m qs=[]:=by
   cases m with
   |zero=>rfl
   |succ m=>unfold v8 B7;rw[e];rfl
  rw[e0,List.append_nil]at hs;subst hs;exact⟨_,aj (aj aL),h a⟩
 | some p =>
  obtain⟨k,l⟩:=p;obtain⟨hk,hl,hkl,hc⟩:=oh (Bj R qs) e;obtain⟨hk1,hk2⟩:=lB hk;obtain⟨hl1,hl2⟩:=lB hl;have hk':k<R.asks.length:=by rw[← hQ.len];exact hk1
  have hl':l<R.asks.length:=by rw[← hQ.len];exact hl1
  have hkl':k≠l:=by omega
  simp only[Bi];walk_at "w";unfold jV;walk_at "w";refine⟨R,qs,k,l,hk',hl',rfl,hQ,?_⟩;have en:B7 R qs=some (Ox R qs k l (bF R.n R.asks[k] R.asks[l])):=by unfold B7;rw[e];show some (Ox R qs k l (bF R.n (bh R k) (bh R l)))=_;rw[dG hk',dG hl']
  have ok2:=Eo hQ hk1 hl1 hkl' (bF R.n R.asks[k] R.asks[l]);have less:=xW hQ hk hl hkl' (bF R.n R.asks[k] R.asks[l]);have arb:=KI hQ hk1 hl1 (bF R.n R.asks[k] R.asks[l]);generalize hs':Ox R qs k l (bF R.n R.asks[k] R.asks[l])=s at *;have sk:s.k=k:=by rw[← hs'];rfl
  have sl:s.l=l:=by rw[← hs'];rfl
  walk_at "w";refine⟨?_,qs,s,rfl,by rw[hQ.len];exact hQ.ok.few,by rw[sk];exact hk1,by rw[sl];exact hl1,by rw[sk,sl];exact hkl',KJ hQ,arb,λc=>?_⟩
  · exact Nat.lt_of_le_of_lt (show done.length≤20 by omega) (by decide)
  walk_at "w";refine qv ok2 λd=>?_;walk_at "w";refine uQ ok2 ?_;walk_at "w"
  cases m with
  |zero=>omega
  | succ m =>
   refine⟨_,by rw[← hn];exact less,Ou qs s,done++[s],m,_,by rw[List.map_append];rfl,ok2,rfl,by omega,by simp;omega,?_⟩;rw[← hs,List.append_assoc]
   congr 1
   show s::v8 R m (Ou qs s)=v8 R (m+1) qs
   conv=>rhs;unfold v8
   rw[en]
def bY:FS:=λls post=>∃(ns:List Int)(k:Int),ls=[.d (.lst (ns.map .int)),.d (.int k)]/\0≤k/\k≤100/\∀a xs,iE xs->post (.own a xs) ls
def jg:W Fl:=(aV (bq 2 (wC (.int 0)))
  (aV (Nk (aO (ax qM (ak 1) (a8 df (ao (ak 0) aB)))) (bq 2 (ax aN (ak 0) (ak 1))) bN)
  (bS (fF (ao (ak 2) (ao (ax eB (ax bA (ax bA (ax eB (ak 2) (wC (.int 2147483587))) (ax bG (ax bG (wC (.int 48271)) (ak 1)) (ak 1))) (wC (.int 13))) (wC (.int 2147483587))) (ao (ax HY (ak 2) (ax yB (wC (.int 10)) (wC (.int 18)))) aB)))))))
theorem pX:∀ls post,ls.length=2->bY ls post->jg (ls++List.replicate 1 .un) (aY ls post):=by
 rintro ls post - ⟨ns,k,rfl,h0,h1,h⟩;unfold jg
 have Mx:∀(c:Int)(ρ:Ev)(e:ρ=[.d (.lst (ns.map .int)),.d (.int k),.d (.int c)]),∀a:Addr,aY [.d (.lst (ns.map .int)),.d (.int k)] post (.rt (.own a [.int c,.int ((c.fmod 2147483587+48271*k*k+13).fmod 2147483587),.bl (decide ((10:Int)^18≤c))])) ρ:=λc ρ e a=>by
  refine⟨_,aj (aj aL),h a _ ⟨_,_,_,rfl,?_,?_⟩⟩
  · rw[Int.fmod_eq_emod_of_nonneg _ (by decide)];exact Int.emod_nonneg _ (by decide)
  · rw[Int.fmod_eq_emod_of_nonneg _ (by decide)];have:=Int.emod_lt_of_pos (c.fmod 2147483587+48271*k*k+13) (b:=2147483587) (by decide);omega
 have hb1:cJ 48271:=bB (by decide);have hb2:cJ k:=bB (Nat.lt_of_le_of_lt (show k.natAbs≤100 by omega) (by decide));have hb3:cJ (48271*k):=bB (Nat.lt_of_le_of_lt (show(48271*k).natAbs≤4827100 by omega) (by decide));walk_at "w"
 try rw[List.length_map]
 split
 ·
  rename_i hk;have hk:k<(ns.length:Int):=by simpa using hk
  have hi:k.toNat<ns.length:=by omega
  refine⟨.int ns[k.toNat],xG h0 (by rw[List.getElem?_map,List.getElem?_eq_getElem hi];rfl),?_⟩;exact⟨by decide,hb1,hb2,hb3,hb2,by decide,by decide,by decide,by decide,by decide,Mx _ _ rfl⟩
 · exact⟨by decide,hb1,hb2,hb3,hb2,by decide,by decide,by decide,by decide,by decide,Mx _ _ rfl⟩
def aE:FS:=λls post=>∃(a:Addr)(xs:List D)(m:Int),ls=[.own a xs,.d (.int m)]/\iE xs/\0<m/\m≤10^60/\∀(r:Int)(ys:List D),iE ys->0≤r->r<m->post (.d (.int r)) [.own a ys,.d (.int m)]
def gQ:W Fl:=(aV (qQ 0 (wC (.int 1)) (ax eB (ax bA (ax bG (eQ 0 (yH 0 (wC (.int 1))) (ax aN (ak 0) (wC (.int 1)))) (wC (.int 39373))) (wC (.int 17))) (wC (.int 2147483647))))
  (bq 3 (bc (ax bA (ax bG (ak 3) (wC (.int 2147483629))) (ax eB (ax bG (eQ 0 (yH 0 (wC (.int 1))) (ax aN (ak 0) (wC (.int 1)))) (eQ 0 (yH 0 (wC (.int 1))) (ax aN (ak 0) (wC (.int 1))))) (wC (.int 2147483629)))))))
def kN:W Fl:=(aV (Nk (aO (eQ 0 (yH 0 (wC (.int 2))) (ax aN (ak 0) (wC (.int 2))))) (aV (bq 2 (ax eB (eQ 0 (yH 0 (wC (.int 0))) (ax aN (ak 0) (wC (.int 0)))) (ak 1)))
  (aV (qQ 0 (wC (.int 0)) (ax pP (eQ 0 (yH 0 (wC (.int 0))) (ax aN (ak 0) (wC (.int 0)))) (ak 1)))
  (aV (qQ 0 (wC (.int 2)) (ax G8 (eQ 0 (yH 0 (wC (.int 0))) (ax aN (ak 0) (wC (.int 0)))) (wC (.int 0))))
  (bS (lg 2))))) bN)
  (aV (bq 3 (wC (.int 0)))
  (aV (vw (tH (ax bA (wC (.int 1)) (ax bG (wC (.int 8)) (a8 Ak (ao (ax G8 (ak 1) (ax yB (wC (.int 10)) (wC (.int 6)))) aB))))) (b8 4) gQ)
  (bS (ax eB (ax pP (ak 3) (wC (.int 64))) (ak 1))))))
theorem uR{a:Addr}{c:Int}{m x2:L}{post:Fl->Ev->Prop}:∀(items:List D)(sd dr:Int)(j:Nat)(x4:L),j+items.length≤100->0≤sd->sd<2147483647->0≤dr->dr<2^(40*j) ->
  (∀sd' dr' x',0≤sd'->sd' < 2147483647->0≤dr'->post .nx [.own a [.int c,.int sd',.bl false],m,x2,.d (.int dr'),x']) ->
  cu (b8 4) gQ items [.own a [.int c,.int sd,.bl false],m,x2,.d (.int dr),x4] post
 |[],sd,dr,j,x4,_,h0,h1,h2,h3,h=>h sd dr x4 h0 h1 h2
 | y::items,sd,dr,j,x4,hl,h0,h1,h2,h3,h=>by
  unfold cu gQ;walk_at "w";obtain⟨r0,r1⟩:=gF (sd*39373+17) (m:=2147483647) (by decide);generalize (sd*39373+17).fmod 2147483647=s' at r0 r1 ⊢;obtain⟨q0,q1⟩:=gF (s'*s') (m:=2147483629) (by decide);generalize (s'*s').fmod 2147483629=t' at q0 q1 ⊢;have hl':j+(items.length+1)≤100:=hl;have b1:cJ sd:=vL (n:=40) h0 (by omega) (by decide);have b2:cJ s':=vL (n:=40) r0 (by omega) (by decide);have b3:cJ dr:=vL (n:=40*j) h2 h3 (by omega);have b4:cJ 39373:=bB (by decide);have b5:cJ 2147483629:=bB (by decide);refine⟨b1,b4,by decide,b3,b5,b2,b2,by decide,?_⟩;refine uR items s' (dr*2147483629+t') (j+1) _ (by omega) r0 r1 (by omega) ?_ h;have e:(2:Int)^(40*(j+1))=2^(40*j)*1099511627776:=by rw[Nat.mul_succ,Int.pow_add];rfl
  omega
theorem r6:∀ls post,ls.length=2->aE ls post->kN (ls++List.replicate 3 .un) (aY ls post):=by
 rintro ls post - ⟨a,xs,m,rfl,⟨c,sd,t,rfl,h0,h1⟩,hm,hM,h⟩;unfold kN;have hm0:m≠0:=by omega
 have hmz:=t9 (by omega) hM
 cases t with
 | true =>
  walk_at "w";obtain⟨r0,r1⟩:=gF c hm;exact⟨hm0,hm0,hmz,_,dF List.mem_cons_self (aj aL),h _ _ ⟨_,_,_,rfl,h0,h1⟩ r0 r1⟩
 | false =>
  walk_at "w";refine⟨by decide,by decide,by decide,bB (by decide),bB (by split<;>decide),⟨by split<;>decide,by split<;>decide⟩,?_⟩;refine uR (c:=c) _ sd 0 0 _ (by simp only[ve,List.length_map,List.length_range];split<;>decide) h0 h1 (by decide) (by decide) λsd' dr' x' g0 g1 g2=>?_;walk_at "w";obtain⟨r0,r1⟩:=gF (dr'.fdiv 64) hm;exact⟨by decide,by decide,hm0,_,dF List.mem_cons_self (aj aL),h _ _ ⟨_,_,_,rfl,g0,g1⟩ r0 r1⟩
def gR:FS:=λls post=>∃(a:Addr)(xs:List D)(many:Nat),ls=[.own a xs,.d (.int many)]/\iE xs/\many≤26 /\
 ∀(zs:List Str)(c:Addr)(ys:List D),iE ys->zs.length=many->(∀z∈zs,vU z)->zs.Nodup->post (.own c (zs.map .str)) [.own a ys,.d (.int many)]
def jW:W L:=(ax bA (ax bA (xq (ak 1) none (some (ak 2))) (ax aN (ak 3) (ax eB (ax bA (ak 4) (ak 0)) (wC (.int 26))))) (xq (ak 1) (some (ax bA (ak 2) (wC (.int 1)))) none))
def jX:W Fl:=(bS (oO 1 [3,4,2,5] (tH (ak 1)) (b8 0) qU jW))
def jY:W Fl:=(aV (bq 5 (bc (bp aE 0 0 (jE 0 (ao (wC (.int 26)) aB)))))
  jX)
def jZ:W L:=(ax aN (ak 1) (bp aE 0 2 (jE 2 (ao (wC (.int 26)) aB))))
def j2:W Fl:=(aV (bq 4 (bc (bp aE 0 0 (jE 0 (ao (bc (a8 df (ao (ak 3) aB))) aB)))))
  jY)
def j3:W Fl:=(aV (bq 3 (bc (FN "" (oO 1 [2,0] (tH (ax bA (wC (.int 1)) (bp aE 0 0 (jE 0 (ao (wC (.int 8)) aB))))) (b8 0) qU jZ))))
  j2)
def jh:W Fl:=(aV (bq 2 (wC (.str "abcdefghijklmnopqrstuvwxyz")))
  j3)
theorem pY:∀ls post,ls.length=2->gR ls post->jh (ls++List.replicate 4 .un) (aY ls post):=by
 rintro ls post - ⟨a,xs,many,rfl,hx,hm,h⟩;unfold jh;walk_at "w";unfold j3;walk_at "w";refine⟨a,xs,8,rfl,hx,by decide,by decide,λr ys hy r0 r1=>⟨ys,rfl,?_⟩⟩;walk_at "w";refine⟨⟨by omega,by omega⟩,?_⟩;rw[ly];refine⟨by rw[List.length_map,List.length_range];exact Nat.le_trans (show(1+r).toNat≤8 by omega) (by decide),?_⟩;refine xF _ (λj ρ acc=>∃(l:L)(ys:List D)(cs:List Nat),ρ=[l,.d (.str rl),.own a ys]/\iE ys/\acc=cs.map (λc=>D.str ⟨#[c]⟩)/\cs.length=j/\∀c∈cs,o3 c) _ _ ⟨_,ys,[],rfl,hy,rfl,rfl,λc hc=>by simp at hc⟩ ?_ ?_
 ·
  rintro j x ρ acc hx ⟨l,ys,cs,rfl,hy,rfl,hl,hc⟩ Q hQ;unfold qU jZ;walk_at "w";refine⟨a,ys,26,rfl,hy,by decide,by decide,λq ws hw q0 q1=>⟨ws,rfl,by decide,_,qp q0 q1,?_⟩⟩;refine hQ _ _ ⟨_,ws,cs++[q.toNat+97],rfl,hw,by simp,by simp[hl],λc hm=>?_⟩;rcases List.mem_append.mp hm with hm|hm
  · exact hc c hm
  · rw[List.mem_singleton.mp hm];unfold o3;omega
 ·
  rintro ρ acc ⟨l,ys,cs,rfl,hy,rfl,hl,hc⟩;rw[List.length_map,List.length_range]at hl;walk_at "w";intro aa;refine⟨cs.map λc=>⟨#[c]⟩,by simp,by rw[xM,List.length_map];show cs.length+cs.length*0≤_;omega,?_⟩
  have hb:vU (Txt.join "" (cs.map λc=>(⟨#[c]⟩:Str))):=by
   refine⟨?_,?_,?_⟩
   · rw[mC];omega
   · rw[mC];omega
   · rw[mC];exact hc
  generalize Txt.join "" (cs.map λc=>(⟨#[c]⟩:Str))=base at hb ⊢;have hbl:=jH base;have hb1:=hb.lo;have hb2:=hb.hi;unfold j2;walk_at "w";refine⟨Nat.le_trans (show base.length≤8 by omega) (by decide),a,ys,base.length,rfl,hy,by omega,by omega,λp ws hw p0 p1=>⟨ws,rfl,?_⟩⟩;unfold jY;walk_at "w";refine⟨a,ws,26,rfl,hw,by decide,by decide,λt vs hv t0 t1=>⟨vs,rfl,?_⟩⟩;unfold jX;walk_at "w";refine⟨⟨by omega,by omega⟩,?_⟩;rw[ly];refine⟨by rw[List.length_map,List.length_range];exact Nat.le_trans (show((many:Int)).toNat≤26 by omega) (by decide),?_⟩;refine n8 (h:=λk=>D.str (nameAt base p.toNat t.toNat k)) _ _ _ (λk hk Q q=>?_) λl'=>?_
  ·
   have hk:k<many:=by have:=List.mem_range.mp hk;omega
   unfold jW;walk_at "w";refine⟨Nat.le_trans (show base.length≤8 by omega) (by decide),by decide,by decide,_,qp (i:=(t+(k:Int)).fmod 26) (gF _ (by decide)).1 (gF _ (by decide)).2,?_⟩;have e1:=Dr (x:=base) p0 (by omega);have e2:=yX (x:=base) (i:=p+1) (by omega) (by omega);have l1:(Txt.slice base none (some p)).length≤8:=by rw[jH,e1,List.length_take];omega
   have l2:(Txt.slice base (some (p+1)) none).length≤8:=by rw[jH,e2,List.length_drop];omega
   have e3:((t+(k:Int)).fmod 26).toNat=(t.toNat+k) % 26:=by rw[Int.fmod_eq_emod_of_nonneg _ (by decide)];omega
   have e4:Txt.slice base none (some p)++(⟨#[((t+(k:Int)).fmod 26).toNat+97]⟩:Str)++Txt.slice base (some (p+1)) none=nameAt base p.toNat t.toNat k:=by
    apply GB;rw[lz,lz,e1,e2,e3];have:(p+1).toNat=p.toNat+1:=by omega
    simp[L2.nameAt,this]
   have one:∀c:Nat,(⟨#[c]⟩:Str).length=1:=λ_=>rfl;have lc:(Txt.slice base none (some p)++(⟨#[((t+(k:Int)).fmod 26).toNat+97]⟩:Str)).length≤9:=by rw[jH,lz,List.length_append,← jH,← jH,one];omega
   refine⟨Nat.le_trans (show _≤9 by rw[one];omega) (by decide),Nat.le_trans (show base.length≤8 by omega) (by decide),Nat.le_trans (Nat.add_le_add lc l2) (by decide),?_⟩;rw[e4];exact q
  ·
   walk_at "w";intro c;refine⟨_,dF (ys:=vs) (by simp) (aj aL),?_⟩;have e:List.map (λk=>D.str (nameAt base p.toNat t.toNat k)) (List.range ((many:Int)).toNat)=((List.range many).map λk=>nameAt base p.toNat t.toNat k).map D.str:=by rw[List.map_map,Int.toNat_natCast];rfl
   rw[e];refine h _ c vs hv (by simp) (λz hz=>?_) (ui List.nodup_range λx hx y hy=>?_)
   · obtain⟨k,_,rfl⟩:=List.mem_map.mp hz;exact A6 hb (by omega)
   · exact yY (by omega) (by have:=List.mem_range.mp hx;omega) (by have:=List.mem_range.mp hy;omega)
def cn:FS:=λls post=>∃t b:Int,ls=[.d (.int t),.d (.int b)]/\b≠0/\b.natAbs<2^9000/\post (.d (ND (Rat.divInt t b))) ls
def nj:W Fl:=(JI 2 3 (ax eB (ak 3) (ak 2)) (ak 2))
def mS:W Fl:=(aV (bq 2 (bc (a8 yD (ao (ak 0) aB))))
  (aV (bq 3 (bc (a8 yD (ao (ak 1) aB))))
  (aV (oH (aO (ax yC (ak 2) (wC (.int 0)))) nj)
  (aV (Nk (aO (ax qM (ak 1) (wC (.int 0)))) (bq 3 (ax iD (wC (.int 0)) (ak 3))) bN)
  (bS (cz (ao (ax pP (ak 0) (ak 3)) (ao (ax pP (ak 1) (ak 3)) aB))))))))
theorem uS:∀ls post,ls.length=2->cn ls post->mS (ls++List.replicate 2 .un) (aY ls post):=by
 rintro ls post - ⟨t,b,rfl,hb,hz,h⟩;unfold mS;walk_at "w";have h1:=xj (t:=t) hb;have h2:=Nat.lt_of_le_of_lt (xk (t:=t) hb) hz
 have Mx:∀{g:Int}{ρ:Ev},g=cD t b->g≠0/\g.natAbs<2^9000/\g≠0/\g.natAbs<2^9000/\2≤sizeLine/\aY [.d (.int t),.d (.int b)] post (.rt (.d (.tup [.int (t.fdiv g),.int (b.fdiv g)]))) ρ:=λ{g ρ} e=>by
  have e1:g≠0:=by rw[e];exact h1
  have e2:g.natAbs<2^9000:=by rw[e];exact h2
  refine⟨e1,e2,e1,e2,by decide,_,aj (aj aL),?_⟩;rw[xI hb e];exact h
 refine⟨λn ρ=>∃x y:Int,ρ=[.d (.int t),.d (.int b),.d (.int x),.d (.int y)]/\0≤x/\0≤y/\Int.gcd x y=Int.gcd t b/\n=x.natAbs,⟨_,_,_,rfl,by split<;>omega,by split<;>omega,?_,rfl⟩,?_⟩
 ·
  have e1:(if t<0 then -t else t)=(t.natAbs:Int):=by split<;>omega
  have e2:(if b<0 then -b else b)=(b.natAbs:Int):=by split<;>omega
  rw[e1,e2];simp[Int.gcd]
 ·
  rintro n ρ ⟨x,y,rfl,x0,y0,hg,rfl⟩;unfold nj;walk_at "w";split
  ·
   rename_i hx;have hx:x≠0:=by simpa using hx
   refine⟨hx,_,jT y hx,_,_,rfl,(gF y (by omega)).1,x0,?_,rfl⟩;rw[Int.gcd_comm,xi,Int.gcd_comm];exact hg
  ·
   rename_i hx;have hx:x=0:=by simpa using hx
   subst hx;have hy:y=(Int.gcd t b:Int):=by rw[← hg,Int.gcd_zero_left];omega
   split
   · rename_i hlt;exact Mx (by simp[cD,hlt,hy])
   · rename_i hlt;exact Mx (by simp[cD,hlt,hy])
def cL:FS:=λls post=>∃(a:Addr)(xs:List D)(least kind:Int),ls=[.own a xs,.d (.int least),.d (.int kind)]/\iE xs/\0≤least/\least≤1/\0≤kind/\kind<5 /\
 ∀(q:Rat)(ys:List D),iE ys->0≤q->(least=1->0<q)->RB 60 q->post (.d (ND q)) [.own a ys,.d (.int least),.d (.int kind)]
def ji:W Fl:=(bS (aP cn (ao (ak 4) (ao (ak 3) aB))))
def jj:W Fl:=(aV (bq 4 (bc (ax bA (ak 1) (bp aE 0 0 (jE 0 (ao (ax aN (fF (ao (wC (.int 3)) (ao (wC (.int 10)) (ao (wC (.int 10)) (ao (wC (.int 40)) (ao (ax yB (wC (.int 10)) (wC (.int 12))) aB)))))) (ak 2)) aB))))))
  ji)
def gS:W Fl:=(aV (bq 3 (bc (ax bA (wC (.int 1)) (bp aE 0 0 (jE 0 (ao (ax aN (fF (ao (wC (.int 1)) (ao (wC (.int 1)) (ao (wC (.int 4)) (ao (wC (.int 12)) (ao (wC (.int 12)) aB)))))) (ak 2)) aB))))))
  jj)
theorem BC{t b:Int}(h0:0≤t)(h1:t<2^59)(h2:0<b)(h3:b<2^59):0≤Rat.divInt t b/\(0<t->0<Rat.divInt t b)/\RB 60 (Rat.divInt t b):=by
 have e:=Rat.divInt_nonneg (a:=t) (b:=b) h0 (by omega);refine⟨e,λht=>?_,RB.of_divInt (by omega) ?_ ?_⟩
 ·
  refine Rat.lt_of_le_of_ne e λz=>?_;have:Rat.divInt 0 1=Rat.divInt t b:=by rw[← z];rfl
  rw[Rat.divInt_eq_divInt_iff (by decide) (by omega)]at this;omega
 ·
  have:(2:Int)^59=((2^59:Nat):Int):=by decide
  have:(2:Nat)^59<2^60:=by decide
  omega
 ·
  have:(2:Int)^59=((2^59:Nat):Int):=by decide
  have:(2:Nat)^59<2^60:=by decide
  omega
theorem KL{k:Int}(h0:0≤k)(h1:k<5):∃m:Int,MT [D.int 1,.int 1,.int 4,.int 12,.int 12] k=some (.int m)/\1≤m/\m≤12:=by
 obtain rfl|rfl|rfl|rfl|rfl:k=0∨k=1∨k=2∨k=3∨k=4:=by omega
 all_goals exact⟨_,rfl,by decide,by decide⟩
theorem KM{k:Int}(h0:0≤k)(h1:k<5):∃m:Int,MT [D.int 3,.int 10,.int 10,.int 40,.int (10^12)] k=some (.int m)/\1≤m/\m≤10^12:=by
 obtain rfl|rfl|rfl|rfl|rfl:k=0∨k=1∨k=2∨k=3∨k=4:=by omega
 all_goals exact⟨_,rfl,by decide,by decide⟩
theorem pE:∀ls post,ls.length=3->cL ls post->gS (ls++List.replicate 2 .un) (aY ls post):=by rintro ls post - ⟨a,xs,least,kind,rfl,hx,l0,l1,k0,k1,h⟩;obtain⟨m1,e1,m10,m11⟩:=KL k0 k1;obtain⟨m2,e2,m20,m21⟩:=KM k0 k1;unfold gS;walk_at "w";refine⟨by decide,λ_=>⟨_,e1,a,xs,m1,rfl,hx,by omega,by omega,λr ys hy r0 r1=>⟨ys,rfl,?_⟩⟩⟩;unfold jj;walk_at "w";refine⟨by decide,by decide,by decide,by decide,λ_=>⟨_,e2,a,ys,m2,rfl,hy,by omega,by omega,λs zs hz s0 s1=>⟨zs,rfl,?_⟩⟩⟩;unfold ji;walk_at "w";obtain⟨a1,a2,a3⟩:=BC (t:=least+s) (b:=1+r) (by omega) (by omega) (by omega) (by omega);exact⟨_,_,rfl,by omega,t9 (by omega) (by omega),_,dF (by simp) (aj (aj aL)),h _ zs hz a1 (λe=>a2 (by omega)) a3⟩
def gT:FS:=λls post=>∃(a:Addr)(xs:List D)(n:Nat)(kind:Int),ls=[.own a xs,.d (.int n),.d (.int kind)]/\iE xs/\1≤n/\n≤1000/\0≤kind/\kind<5 /\
 ∀(qs:List Rat)(c:Addr)(ys:List D),iE ys->qs.length=n->(∀q∈qs,0<q/\RB 60 q)->post (.own c (qs.map ND)) [.own a ys,.d (.int n),.d (.int kind)]
def j4:W Fl:=(aV (bq 6 (bc (bp cL 0 0 (jE 0 (ao (wC (.int 1)) (ao (ak 2) aB))))))
  (vt (FE 5 (ax aN (fF (ao (ak 4) (ao (ak 6) aB))) (a8 Ak (ao (ax oK (ak 3) (wC (.int 2))) aB))))))
def j5:W Fl:=(bS (lg 5))
def j6:W Fl:=(aV (oH (aO (ax qM (eQ 5 (FF 5) (a8 df (ao (ak 5) aB))) (ak 1))) j4)
  j5)
def fR:W Fl:=(aV (bq 5 (fF (ao (ak 4) aB)))
  j6)
def j7:W Fl:=(aV (Nk (aO (ax oK (ak 3) (wC (.int 0)))) (bq 4 (cz (ao (wC (.int 1)) (ao (wC (.int 1)) aB)))) bN)
  fR)
def j8:W Fl:=(aV (bq 4 (bc (bp cL 0 0 (jE 0 (ao (wC (.int 1)) (ao (ak 2) aB))))))
  j7)
def jk:W Fl:=(aV (bq 3 (bc (bp aE 0 0 (jE 0 (ao (wC (.int 3)) aB)))))
  j8)
theorem pZ:∀ls post,ls.length=3->gT ls post->jk (ls++List.replicate 4 .un) (aY ls post):=by
 rintro ls post - ⟨a,xs,n,kind,rfl,hx,n1,n2,k0,k1,h⟩;have one:ND 1=.tup [.int 1,.int 1]:=rfl
 have eh:∀(alike:Int)(p:Rat)(ys:List D),iE ys->0<p->RB 60 p ->
   fR [.own a ys,.d (.int n),.d (.int kind),.d (.int alike),.d (ND p),.un,.un] (aY [.own a xs,.d (.int n),.d (.int kind)] post):=by
  intro alike p ys hy hp hb;unfold fR;walk_at "w";refine⟨by decide,λc=>?_⟩;unfold j6;walk_at "w";refine⟨λm ρ=>∃(qs:List Rat)(zs:List D)(l:L),ρ=[.own a zs,.d (.int n),.d (.int kind),.d (.int alike),.d (ND p),.own c (qs.map ND),l]/\iE zs/\qs.length≤n/\m=n-qs.length/\∀q∈qs,0<q/\RB 60 q,⟨_,[p],ys,_,rfl,hy,n1,rfl,by intro q hq;rw[List.mem_singleton.mp hq];exact⟨hp,hb⟩⟩,?_⟩;rintro m ρ ⟨qs,zs,l,rfl,hz,hl,rfl,hq⟩;walk_at "w"
  try rw[List.length_map]
  split
  ·
   rename_i hlt;unfold j4;walk_at "w";refine⟨a,zs,1,kind,rfl,hz,by decide,by decide,k0,k1,λq ws hw q0 q1 qb=>⟨ws,rfl,?_⟩⟩;walk_at "w";have hs:qs.length<sizeLine:=by exact Nat.lt_of_le_of_lt (show qs.length≤1000 by omega) (by decide)
   have more:∀q':Rat,0<q'->RB 60 q'->∃m,m<n-qs.length/\∃(qs':List Rat)(zs:List D)(l:L),[L.own a ws,.d (.int n),.d (.int kind),.d (.int alike),.d (ND p),.own c (qs.map ND++[ND q']),.d (ND q)]=[.own a zs,.d (.int n),.d (.int kind),.d (.int alike),.d (ND p),.own c (qs'.map ND),l]/\iE zs/\qs'.length≤n/\m=n-qs'.length/\∀q∈qs',0<q/\RB 60 q:=by
    intro q' p0 pb;refine⟨n-(qs++[q']).length,by rw[List.length_append];simp only[List.length_singleton];omega,qs++[q'],ws,.d (ND q),by rw[List.map_append];rfl,hw,by rw[List.length_append];simp only[List.length_singleton];omega,rfl,λz hz=>?_⟩;rcases List.mem_append.mp hz with hz|hz
    · exact hq z hz
    · rw[List.mem_singleton.mp hz];exact⟨p0,pb⟩
   refine⟨by decide,λ_=>?_⟩;by_cases h2:alike=2
   · refine⟨ND q,?_,hs,more q (q1 rfl) qb⟩;simp[h2,t8]
   · refine⟨ND p,?_,hs,more p hp hb⟩;simp[h2,t7]
  ·
   have e:qs.length=n:=by omega
   unfold j5;walk_at "w";exact⟨_,dF (by simp) (aj (aj aL)),h qs c zs hz e hq⟩
 unfold jk;walk_at "w";refine⟨a,xs,3,rfl,hx,by decide,by decide,λr ys hy r0 r1=>⟨ys,rfl,?_⟩⟩;unfold j8;walk_at "w";refine⟨a,ys,1,kind,rfl,hy,by decide,by decide,k0,k1,λq zs hz q0 q1 qb=>⟨zs,rfl,?_⟩⟩;unfold j7;walk_at "w";split
 · exact⟨by decide,eh r 1 zs hz (by decide) ⟨by decide,by decide⟩⟩
 · exact eh r q zs hz (q1 rfl) qb
def jm:FS:=λls post=>∃(a:Addr)(xs:List D)(shape k:Int)(n:Nat),ls=[.own a xs,.d (.int shape),.d (.int n),.d (.int k)]/\iE xs/\2≤n/\n≤1000/\0≤k/\k≤1000 /\
 ∀(i j:Nat)(ys:List D),iE ys->i<n->j<n->i≠j->post (.d (.tup [.int i,.int j])) [.own a ys,.d (.int shape),.d (.int n),.d (.int k)]
def lL:W Fl:=(bS (cz (ao (ak 4) (ao (ak 5) aB))))
def lM:W Fl:=(aV (Nk (aO (ax oK (ak 1) (wC (.int 3)))) (bS (cz (ao (wC (.int 0)) (ao (bc (ax bA (wC (.int 1)) (ax eB (ak 5) (ax iD (ak 2) (wC (.int 1)))))) aB)))) bN)
  lL)
def lN:W Fl:=(aV (Nk (aO (ax oK (ak 1) (wC (.int 2)))) (bS (cz (ao (bc (ax bG (ax eB (ak 3) (wC (.int 2))) (ax iD (ak 2) (wC (.int 1))))) (ao (bc (ax bG (ax iD (wC (.int 1)) (ax eB (ak 3) (wC (.int 2)))) (ax iD (ak 2) (wC (.int 1))))) aB)))) bN)
  lM)
def lO:W Fl:=(aV (Nk (aO (ax oK (ak 1) (wC (.int 1)))) (bS (cz (ao (ax eB (ak 3) (ak 2)) (ao (ax eB (ax bA (ak 3) (ax pP (ak 2) (wC (.int 2)))) (ak 2)) aB)))) bN)
  lN)
def lP:W Fl:=(aV (bq 5 (ax eB (ax bA (ax bA (ak 4) (wC (.int 1))) (bp aE 0 0 (jE 0 (ao (ax iD (ak 2) (wC (.int 1))) aB)))) (ak 2)))
  lO)
def kO:W Fl:=(aV (bq 4 (bc (bp aE 0 0 (jE 0 (ao (ak 2) aB)))))
  lP)
theorem r9:∀ls post,ls.length=4->jm ls post->kO (ls++List.replicate 2 .un) (aY ls post):=by
 rintro ls post - ⟨a,xs,shape,k,n,rfl,hx,n2,n3,k0,k1,h⟩;have Mx:∀(ys:List D)(i j:Int)(ρ:Ev),iE ys->0≤i->i<n->0≤j->j<n->i≠j->.own a ys∈ρ->aY [.own a xs,.d (.int shape),.d (.int n),.d (.int k)] post (.rt (.d (.tup [.int i,.int j]))) ρ:=by intro ys i j ρ hy i0 i1 j0 j1 hij hm;have:=h i.toNat j.toNat ys hy (by omega) (by omega) (by omega);rw[Int.toNat_of_nonneg i0,Int.toNat_of_nonneg j0]at this;exact⟨_,dF hm (aj (aj (aj aL))),this⟩
 unfold kO;walk_at "w";refine⟨a,xs,n,rfl,hx,by omega,by omega,λr ys hy r0 r1=>⟨ys,rfl,?_⟩⟩;unfold lP;walk_at "w";refine⟨a,ys,n-1,rfl,hy,by omega,by omega,λs zs hz s0 s1=>⟨zs,rfl,?_⟩⟩;walk_at "w";refine⟨by omega,?_⟩;have e1:=Int.fmod_eq_emod_of_nonneg (r+1+s) (b:=n) (by omega);have e2:=Int.fmod_eq_emod_of_nonneg k (b:=n) (by omega);have e3:=Int.fdiv_eq_ediv_of_nonneg (n:Int) (b:=2) (by omega);have e4:=Int.fmod_eq_emod_of_nonneg (k+(n:Int) / 2) (b:=n) (by omega);have e5:=Int.fmod_eq_emod_of_nonneg k (b:=2) (by omega);have e6:=Int.fmod_eq_emod_of_nonneg ((r+1+s) % (n:Int)) (b:=(n:Int)-1) (by omega);rw[e1];have o0:=Int.emod_nonneg (r+1+s) (b:=n) (by omega);have o1:=Int.emod_lt_of_pos (r+1+s) (b:=n) (by omega)
 have o2:(r+1+s) % (n:Int)≠r:=λz=>by
  by_cases q:r+1+s<n
  · rw[Int.emod_eq_of_lt (by omega) q]at z;omega
  ·
   have:(r+1+s) % (n:Int)=r+1+s-n:=by rw[← Int.sub_emod_right,Int.emod_eq_of_lt (by omega) (by omega)]
   omega
 unfold lO;walk_at "w";split
 ·
  rw[e2,e3,e4];refine⟨by omega,by decide,by decide,by omega,by decide,Mx zs _ _ _ hz (Int.emod_nonneg _ (by omega)) (Int.emod_lt_of_pos _ (by omega)) (Int.emod_nonneg _ (by omega)) (Int.emod_lt_of_pos _ (by omega)) (λz=>?_) (by simp)⟩;have h1:(k+(n:Int) / 2-k) % n=0:=Int.emod_eq_emod_iff_emod_sub_eq_zero.mp z.symm;have e9:k+(n:Int) / 2-k=n / 2:=by omega
  rw[e9,Int.emod_eq_of_lt (by omega) (by omega)]at h1;omega
 ·
  unfold lN;walk_at "w";split
  ·
   rw[e5];have m0:=Int.emod_two_eq k;refine⟨by decide,bB (by omega),bB (by omega),by decide,bB (by omega),bB (by omega),by decide,?_⟩;rcases m0 with m0|m0
   · rw[m0];exact Mx zs _ _ _ hz (by omega) (by omega) (by omega) (by omega) (by omega) (by simp)
   · rw[m0];exact Mx zs _ _ _ hz (by omega) (by omega) (by omega) (by omega) (by omega) (by simp)
  ·
   unfold lM;walk_at "w";split
   · rw[e6];have p0:=Int.emod_nonneg ((r+1+s) % (n:Int)) (b:=(n:Int)-1) (by omega);have p1:=Int.emod_lt_of_pos ((r+1+s) % (n:Int)) (b:=(n:Int)-1) (by omega);exact⟨by omega,by decide,Mx zs _ _ _ hz (by omega) (by omega) (by omega) (by omega) (by omega) (by simp)⟩
   · unfold lL;walk_at "w";exact⟨by decide,Mx zs _ _ _ hz (by omega) (by omega) (by omega) (by omega) (Ne.symm o2) (by simp)⟩
structure Drawn (most count:Nat) (R:aR):Prop where
 ok:R.Ok
 hi:R.n≤most
 few:R.asks.length≤count
 nms:(∀a∈R.asks,vU a.nm)/\(R.asks.map (·.nm)).Nodup
 tt:∀a∈R.asks,RB 60 a.size
def jn:FS:=λls post=>∃(ns:List Int)(at_ most count:Nat),ls=[.d (.lst (ns.map .int)),.d (.int at_),.d (.int most),.d (.int count)]/\at_≤90/\2≤most/\most≤12/\count≤20 /\
 ∀R:aR,Drawn most count R->post (.d (aS R)) ls
def gU:W Fl:=(aV (vA [13,14] (bp jm 0 4 (jE 4 (ao (ak 8) (ao (ak 5) (ao (ak 12) aB))))))
  (vt (FE 11 (cz (ao (ax aN (ak 9) (ak 12)) (ao (ak 13) (ao (ak 14) (ao (bc (bp cL 0 4 (jE 4 (ao (wC (.int 0)) (ao (ax aN (ak 7) (wC (.int 1))) aB))))) aB))))))))
def lQ:W Fl:=(bS (cz (ao (ak 10) (ao (ak 11) aB))))
def lR:W Fl:=(aV (vw (tH (ak 6)) (b8 12) gU)
  lQ)
def lS:W Fl:=(aV (bq 11 (fF aB))
  lR)
def lT:W Fl:=(aV (bq 4 (aP bY (ao (ak 0) (ao (bc (ax bA (ak 1) (wC (.int 2)))) aB))))
  lS)
def lU:W Fl:=(aV (bq 10 (bc (aP gT (ao (aP bY (ao (ak 0) (ao (bc (ax bA (ak 1) (wC (.int 1)))) aB))) (ao (ak 5) (ao (ax aN (ak 7) (wC (.int 0))) aB))))))
  lT)
def lV:W Fl:=(aV (bq 9 (bc (bp gR 0 4 (jE 4 (ao (ak 6) aB)))))
  lU)
def lW:W Fl:=(aV (bq 8 (bc (bp aE 0 4 (jE 4 (ao (wC (.int 6)) aB)))))
  lV)
def lX:W Fl:=(aV (bq 7 (bc (fF (ao (bc (bp aE 0 4 (jE 4 (ao (wC (.int 5)) aB)))) (ao (bc (bp aE 0 4 (jE 4 (ao (wC (.int 5)) aB)))) aB)))))
  lW)
def lY:W Fl:=(aV (bq 6 (bc (bp aE 0 4 (jE 4 (ao (bc (ax bA (ak 3) (wC (.int 1)))) aB)))))
  lX)
def lZ:W Fl:=(aV (bq 5 (bc (ax bA (wC (.int 2)) (bp aE 0 4 (jE 4 (ao (ax iD (ak 2) (wC (.int 1))) aB))))))
  lY)
def kP:W Fl:=(aV (bq 4 (aP bY (ao (ak 0) (ao (ak 1) aB))))
  lZ)
theorem BD{S a1 m3 c3 rms:D}{b c:Addr}{n shape kind:Nat}{zs:List Str}{post:Fl->Ev->Prop}(hn:2≤n)(hn2:n≤12)(hk:kind<5)(k0:Nat)(hzl:zs.length≤20)(hz:∀z∈zs,vU z)(xs:List D)(hx:iE xs)(x13 x14:L)
  (Mx:∀(as:List N9)(ys:List D)(x12 x13 x14:L),(∀a∈as,fk n a/\RB 60 a.size)->as.map (·.nm)=zs->post .nx [.d S,.d a1,.d m3,.d c3,.own b ys,.d (.int n),.d (.int (zs.length:Int)),.d (.lst [.int k0,.int kind]),.d (.int shape),.d (.lst (zs.map .str)),.d rms,.own c (as.map ml),x12,x13,x14]) :
  cu (b8 12) gU ((List.range zs.length).map λ(i:Nat)=>D.int (i:Int)) [.d S,.d a1,.d m3,.d c3,.own b xs,.d (.int n),.d (.int (zs.length:Int)),.d (.lst [.int k0,.int kind]),.d (.int shape),.d (.lst (zs.map .str)),.d rms,.own c [],.un,x13,x14] post:=by
 refine fo _ (λj ρ=>∃(as:List N9)(ys:List D)(x12 x13 x14:L),ρ=[.d S,.d a1,.d m3,.d c3,.own b ys,.d (.int n),.d (.int (zs.length:Int)),.d (.lst [.int k0,.int kind]),.d (.int shape),.d (.lst (zs.map .str)),.d rms,.own c (as.map ml),x12,x13,x14]/\iE ys/\(∀a∈as,fk n a/\RB 60 a.size)/\as.map (·.nm)=zs.take j) _ ⟨[],xs,_,_,_,rfl,hx,λa ha=>by simp at ha,rfl⟩ ?_ ?_
 ·
  rintro j x ρ hj ⟨as,ys,x12,x13,x14,rfl,hy,ha,hn'⟩ Q h1 h2 h3 h4;have hj':j<zs.length:=by have:=(List.getElem?_eq_some_iff.mp hj).1;simpa using this
  have ex:x=.int (j:Int):=by rw[List.getElem?_map,List.getElem?_range hj']at hj;exact(Option.some.inj hj).symm
  subst ex;unfold gU;walk_at "w";refine⟨b,ys,shape,j,n,rfl,hy,hn,by omega,by omega,by omega,λi k ws hw i1 k1 hik=>⟨ws,rfl,?_⟩⟩;walk_at "w";refine⟨.str zs[j],bP hj',?_⟩;refine⟨b,ws,0,kind,rfl,hw,by decide,by decide,by omega,by omega,λq vs hv q0 _ qb=>⟨vs,rfl,?_⟩⟩;walk_at "w";have hlen:as.length=j:=by have:=congrArg List.length hn';rw[List.length_map,List.length_take]at this;omega
  refine⟨by decide,by rw[hlen];exact Nat.lt_of_lt_of_le hj' (Nat.le_trans hzl (by decide)),h1 _ ⟨as++[⟨zs[j],i,k,q⟩],vs,_,_,_,by rw[List.map_append];rfl,hv,λa hm=>?_,?_⟩⟩
  ·
   rcases List.mem_append.mp hm with hm|hm
   · exact ha a hm
   · rw[List.mem_singleton.mp hm];exact⟨⟨i1,k1,hik,q0,Dt qb,(hz _ (List.getElem_mem hj')).ok⟩,qb⟩
  · rw[List.map_append,hn',List.take_succ,List.getElem?_eq_getElem hj'];rfl
 · rintro ρ ⟨as,ys,x12,x13,x14,rfl,hy,ha,hn'⟩;rw[List.length_map,List.length_range,List.take_of_length_le (Nat.le_refl _)]at hn';exact Mx as ys x12 x13 x14 ha hn'
theorem se:∀ls post,ls.length=4->jn ls post->kP (ls++List.replicate 11 .un) (aY ls post):=by
 rintro ls post - ⟨ns,at_,most,count,rfl,ha,m2,m12,c20,h⟩;unfold kP;walk_at "w";refine⟨ns,at_,rfl,by omega,by omega,λb xs hx=>?_⟩;unfold lZ;walk_at "w";refine⟨b,xs,(most:Int)-1,rfl,hx,by omega,by omega,λr ys hy r0 r1=>⟨ys,rfl,?_⟩⟩;unfold lY;walk_at "w";refine⟨b,ys,(count:Int)+1,rfl,hy,by omega,by omega,λs zs hz s0 s1=>⟨zs,rfl,?_⟩⟩;unfold lX;walk_at "w";refine⟨b,zs,5,rfl,hz,by decide,by decide,λk1 ws hw k10 k11=>⟨ws,rfl,?_⟩⟩;walk_at "w";refine⟨b,ws,5,rfl,hw,by decide,by decide,λk2 vs hv k20 k21=>⟨vs,rfl,?_⟩⟩;walk_at "w";refine⟨by decide,λkk=>?_⟩;unfold lW;walk_at "w";refine⟨b,vs,6,rfl,hv,by decide,by decide,λsh us hu sh0 sh1=>⟨us,rfl,?_⟩⟩;unfold lV;walk_at "w";obtain⟨many,rfl⟩:=Int.eq_ofNat_of_zero_le s0;obtain⟨pl,epl⟩:∃pl:Nat,2+r=(pl:Int):=Int.eq_ofNat_of_zero_le (by omega);obtain⟨sh',rfl⟩:=Int.eq_ofNat_of_zero_le sh0;obtain⟨k1',rfl⟩:=Int.eq_ofNat_of_zero_le k10;obtain⟨k2',rfl⟩:=Int.eq_ofNat_of_zero_le k20;rw[epl];refine⟨b,us,many,rfl,hu,by omega,λnms c ts ht hnl hnm hnd=>⟨ts,rfl,?_⟩⟩;unfold lU;walk_at "w";refine⟨ns,at_+1,rfl,by omega,by omega,λb2 xs2 hx2=>?_⟩;refine⟨b2,xs2,pl,k1',rfl,hx2,by omega,by omega,by omega,by omega,λqs c2 ys2 hy2 hql hq=>?_⟩;unfold lT;walk_at "w";refine⟨ns,at_+2,rfl,by omega,by omega,λb3 xs3 hx3=>?_⟩;unfold lS;walk_at "w";refine⟨by decide,λc3=>?_⟩;unfold lR;walk_at "w";refine⟨⟨by omega,by omega⟩,?_⟩;rw[ly,Int.toNat_natCast,← hnl];refine BD (n:=pl) (by omega) (by omega) (by omega) k1' (by omega) hnm xs3 hx3 _ _ λas ys' x12 x13 x14 hao han=>?_;walk_at "w";unfold lQ;walk_at "w";refine⟨by decide,_,aj (aj (aj (aj aL))),h ⟨qs,as⟩ ?_⟩;have hal:as.length=nms.length:=by rw[← han,List.length_map]
 refine⟨⟨?_,?_,?_,hq,?_,IY (λa ha=>(hao a ha).2) (by show as.length≤20;omega)⟩,?_,?_,⟨?_,?_⟩,λa ha=>(hao a ha).2⟩
 · show 2≤qs.length;omega
 · show qs.length≤12;omega
 · show as.length≤20;omega
 · show ∀a∈as,fk qs.length a;rw[hql];exact λa ha=>(hao a ha).1
 · show qs.length≤most;omega
 · show as.length≤count;omega
 · intro a ha;exact hnm _ (by rw[← han];exact List.mem_map_of_mem ha)
 · show(as.map (·.nm)).Nodup;rw[han];exact hnd
structure BE (R:aR) (ps:List Rat):Prop extends GE R ps 70 where
 tw:Tw R ps
def gW:FS:=λls post=>∃(a:Addr)(xs:List D)(R:aR),ls=[.own a xs,.d (aS R)]/\iE xs/\R.Ok/\(∀a∈R.asks,RB 60 a.size)/\∀(ps:List Rat)(c:Addr)(ys:List D),iE ys->BE R ps->post (.own c (ps.map ND)) [.own a ys,.d (aS R)]
def j9:W Fl:=(aV (bq 7 (bc (bp aE 0 0 (jE 0 (ao (wC (.int 4)) aB)))))
  (aV (bq 8 (bc (bp aE 0 0 (jE 0 (ao (wC (.int 13)) aB)))))
  (vt (FE 2 (ax aN (fF (ao (cz (ao (wC (.int 0)) (ao (wC (.int 1)) aB))) (ao (ak 6) (ao (bc (aP cn (ao (bc (ax bG (ax aN (ak 6) (wC (.int 0))) (ak 8))) (ao (bc (ax bG (ax aN (ak 6) (wC (.int 1))) (wC (.int 12)))) aB)))) aB)))) (a8 yF (ao (ak 7) (ao (wC (.int 2)) aB))))))))
def jo:W Fl:=(aV (bq 2 (fF aB))
  (aV (vw (zl (ax aN (ak 1) (wC (.int 1)))) (iP [3,4,5,6]) j9)
  (bS (lg 2))))
def Qu(z p:Rat):Prop:=∃v:Int,0≤v/\v≤12/\p=z*Rat.divInt v 12
theorem KN{R:aR}{ps:List Rat}(hl:ps.length=R.asks.length)(h:∀x∈R.asks.zip ps,Qu x.1.size x.2):Tw R ps:=λk hk=>by
 have h1:k<ps.length:=by omega
 have:=h (R.asks[k],ps[k]) (by
  rw[List.mem_iff_getElem]
  exact⟨k,by rw[List.length_zip];omega,by rw[List.getElem_zip]⟩)
 rw[Be h1,Jb hk];exact this
theorem BF{s:Rat}{v:Int}(h0:0≤s)(hb:RB 60 s)(v0:0≤v)(v1:v<13):(0≤Rat.divInt (s.num*v) ((s.den:Int)*12)/\Rat.divInt (s.num*v) ((s.den:Int)*12)≤s)/\RB 70 (Rat.divInt (s.num*v) ((s.den:Int)*12)):=by
 have e:Rat.divInt (s.num*v) ((s.den:Int)*12)=s*Rat.divInt v 12:=by rw[← Rat.divInt_mul_divInt,Rat.num_divInt_den]
 have f0:0≤Rat.divInt v 12:=Rat.divInt_nonneg v0 (by decide)
 have f1:0≤1-Rat.divInt v 12:=by
  have e1:1-Rat.divInt v 12=Rat.divInt (12-v) 12:=by have:(1:Rat)=Rat.divInt 12 12:=rfl;rw[this,Rat.divInt_sub_divInt _ _ (by decide) (by decide),Rat.divInt_eq_divInt_iff (by decide) (by decide)];omega
  rw[e1];exact Rat.divInt_nonneg (by omega) (by decide)
 have m0:=Rat.mul_nonneg h0 f0;have m1:=Rat.mul_nonneg h0 f1;have hd:=den_pos s;refine⟨⟨by rw[e];exact m0,by rw[e];grind⟩,RB.of_divInt (Int.mul_ne_zero (by omega) (by decide)) ?_ ?_⟩
 · rw[Int.natAbs_mul];exact Nat.lt_of_lt_of_le (bO (n:=10) hb.1 (show v.natAbs<2^10 by omega)) (Nat.le_refl _)
 · rw[Int.natAbs_mul];exact Nat.lt_of_lt_of_le (bO (m:=60) (n:=10) (by rw[Int.natAbs_natCast];exact hb.2) (show(12:Int).natAbs<2^10 by decide)) (Nat.le_refl _)
theorem p5:∀ls post,ls.length=2->gW ls post->jo (ls++List.replicate 7 .un) (aY ls post):=by
 rintro ls post - ⟨a,xs,R,rfl,hx,hR,hT,h⟩;have hfew:=hR.few;unfold jo;walk_at "w";refine⟨by decide,λc=>?_⟩;refine C6 (enc:=ml) R.asks (λpre ρ=>∃(ps:List Rat)(ys:List D)(x3 x4 x5 x6 x7 x8:L),ρ=[.own a ys,.d (aS R),.own c (ps.map ND),x3,x4,x5,x6,x7,x8]/\iE ys/\ps.length=pre.length/\(∀x∈pre.zip ps,0≤x.2/\x.2≤x.1.size)/\(∀p∈ps,RB 70 p)/\∀x∈pre.zip ps,Qu x.1.size x.2) _ ⟨[],xs,_,_,_,_,_,_,rfl,hx,rfl,(λx hx=>by simp at hx),(λx hx=>by simp at hx),λx hx=>by simp at hx⟩ ?_ ?_
 ·
  rintro pre A suf ρ hsp ⟨ps,ys,x3,x4,x5,x6,x7,x8,rfl,hy,hl,hlo,hb,hw1⟩ Q h1 h2 h3 h4;have hA:fk R.n A:=hR.ask A (by rw[hsp];simp);have hAb:RB 60 A.size:=hT A (by rw[hsp];simp);have hlen:pre.length<20:=by have:=congrArg List.length hsp;rw[List.length_append,List.length_cons]at this;omega
  unfold j9;walk_at "w";refine⟨a,ys,4,rfl,hy,by decide,by decide,λr zs hz r0 r1=>⟨zs,rfl,?_⟩⟩;walk_at "w";refine⟨a,zs,13,rfl,hz,by decide,by decide,λv ws hw v0 v1=>⟨ws,rfl,?_⟩⟩;walk_at "w";obtain⟨p1,p2⟩:=BF hA.size hAb v0 v1;have hd:=den_pos A.size
  have Mx:∀p:Rat,(0≤p/\p≤A.size)->RB 70 p->Qu A.size p->Q .nx [.own a ws,.d (aS R),.own c (ps.map ND++[ND p]),.d (.str A.nm),.d (.int A.one),.d (.int A.other),.d (ND A.size),.d (.int r),.d (.int v)]:=by
   intro p hp hpb hpw;refine h1 _ ⟨ps++[p],ws,_,_,_,_,_,_,by rw[List.map_append];rfl,hw,by rw[List.length_append,List.length_append,hl];rfl,λx hx=>?_,λq hq=>?_,λx hx=>?_⟩
   ·
    rw[List.zip_append (by omega)]at hx;rcases List.mem_append.mp hx with hx|hx
    · exact hlo x hx
    ·
     have:x=(A,p):=by simpa using hx
     subst this;exact hp
   ·
    rcases List.mem_append.mp hq with hq|hq
    · exact hb q hq
    · rw[List.mem_singleton.mp hq];exact hpb
   ·
    rw[List.zip_append (by omega)]at hx;rcases List.mem_append.mp hx with hx|hx
    · exact hw1 x hx
    ·
     have:x=(A,p):=by simpa using hx
     subst this;exact hpw
  have hsz:ps.length<sizeLine:=Nat.lt_of_lt_of_le (show ps.length<20 by omega) (by decide);refine⟨by decide,hAb.bn (by decide),bB (by omega),hAb.bd (by decide),bB (by decide),A.size.num*v,(A.size.den:Int)*12,rfl,Int.mul_ne_zero (by omega) (by decide),?_,?_⟩
  · rw[Int.natAbs_mul];exact Nat.lt_of_lt_of_le (bO (m:=60) (n:=10) (by rw[Int.natAbs_natCast];exact hAb.2) (show(12:Int).natAbs<2^10 by decide)) (Nat.pow_le_pow_right (by decide) (by decide))
  ·
   walk_at "w";refine⟨by decide,λ_=>?_⟩;have hr:r=0∨r=1∨r=2∨r=3:=by omega
   rcases hr with rfl|rfl|rfl|rfl
   · exact⟨ND 0,t7,hsz,Mx 0 ⟨by decide,hA.size⟩ (RB.zero.mono (by decide)) ⟨0,by decide,by decide,by rw[show Rat.divInt 0 12=0 from rfl,Rat.mul_zero]⟩⟩
   · exact⟨ND A.size,t8,hsz,Mx A.size ⟨hA.size,Rat.le_refl⟩ (hAb.mono (by decide)) ⟨12,by decide,by decide,by rw[show Rat.divInt 12 12=1 from rfl,Rat.mul_one]⟩⟩
   · exact⟨_,C7,hsz,Mx _ p1 p2 ⟨v,v0,by omega,by rw[← Rat.divInt_mul_divInt,Rat.num_divInt_den]⟩⟩
   · exact⟨_,C7,hsz,Mx _ p1 p2 ⟨v,v0,by omega,by rw[← Rat.divInt_mul_divInt,Rat.num_divInt_den]⟩⟩
 · rintro ρ ⟨ps,ys,x3,x4,x5,x6,x7,x8,rfl,hy,hl,hlo,hb,hw1⟩;walk_at "w";exact⟨_,dF (ys:=ys) (by simp) (aj aL),h ps c ys hy ⟨⟨hl,hlo,hb⟩,KN hl hw1⟩⟩
def cO:FS:=λls post=>∃(d:D),ls=[.d d]/\(∀i j,d=.tup [.int i,.int j]->j.natAbs<2^9000)/\post (.d (.bl (pM d))) ls
def bQ:W Fl:=(Nk (Nh (nG (aO (Nj (fK "int") (ak 1)))) (aO (Nj (fK "bool") (ak 1)))) (bS (wC (.bl false))) bN)
def eY:W Fl:=(aV (Nk (Nh (nG (aO (Nj (fK "tuple") (ak 0)))) (aO (ax yC (a8 df (ao (ak 0) aB)) (wC (.int 2))))) (bS (wC (.bl false))) bN)
  (aV (vw (zl (ak 0)) (b8 1) bQ)
  (aV (Nk (aO (ax qM (ax aN (ak 0) (wC (.int 1))) (wC (.int 1)))) (bS (wC (.bl false))) bN)
  (bS (ax oK (ak 0) (aP cn (ao (ax aN (ak 0) (wC (.int 0))) (ao (ax aN (ak 0) (wC (.int 1))) aB))))))))
theorem GX{xs:List D}(h:xs.length≠2):pM (.tup xs)=false:=mD λi j e=>by cases e;exact h rfl
theorem BG{x:D}(h:∀i,x≠.int i){Q:Fl->Ev->Prop}{x0:L}(hq:∀ρ,ρ=[x0,.d x]->Q (.rt (.d (.bl false))) ρ):bQ [x0,.d x] Q:=by
 unfold bQ
 cases x with
 |int i=>exact absurd rfl (h i)
 | _ =>
  walk_at "w";exact hq _ rfl
theorem Ez{i:Int}{Q:Fl->Ev->Prop}{x0:L}(hq:Q .nx [x0,.d (.int i)]):bQ [x0,.d (.int i)] Q:=by unfold bQ;walk_at "w";simpa using hq
theorem Jx{i j:Int}(h:0<j):Nr (.tup [.int i,.int j]) (ND (Rat.divInt i j))=pM (.tup [.int i,.int j]):=by
 cases e:pM (.tup [.int i,.int j])with
 | true =>
  obtain⟨q,hq⟩:=Bh e;have hq':D.tup [.int i,.int j]=.tup [.int q.num,.int (q.den:Int)]:=hq;injection hq' with hq';have e1:=(List.cons.inj hq').1;have e2:=(List.cons.inj (List.cons.inj hq').2).1;injection e1 with e1;injection e2 with e2;rw[hq,e1,e2,Rat.num_divInt_den,Au];simp
 | false =>
  cases z:Nr (.tup [.int i,.int j]) (ND (Rat.divInt i j))with
  |false=>rfl
  | true =>
   have z':Nr (.tup [.int i,.int j]) (.tup [.int (Rat.divInt i j).num,.int ((Rat.divInt i j).den:Int)])=true:=z;rw[vE,dS,dS,lq,iV,iV,Bool.and_true,Bool.and_eq_true,decide_eq_true_iff,decide_eq_true_iff]at z';have w:=ya (Rat.divInt i j);unfold ND at w;rw[← z'.1,← z'.2,e]at w;cases w
theorem mT:∀ls post,ls.length=1->cO ls post->eY (ls++List.replicate 1 .un) (aY ls post):=by
 rintro ls post - ⟨d,rfl,hs,h⟩;unfold eY;have no:∀(ρ:Ev),pM d=false->aY [.d d] post (.rt (.d (.bl false))) ρ:=λρ e=>by rw[e]at h;exact⟨_,aj aL,h⟩
 cases d with
 | tup xs =>
  walk_at "w";by_cases e2:xs.length=2
  ·
   obtain⟨a,b,rfl⟩:∃a b,xs=[a,b]:=by
    match xs,e2 with
    |[a,b],_=>exact⟨a,b,rfl⟩
   rw[if_neg (by simp)];by_cases ha:∃i,a=.int i
   ·
    obtain⟨i,rfl⟩:=ha;unfold cu;refine Ez ?_;by_cases hb:∃j,b=.int j
    ·
     obtain⟨j,rfl⟩:=hb;unfold cu;refine Ez ?_;unfold cu;walk_at "w";by_cases hj:j<1
     · rw[if_pos hj];exact no _ (by show(decide (1≤j) && _)=false;rw[decide_eq_false (by omega)];rfl)
     · rw[if_neg hj];refine⟨i,j,rfl,by omega,hs i j rfl,?_⟩;refine⟨cU (n:=1) (by simp[NF,qW]) (by decide),xm _,_,aj aL,?_⟩;rw[Jx (by omega)];exact h
    · have hn:∀j,b≠.int j:=λj e=>hb ⟨j,e⟩;unfold cu;refine BG hn λρ e=>?_;exact no _ (mD λi' j' e=>by cases e;exact hn _ rfl)
   · have hn:∀j,a≠.int j:=λj e=>ha ⟨j,e⟩;unfold cu;refine BG hn λρ e=>?_;exact no _ (mD λi' j' e=>by cases e;exact hn _ rfl)
  · rw[if_pos (by omega)];exact no _ (GX e2)
 | _ =>
  walk_at "w";exact no _ rfl
def dX:FS:=λls post=>∃p q:Rat,ls=[.d (ND p),.d (ND q)]/\RB 400000 p/\RB 400000 q/\p.den*q.den<2^9000/\post (.d (ND (p+q))) ls
def kQ:W Fl:=(bS (aP cn (ao (bc (ax bA (ax bG (ax aN (ak 0) (wC (.int 0))) (ax aN (ak 1) (wC (.int 1)))) (ax bG (ax aN (ak 1) (wC (.int 0))) (ax aN (ak 0) (wC (.int 1)))))) (ao (bc (ax bG (ax aN (ak 0) (wC (.int 1))) (ax aN (ak 1) (wC (.int 1))))) aB))))
theorem sf:∀ls post,ls.length=2->dX ls post->kQ (ls++List.replicate 0 .un) (aY ls post):=by rintro ls post - ⟨p,q,rfl,hp,hq,hz,h⟩;unfold kQ;walk_at "w";refine⟨hp.bn (by decide),hq.bd (by decide),hq.bn (by decide),hp.bd (by decide),hp.bd (by decide),hq.bd (by decide),_,_,rfl,rh p q,by rw[n9];exact hz,_,aj (aj aL),?_⟩;rw[xl];exact h
theorem BH{p q:Rat}{post:L->List L->Prop}(hp:RB 4400 p)(hq:RB 4400 q)(h:post (.d (ND (p+q))) [.d (ND p),.d (ND q)]):dX [.d (ND p),.d (ND q)] post :=
 ⟨p,q,rfl,hp.mono (by decide),hq.mono (by decide),Nat.lt_of_lt_of_le (bO hp.2 hq.2) (Nat.pow_le_pow_right (by decide) (by decide)),h⟩
def cw:FS:=λls post=>∃p q:Rat,ls=[.d (ND p),.d (ND q)]/\RB 4400 p/\RB 4400 q/\post (.d (ND (p-q))) ls
def jq:W Fl:=(bS (aP cn (ao (ax iD (ax bG (ax aN (ak 0) (wC (.int 0))) (ax aN (ak 1) (wC (.int 1)))) (ax bG (ax aN (ak 1) (wC (.int 0))) (ax aN (ak 0) (wC (.int 1))))) (ao (bc (ax bG (ax aN (ak 0) (wC (.int 1))) (ax aN (ak 1) (wC (.int 1))))) aB))))
theorem p6:∀ls post,ls.length=2->cw ls post->jq (ls++List.replicate 0 .un) (aY ls post):=by
 rintro ls post - ⟨p,q,rfl,hp,hq,h⟩;unfold jq;walk_at "w";refine⟨hp.bn (by decide),hq.bd (by decide),hq.bn (by decide),hp.bd (by decide),hp.bd (by decide),hq.bd (by decide),_,_,rfl,rh p q,?_,_,aj (aj aL),?_⟩
 · rw[n9];exact Nat.lt_of_lt_of_le (bO hp.2 hq.2) (Nat.pow_le_pow_right (by decide) (by decide))
 · rw[D9];exact h
def eZ:FS:=λls post=>∃(a:Addr)(xs:List D)(x:D)(F b:Nat),ls=[.own a xs,.d x]/\iE xs/\0<F/\b≤1800/\GW F b x/\∀(y:D)(ys:List D),iE ys->GW (F*2520) (b+70) y->post (.d y) [.own a ys,.d x]
def ip:W Fl:=(bS (ax aN (ak 8) (bp aE 0 0 (jE 0 (ao (wC (.int 10)) aB)))))
def iq:W Fl:=(aV (bq 8 (bc (ax bA (ak 8) (fF (ao (cz (ao (ak 2) (ao (ak 3) (ao (ak 4) (ao (ak 3) (ao (ak 6) aB)))))) (ao (cz (ao (ak 2) (ao (ak 5) (ao (ak 4) (ao (ak 5) (ao (ak 6) aB)))))) (ao (bc (ax tU (ak 1) (cz (ao (wC (.int 0)) aB)))) (ao (bc (xq (ak 1) none (some (wC (.int 4))))) aB))))))))
  ip)
def ir:W Fl:=(aV (bq 8 (bc (ax bA (ak 8) (fF (ao (cz (ao (ak 2) (ao (ak 5) (ao (ak 4) (ao (ak 3) (ao (ak 6) aB)))))) (ao (cz (ao (ak 2) (ao (ak 3) (ao (ak 2) (ao (ak 5) (ao (ak 6) aB)))))) aB))))))
  iq)
def iu:W Fl:=(aV (bq 8 (bc (ax bA (ak 8) (fF (ao (cz (ao (ak 4) (ao (ak 3) (ao (ak 2) (ao (ak 5) (ao (ak 6) aB)))))) (ao (cz (ao (ak 4) (ao (ak 5) (ao (ak 2) (ao (ak 3) (ao (ak 6) aB)))))) aB))))))
  ir)
def iw:W Fl:=(aV (bq 8 (bc (fF (ao (cz (ao (ak 2) (ao (ak 3) (ao (ak 4) (ao (ak 5) (ao (bc (aP dX (ao (ak 6) (ao (ak 7) aB)))) aB)))))) (ao (cz (ao (ak 2) (ao (ak 3) (ao (ak 4) (ao (ak 5) (ao (bc (aP cw (ao (ak 6) (ao (ak 7) aB)))) aB)))))) aB)))))
  iu)
def ix:W Fl:=(aV (bq 7 (bc (aP cn (ao (wC (.int 1)) (ao (bc (ax bA (wC (.int 1)) (bp aE 0 0 (jE 0 (ao (wC (.int 9)) aB))))) aB)))))
  iw)
def iy:W Fl:=(aV (vA [2,3,4,5,6] (ak 1))
  ix)
def fS:W Fl:=(aV (Nk (Nh (nG (aO (Nj (fK "tuple") (ak 1)))) (Nh (aO (ax yC (a8 df (ao (ak 1) aB)) (wC (.int 5)))) (nG (aO (aP cO (ao (ax aN (ak 1) (wC (.int 4))) aB)))))) (bS (lg 1)) bN)
  iy)
theorem GY{F b:Nat}{k w l o:D}{q:Rat}(hk:WK 3 1300 k)(hw:WK 3 1300 w)(hl:WK 3 1300 l)(ho:WK 3 1300 o)(hq:RB b q)(hb:b≤1900)(hd:q.den∣F):GW F b (.tup [k,w,l,o,ND q]):=by
 refine GW.tup (by simp) (λy hy=>?_) λk' w' l' o' p r e=>?_
 ·
  simp only[List.mem_cons,List.not_mem_nil,or_false]at hy;rcases hy with rfl|rfl|rfl|rfl|rfl
  · exact hk
  · exact hw
  · exact hl
  · exact ho
  · exact(WK.fr (hq.mono hb)).mono (by decide) (by decide)
 ·
  injection e with _ e;injection e with _ e;injection e with _ e;injection e with _ e;injection e with e _;obtain⟨e1,e2⟩:=Br e;subst e1 e2;refine⟨hq.1,by rw[Int.natAbs_natCast];exact hq.2,λn n0 e=>?_⟩;have:q.den=n:=by omega
  rw[← this];exact hd
theorem DQ{r:Int}(h0:0≤r)(h1:r<9):(Rat.divInt 1 (1+r)).den∣2520/\RB 60 (Rat.divInt 1 (1+r)):=by
 obtain rfl|rfl|rfl|rfl|rfl|rfl|rfl|rfl|rfl:r=0∨r=1∨r=2∨r=3∨r=4∨r=5∨r=6∨r=7∨r=8:=by omega
 all_goals exact⟨by decide +kernel,by decide +kernel,by decide +kernel⟩
theorem nR:∀ls post,ls.length=2->eZ ls post->fS (ls++List.replicate 7 .un) (aY ls post):=by
 rintro ls post - ⟨a,xs,x,F,b,rfl,hx,F0,hb,hg,h⟩;have hg2:GW (F*2520) (b+70) x:=hg.up (Nat.dvd_mul_right _ _) (by omega);have same:aY [.own a xs,.d x] post (.rt (.d x)) [.own a xs,.d x,.un,.un,.un,.un,.un,.un,.un]:=⟨_,dF (by simp) (aj aL),h x xs hx hg2⟩;unfold fS;by_cases ht:∃zs,x=.tup zs
 ·
  obtain⟨zs,rfl⟩:=ht;by_cases h5:zs.length=5
  ·
   obtain⟨k,w,l,o,m,rfl⟩:∃k w l o m,zs=[k,w,l,o,m]:=by rcases zs with _|⟨k,_|⟨w,_|⟨l,_|⟨o,_|⟨m,_|⟨n,r⟩⟩⟩⟩⟩⟩<;>simp at h5;exact⟨_,_,_,_,_,rfl⟩
   walk_at "w";rw[if_neg (by decide)];refine⟨m,rfl,λi j e=>hg.dn (by omega) k w l o i j (by rw[e]),?_⟩
   cases er:pM m with
   | false =>
    walk_at "w";exact same
   | true =>
    obtain⟨q,rfl⟩:=Bh er;obtain⟨_,hc⟩:=hg.cp _ rfl;have hk:=hc k (by simp);have hw:=hc w (by simp);have hl:=hc l (by simp);have ho:=hc o (by simp);obtain⟨q1,q2,q3⟩:=hg.five k w l o q.num (q.den:Int) rfl;rw[Int.natAbs_natCast]at q2;have hq:RB b q:=⟨q1,q2⟩;have hd:q.den∣F*2520:=Nat.dvd_trans (q3 _ (den_pos q) rfl) (Nat.dvd_mul_right _ _);walk_at "w";unfold iy;walk_at "w";unfold ix;walk_at "w";refine⟨a,xs,9,rfl,hx,by decide,by decide,λr ys hy r0 r1=>⟨ys,rfl,?_⟩⟩;obtain⟨d1,d2⟩:=DQ r0 r1;dsimp only;refine⟨1,1+r,rfl,by omega,Nat.lt_of_le_of_lt (show(1+r).natAbs≤10 by omega) (by decide),?_⟩;generalize Rat.divInt 1 (1+r)=t at d1 d2;have ht2:t.den∣F*2520:=Nat.dvd_trans d1 (Nat.dvd_mul_left _ _);have N0:0<F*2520:=by omega
    walk_at "w";unfold iw;walk_at "w";refine⟨q,t,rfl,hq.mono (by omega),d2.mono (by decide),Nat.lt_of_lt_of_le (bO hq.2 d2.2) (Nat.pow_le_pow_right (by decide) (by omega)),?_⟩;walk_at "w";refine⟨by decide,q,t,rfl,hq.mono (by omega),d2.mono (by decide),?_⟩;walk_at "w";refine⟨by decide,by decide,λ_=>?_⟩;unfold iu;walk_at "w";refine⟨by decide,by decide,by decide,λ_=>⟨by decide,λ_=>?_⟩⟩;unfold ir;walk_at "w";refine⟨by decide,by decide,by decide,λ_=>⟨by decide,λ_=>?_⟩⟩;unfold iq;walk_at "w";refine⟨by decide,by decide,by decide,by simp,by simp,by decide,by decide,by decide,λ_=>⟨by decide,λ_=>?_⟩⟩;rw[show vf [k,w,l,o,ND q] none (some 4)=[k,w,l,o]from rfl];unfold ip;walk_at "w";refine⟨a,ys,10,rfl,hy,by decide,by decide,λz zs hz z0 z1=>⟨zs,rfl,?_⟩⟩;walk_at "w";have hz':z.toNat<10:=by omega
    have five:=λ(k w l o:D) (h1:WK 3 1300 k) (h2:WK 3 1300 w) (h3:WK 3 1300 l) (h4:WK 3 1300 o) (u:Rat) (hu:RB (b+70) u) (hd:u.den∣F*2520)=>GY (F:=F*2520) (b:=b+70) h1 h2 h3 h4 hu (by omega) hd;have hq':RB (b+70) q:=hq.mono (by omega)
    have all:∀y∈[D.tup [k,w,l,o,ND (q+t)],D.tup [k,w,l,o,ND (q-t)],D.tup [l,w,k,o,ND q],D.tup [l,o,k,w,ND q],D.tup [k,o,l,w,ND q],D.tup [k,w,k,o,ND q],D.tup [k,w,l,w,ND q],D.tup [k,o,l,o,ND q],D.tup [k,w,l,o,ND q,D.int 0],D.tup [k,w,l,o]],GW (F*2520) (b+70) y:=λy hm=>by
     simp only[List.mem_cons,List.not_mem_nil,or_false]at hm;rcases hm with rfl|rfl|rfl|rfl|rfl|rfl|rfl|rfl|rfl|rfl
     · exact five k w l o hk hw hl ho _ ((hq.add d2).mono (by omega)) (rE N0 hd ht2)
     · exact five k w l o hk hw hl ho _ ((hq.sub d2).mono (by omega)) (rF N0 hd ht2)
     · exact five l w k o hl hw hk ho q hq' hd
     · exact five l o k w hl ho hk hw q hq' hd
     · exact five k o l w hk ho hl hw q hq' hd
     · exact five k w k o hk hw hk ho q hq' hd
     · exact five k w l w hk hw hl hw q hq' hd
     · exact five k o l o hk ho hl ho q hq' hd
     ·
      refine GW.tup (by simp) (λy hy=>?_) λ_ _ _ _ _ _ e=>by cases e
      simp only[List.mem_cons,List.not_mem_nil,or_false]at hy;rcases hy with rfl|rfl|rfl|rfl|rfl|rfl
      · exact hk
      · exact hw
      · exact hl
      · exact ho
      · exact(WK.fr (hq.mono (by omega))).mono (by decide) (by decide)
      · exact(WK.int (by decide)).mono (by decide) (by decide)
     ·
      refine GW.tup (by simp) (λy hy=>?_) λ_ _ _ _ _ _ e=>by cases e
      simp only[List.mem_cons,List.not_mem_nil,or_false]at hy;rcases hy with rfl|rfl|rfl|rfl
      · exact hk
      · exact hw
      · exact hl
      · exact ho
    have ln:(10:Nat)=[D.tup [k,w,l,o,ND (q+t)],D.tup [k,w,l,o,ND (q-t)],D.tup [l,w,k,o,ND q],D.tup [l,o,k,w,ND q],D.tup [k,o,l,w,ND q],D.tup [k,w,k,o,ND q],D.tup [k,w,l,w,ND q],D.tup [k,o,l,o,ND q],D.tup [k,w,l,o,ND q,D.int 0],D.tup [k,w,l,o]].length:=rfl;generalize [D.tup [k,w,l,o,ND (q+t)],D.tup [k,w,l,o,ND (q-t)],D.tup [l,w,k,o,ND q],D.tup [l,o,k,w,ND q],D.tup [k,o,l,w,ND q],D.tup [k,w,k,o,ND q],D.tup [k,w,l,w,ND q],D.tup [k,o,l,o,ND q],D.tup [k,w,l,o,ND q,D.int 0],D.tup [k,w,l,o]]=L9 at all ln;have hL:z.toNat<L9.length:=by omega
    exact⟨L9[z.toNat],xG z0 (List.getElem?_eq_getElem hL),_,dF (by simp) (aj aL),h _ zs hz (all _ (List.getElem_mem hL))⟩
  · walk_at "w";rw[if_pos (by omega)];exact same
 ·
  have ei:jS "tuple" x=false:=by
   cases x<;>first
    |exact absurd ⟨_,rfl⟩ ht
    |rfl
  walk_at "w";rw[ei];walk_at "w";exact same
def fw:FS:=λls post=>∃(a:Addr)(xs ss:List D)(F b:Nat),ls=[.own a xs,.d (.lst ss)]/\iE xs/\0<F/\b≤1800/\ss.length≤40/\(∀x∈ss,GW F b x)/\∀(d:D)(ys:List D),iE ys->Tg (F*2520) (b+70) d->(∀us,d=.lst us->us.length≤ss.length+1)->post (.d d) [.own a ys,.d (.lst ss)]
def gX:W Fl:=(aV (bq 3 (ax eB (ak 3) (a8 df (ao (ak 1) aB))))
  (bS (bc (ax bA (ax bA (xq (ak 1) none (some (ak 3))) (fF (ao (bc (bp eZ 0 0 (jE 0 (ao (ax aN (ak 1) (ak 3)) aB)))) aB))) (xq (ak 1) (some (ax bA (ak 3) (wC (.int 1)))) none)))))
def fT:W Fl:=(bS (bc (ax bA (xq (ak 1) none (some (ak 3))) (xq (ak 1) (some (a8 yE (ao (wC (.int 0)) (ao (ax iD (ak 3) (wC (.int 1))) aB)))) none))))
def gY:W Fl:=(bS (bc (ax bA (xq (ak 1) none (some (ak 3))) (xq (ak 1) (some (ax bA (ak 3) (wC (.int 1)))) none))))
def l3:W Fl:=(aV (Nk (Cv (aO (ax G8 (ak 2) (wC (.int 3)))) (aO (ax IR (ak 1) (fF aB)))) gX bN)
  fT)
def gZ:W Fl:=(bS (bc (ax bA (ax bA (xq (ak 1) none (some (ak 3))) (fF (ao (ax aN (ak 4) (bp aE 0 0 (jE 0 (ao (bc (a8 df (ao (ak 4) aB))) aB)))) aB))) (xq (ak 1) (some (ak 3)) none))))
def l6:W Fl:=(aV (Nk (aO (ax oK (ak 2) (wC (.int 2)))) gY bN)
  l3)
def g5:W Fl:=(aV (Nk (aO (ax oK (ak 2) (wC (.int 1)))) gZ bN)
  l6)
def g6:W Fl:=(aV (bq 4 (bc (ax bA (ak 4) (fF (ao (cz (ao (bc (fF (ao (wC (.int 0)) aB))) (ao (wC (.str "on")) (ao (wC (.int 1)) (ao (wC (.str "on")) (ao (cz (ao (wC (.int 1)) (ao (wC (.int 1)) aB))) aB)))))) (ao (cz (ao (wC (.int 0)) (ao (wC (.str "on")) (ao (AC 0) (ao (wC (.str "on")) (ao (cz (ao (wC (.int 1)) (ao (wC (.int 1)) aB))) aB)))))) (ao (cz (ao (wC (.int 0)) (ao (wC (.str "on")) (ao (wC (.int 1)) (ao (wC (.str "on")) (ao (bc (fF (ao (wC (.int 1)) (ao (wC (.int 1)) aB)))) aB)))))) aB)))))))
  g5)
def g7:W Fl:=(aV (bq 4 (bc (ax bA (ak 4) (fF (ao (cz (ao (wC (.int 0)) (ao (wC (.str "on")) (ao (wC (.int 1)) (ao (wC (.str "back")) (ao (cz (ao (Nj Ab (wC (.int 1))) (ao (wC (.int 1)) aB))) aB)))))) (ao (cz (ao (wC (.int 0)) (ao (bc (fF (ao (wC (.str "on")) aB))) (ao (wC (.int 1)) (ao (wC (.str "on")) (ao (cz (ao (wC (.int 1)) (ao (wC (.int 1)) aB))) aB)))))) (ao (cz (ao (wC (.int 0)) (ao (wC (.str "on")) (ao (wC (.int 1)) (ao (AC 0) (ao (cz (ao (wC (.int 1)) (ao (wC (.int 1)) aB))) aB)))))) aB)))))))
  g6)
def g8:W Fl:=(aV (bq 4 (bc (ax bA (ax bA (ak 4) (fF (ao (cz (ao (wC (.int 0)) (ao (wC (.str "back")) (ao (wC (.int 1)) (ao (wC (.str "on")) (ao (wC .non) aB)))))) (ao (cz (ao (wC (.str "0")) (ao (wC (.str "on")) (ao (wC (.int 1)) (ao (wC (.str "on")) (ao (cz (ao (wC (.int 1)) (ao (wC (.int 1)) aB))) aB)))))) aB)))) (ak 1))))
  g7)
def g9:W Fl:=(aV (bq 4 (bc (ax bA (ak 4) (fF (ao (cz (ao (wC (.int 0)) (ao (wC (.str "on")) (ao (wC (.int 0)) (ao (wC (.str "back")) (ao (cz (ao (wC (.int 1)) (ao (wC (.int 1)) aB))) aB)))))) (ao (cz (ao (wC (.int 0)) (ao (wC (.str "on")) (ao (wC (.int 1)) (ao (wC (.str "on")) (ao (cz (ao (wC (.int 0)) (ao (wC (.int 1)) aB))) aB)))))) aB))))))
  g8)
def l7:W Fl:=(aV (bq 4 (bc (fF (ao (wC .non) (ao (bc (fF aB)) (ao (cz aB) (ao (wC (.str "on")) (ao (wC (.int 0)) (ao (cz (ao (wC (.int 0)) (ao (wC (.str "on")) (ao (wC (.int 1)) (ao (wC (.str "on")) (ao (cz (ao (wC (.int 1)) (ao (wC (.int 1)) aB))) aB)))))) (ao (cz (ao (wC (.int 0)) (ao (wC (.str "on")) (ao (wC (.int 1)) (ao (wC (.str "back")) aB))))) aB))))))))))
  g9)
def hG:W Fl:=(bS (ax aN (fF (ao (wC .non) (ao (cz aB) (ao (wC (.str "")) (ao (bc (a8 qO (ao (ak 1) aB))) (ao (wC (.int 0)) (ao (AC 0) (ao (wC (.bl true)) (ao (wC (.str "on")) aB))))))))) (bp aE 0 0 (jE 0 (ao (wC (.int 8)) aB)))))
def l9:W Fl:=(aV (bq 3 (bc (bp aE 0 0 (jE 0 (ao (bc (ax bA (a8 df (ao (ak 1) aB)) (wC (.int 1)))) aB)))))
  l7)
def ma:W Fl:=(aV (Nk (aO (ax oK (ak 2) (wC (.int 0)))) hG bN)
  l9)
def kR:W Fl:=(aV (bq 2 (bc (bp aE 0 0 (jE 0 (ao (wC (.int 6)) aB)))))
  ma)
section
variable{a:Addr}{ys ss:List D}{F b k:Nat}{w:Int}{post:Fl->Ev->Prop}
theorem DS{us:List D}(h:∀x∈ss,GW F b x)(hu:∀x∈us,GW F b x)(i j:Nat):∀x∈ss.take i++us++ss.drop j,GW F b x:=λx hx=>by
 rcases List.mem_append.mp hx with hx|hx
 ·
  rcases List.mem_append.mp hx with hx|hx
  · exact h x (List.mem_of_mem_take hx)
  · exact hu x hx
 · exact h x (List.mem_of_mem_drop hx)
noncomputable def Qv(y:D):Bool:=N7 y && (bE y && (decide ((Nq y).depth≤3) && decide (n5 y≤1300)))
theorem BI{y:D}(h:Qv y=true):WK 3 1300 y:=by unfold Qv at h;simp only[Bool.and_eq_true,decide_eq_true_eq]at h;exact⟨h.1,h.2.1,h.2.2.1,h.2.2.2⟩
noncomputable def Jy:List D->Bool
 |[_,_,_,_,.tup [.int p,.int q]]=>decide (p.natAbs<2) && decide (q=1)
 |_=>true
noncomputable def Qw:D->Bool
 |.tup ys=>decide (ys.length≤7) && (ys.all Qv && Jy ys)
 |x=>Qv x
theorem Jz{F b:Nat}{x:D}(h:Qw x=true)(hb:1≤b):GW F b x:=by
 by_cases ht:∃ys,x=.tup ys
 ·
  obtain⟨ys,rfl⟩:=ht;have h:(decide (ys.length≤7) && (ys.all Qv && Jy ys))=true:=h;simp only[Bool.and_eq_true,decide_eq_true_eq,List.all_eq_true]at h;obtain⟨h1,h2,h3⟩:=h;refine GW.tup h1 (λy hy=>BI (h2 y hy)) λk w l o p q e=>?_;subst e;have h3:(decide (p.natAbs<2) && decide (q=1))=true:=h3;simp only[Bool.and_eq_true,decide_eq_true_eq]at h3;obtain⟨h4,rfl⟩:=h3;have:2≤2^b:=Nat.le_trans (show 2≤2^1 by decide) (Nat.pow_le_pow_right (by decide) hb);refine⟨by omega,by show 1<2^b;omega,λn n0 e=>?_⟩;have:n=1:=by omega
  subst this;exact Nat.one_dvd _
 ·
  refine GW.no ((BI ?_).mono (by decide) (by decide)) λys e=>ht ⟨ys,e⟩;unfold Qw at h;split at h
  · exact absurd ⟨_,rfl⟩ ht
  · exact h
theorem pF{F b:Nat}{L:List D}(h:L.all Qw=true)(hb:1≤b):∀x∈L,GW F b x:=λx hx=>Jz (List.all_eq_true.mp h x hx) hb
theorem kT{d:D}(h:Qv d=true):B6 d:=(BI h).rep (by decide) (by decide)
theorem KO(hy:iE ys)(hg:∀x∈ss,GW F b x)(hl:ss.length≤40)(Mx:∀d ys ρ,iE ys->Tg F b d->(∀us,d=.lst us->us.length≤ss.length+1)->L.own a ys∈ρ->post (.rt (.d d)) ρ){x3 x4:L} :
  hG [.own a ys,.d (.lst ss),.d (.int w),x3,x4] post:=by
 unfold hG;walk_at "w";refine⟨by decide,by decide,λ_=>⟨a,ys,8,rfl,hy,by decide,by decide,λr us hu r0 r1=>⟨us,rfl,?_⟩⟩⟩;walk_at "w";obtain⟨u,eu,hm⟩:=Eu (xs:=[D.non,D.tup [],D.str (Str.ofString ""),D.tup ss,D.int 0,D.dct 0,D.bl true,D.str (Str.ofString "on")]) (i:=r) r0 r1
 have hT:B6 u/\∀zs,u≠.lst zs:=by
  simp only[List.mem_cons,List.not_mem_nil,or_false]at hm;rcases hm with rfl|rfl|rfl|rfl|rfl|rfl|rfl|rfl
  · exact⟨kT (by decide +kernel),λzs e=>by cases e⟩
  · exact⟨kT (by decide +kernel),λzs e=>by cases e⟩
  · exact⟨kT (by decide +kernel),λzs e=>by cases e⟩
  · exact⟨(WK.two (m:=5) (t:=1000000) (λd hd=>(hg d hd).wk) (by decide) (by omega)).1.rep (by decide) (by decide),λzs e=>by cases e⟩
  · exact⟨kT (by decide +kernel),λzs e=>by cases e⟩
  · exact⟨kT (by decide +kernel),λzs e=>by cases e⟩
  · exact⟨kT (by decide +kernel),λzs e=>by cases e⟩
  · exact⟨kT (by decide +kernel),λzs e=>by cases e⟩
 exact⟨u,eu,Mx u us _ hu (Tg.no hT.1 hT.2) (λzs e=>absurd e (hT.2 zs)) (by simp)⟩
theorem KP{zs:List D}(hy:iE ys)(hk:k≤ss.length)(hg:∀x∈ss,GW F b x)(hz:∀x∈zs,GW F b x)(h0:0<zs.length)(h100:zs.length≤100)(hl:ss.length≤40)(Mx:∀d ys ρ,iE ys->Tg F b d->(∀us,d=.lst us->us.length≤ss.length+1)->L.own a ys∈ρ->post (.rt (.d d)) ρ) :
  gZ [.own a ys,.d (.lst ss),.d (.int w),.d (.int (k:Int)),.d (.lst zs)] post:=by
 unfold gZ;walk_at "w";refine λ_=>⟨a,ys,zs.length,rfl,hy,by omega,by omega,λr us hu r0 r1=>⟨us,rfl,?_⟩⟩;walk_at "w";obtain⟨u,eu,hm⟩:=Eu (xs:=zs) (i:=r) r0 r1;refine⟨u,eu,?_⟩;rw[rM,lC];have hl2:(ss.take k++[u]++ss.drop k).length=ss.length+1:=by simp only[List.length_append,List.length_take,List.length_drop,List.length_cons,List.length_nil];omega
 refine⟨by decide,λ_=>⟨gf ?_,λ_ _=>⟨gf ?_,λ_=>Mx _ us _ hu (Tg.lst (DS hg (λx hx=>by rw[List.mem_singleton.mp hx];exact hz u hm) k k) (by omega)) (λvs e=>by cases e;omega) (by simp)⟩⟩⟩
 · simp only[List.length_take,List.length_cons,List.length_nil];omega
 · simp only[List.length_append,List.length_take,List.length_drop,List.length_cons,List.length_nil];omega
theorem KQ{x4:L}(hy:iE ys)(hg:∀x∈ss,GW F b x)(hl:ss.length≤40)(Mx:∀d ys ρ,iE ys->Tg F b d->(∀us,d=.lst us->us.length≤ss.length+1)->L.own a ys∈ρ->post (.rt (.d d)) ρ) :
  gY [.own a ys,.d (.lst ss),.d (.int w),.d (.int (k:Int)),x4] post:=by
 unfold gY;walk_at "w";rw[show(k:Int)+1=((k+1:Nat):Int) by omega,rM,lC];have hl2:(ss.take k++ss.drop (k+1)).length≤ss.length+1:=by simp only[List.length_append,List.length_take,List.length_drop];omega
 refine λ_ _=>⟨gf ?_,λ_=>Mx _ ys _ hy (Tg.lst (λx hx=>?_) (by omega)) (λvs e=>by cases e;exact hl2) (by simp)⟩
 · simp only[List.length_take,List.length_drop];omega
 · have:=DS (us:=[]) hg (λx hx=>by cases hx) k (k+1) x;rw[List.append_nil]at this;exact this hx
theorem EC{x4:L}(hy:iE ys)(hk:k≤ss.length)(hg:∀x∈ss,GW F b x)(hl:ss.length≤40)(Mx:∀d ys ρ,iE ys->Tg F b d->(∀us,d=.lst us->us.length≤ss.length+1)->L.own a ys∈ρ->post (.rt (.d d)) ρ) :
  fT [.own a ys,.d (.lst ss),.d (.int w),.d (.int (k:Int)),x4] post:=by
 unfold fT;walk_at "w"
 rw[show(if(k:Int)-1 > 0 then(k:Int)-1 else 0)=((k-1:Nat):Int) by split<;>omega,rM,lC]
 have hl2:(ss.take k++ss.drop (k-1)).length≤ss.length+1:=by simp only[List.length_append,List.length_take,List.length_drop];omega
 refine λ_ _=>⟨gf ?_,λ_=>Mx _ ys _ hy (Tg.lst (λx hx=>?_) (by omega)) (λvs e=>by cases e;exact hl2) (by simp)⟩
 · simp only[List.length_take,List.length_drop];omega
 · have:=DS (us:=[]) hg (λx hx=>by cases hx) k (k-1) x;rw[List.append_nil]at this;exact this hx
theorem KR{x4:L}{F0 b0:Nat}(hF:F=F0*2520)(hb:b=b0+70)(hb0:b0≤1800)(hF0:0<F0)(hy:iE ys)(h0:0<ss.length)(hg:∀x∈ss,GW F0 b0 x)(hl:ss.length≤40)(Mx:∀d ys ρ,iE ys->Tg F b d->(∀us,d=.lst us->us.length≤ss.length+1)->L.own a ys∈ρ->post (.rt (.d d)) ρ) :
  gX [.own a ys,.d (.lst ss),.d (.int w),.d (.int (k:Int)),x4] post:=by
 unfold gX;walk_at "w";have e1:=Int.fmod_eq_emod_of_nonneg (k:Int) (b:=(ss.length:Int)) (by omega);have o0:=Int.emod_nonneg (k:Int) (b:=(ss.length:Int)) (by omega);have o1:=Int.emod_lt_of_pos (k:Int) (b:=(ss.length:Int)) (by omega);rw[e1];generalize (k:Int) % (ss.length:Int)=m at o0 o1;have hm:m.toNat<ss.length:=by omega
 rw[show m=((m.toNat:Nat):Int) by omega];generalize m.toNat=j at hm;have hgj:=hg _ (List.getElem_mem hm);refine⟨by omega,λ_=>⟨_,iJ (List.getElem?_eq_getElem hm),a,ys,_,F0,b0,rfl,hy,hF0,hb0,hgj,λy us hu hy'=>⟨us,rfl,?_⟩⟩⟩;subst hF hb;walk_at "w";rw[show(j:Int)+1=((j+1:Nat):Int) by omega,rM,lC];have hl2:(ss.take j++[y]++ss.drop (j+1)).length≤ss.length+1:=by simp only[List.length_append,List.length_take,List.length_drop,List.length_cons,List.length_nil];omega
 refine⟨by decide,λ_=>⟨gf ?_,λ_ _=>⟨gf ?_,λ_=>Mx _ us _ hu (Tg.lst (DS (λx hx=>(hg x hx).up (Nat.dvd_mul_right _ _) (by omega)) (λx hx=>by rw[List.mem_singleton.mp hx];exact hy') j (j+1)) (by omega)) (λvs e=>by cases e;exact hl2) (by simp)⟩⟩⟩
 · simp only[List.length_take];omega
 · simp only[List.length_append,List.length_take,List.length_drop,List.length_cons,List.length_nil];omega
end
theorem si:∀ls post,ls.length=2->fw ls post->kR (ls++List.replicate 3 .un) (aY ls post):=by
 rintro ls post - ⟨a,xs,ss,F,b,rfl,hx,F0,hb,hl,hg,h⟩;have hg2:∀x∈ss,GW (F*2520) (b+70) x:=λx hm=>(hg x hm).up (Nat.dvd_mul_right _ _) (by omega);have Mx:∀d ys ρ,iE ys->Tg (F*2520) (b+70) d->(∀us,d=.lst us->us.length≤ss.length+1)->L.own a ys∈ρ->aY [.own a xs,.d (.lst ss)] post (.rt (.d d)) ρ:=λd ys ρ hy hd hn hm=>⟨_,dF hm (aj aL),h d ys hy hd hn⟩;have hb1:1≤b+70:=by omega
 unfold kR;walk_at "w";refine⟨a,xs,6,rfl,hx,by decide,by decide,λw vs hv w0 w1=>⟨vs,rfl,?_⟩⟩;walk_at "w";unfold ma;walk_at "w";by_cases c0:w=0
 · rw[if_pos c0];exact KO hv hg2 hl Mx
 rw[if_neg c0];unfold l9;walk_at "w";refine⟨a,vs,(ss.length:Int)+1,rfl,hv,by omega,by omega,λt ts ht t0 t1=>⟨ts,rfl,?_⟩⟩;have hk:t.toNat≤ss.length:=by omega
 rw[show t=((t.toNat:Nat):Int) by omega];walk_at "w";generalize t.toNat=k at hk;have app:∀zs us:List D,(∀x∈zs,GW (F*2520) (b+70) x)->(∀x∈us,GW (F*2520) (b+70) x)->∀x∈zs++us,GW (F*2520) (b+70) x:=λzs us h1 h2 x hx=>(List.mem_append.mp hx).elim (h1 x) (h2 x)
 have k7:∀zs:List D,(∀x∈zs,GW (F*2520) (b+70) x)->0<zs.length->zs.length≤100->g5 [.own a ts,.d (.lst ss),.d (.int w),.d (.int (k:Int)),.d (.lst zs)] (aY [.own a xs,.d (.lst ss)] post):=by
  intro zs hz z0 z1;unfold g5;walk_at "w";by_cases c1:w=1
  · rw[if_pos c1];exact KP ht hk hg2 hz z0 z1 hl Mx
  rw[if_neg c1];unfold l6;walk_at "w";by_cases c2:w=2
  · rw[if_pos c2];exact KQ ht hg2 hl Mx
  rw[if_neg c2];unfold l3;walk_at "w";by_cases c3:3<w
  ·
   rw[if_pos c3];refine⟨by decide,λ_=>?_⟩;by_cases cs:ss=[]
   · subst cs;refine .inl ⟨cU (n:=1) rfl (by decide),cU (n:=1) rfl (by decide),?_⟩;walk_at "w";rw[if_neg (by decide +kernel)];exact EC ht hk hg2 hl Mx
   · refine .inr ⟨ss,[],rfl,rfl,λe=>cs (List.length_eq_zero_iff.mp e),?_⟩;walk_at "w";exact KR rfl rfl hb F0 ht (List.length_pos_iff.mpr cs) hg hl Mx
  · rw[if_neg c3];exact EC ht hk hg2 hl Mx
 have k6:∀zs:List D,(∀x∈zs,GW (F*2520) (b+70) x)->0<zs.length->zs.length≤90->g6 [.own a ts,.d (.lst ss),.d (.int w),.d (.int (k:Int)),.d (.lst zs)] (aY [.own a xs,.d (.lst ss)] post):=by intro zs hz z0 z1;unfold g6;walk_at "w";exact⟨by decide,λ_=>⟨by decide,by decide,by decide,by decide,by decide,λ_=>⟨by decide,by decide,λ_=>⟨gf (by omega),λ_=>k7 _ (app zs _ hz (pF (by decide +kernel) hb1)) (by simp only[List.length_append];omega) (by simp only[List.length_append,List.length_cons,List.length_nil];omega)⟩⟩⟩⟩
 have k5:∀zs:List D,(∀x∈zs,GW (F*2520) (b+70) x)->0<zs.length->zs.length≤80->g7 [.own a ts,.d (.lst ss),.d (.int w),.d (.int (k:Int)),.d (.lst zs)] (aY [.own a xs,.d (.lst ss)] post):=by intro zs hz z0 z1;unfold g7;walk_at "w";exact⟨by decide,by decide,by decide,λ_=>⟨by decide,by decide,by decide,by decide,by decide,λ_=>⟨gf (by omega),λ_=>k6 _ (app zs _ hz (pF (by decide +kernel) hb1)) (by simp only[List.length_append];omega) (by simp only[List.length_append,List.length_cons,List.length_nil];omega)⟩⟩⟩
 have k4:∀zs:List D,(∀x∈zs,GW (F*2520) (b+70) x)->0<zs.length->zs.length≤20->g8 [.own a ts,.d (.lst ss),.d (.int w),.d (.int (k:Int)),.d (.lst zs)] (aY [.own a xs,.d (.lst ss)] post):=by intro zs hz z0 z1;unfold g8;walk_at "w";refine⟨by decide,by decide,by decide,by decide,λ_=>⟨gf (by omega),λ_=>⟨gf ?_,λ_=>k5 _ (app _ ss (app zs _ hz (pF (by decide +kernel) hb1)) hg2) (by simp only[List.length_append];omega) ?_⟩⟩⟩<;>simp only[List.length_append,List.length_cons,List.length_nil]<;>omega
 have k3:∀zs:List D,(∀x∈zs,GW (F*2520) (b+70) x)->0<zs.length->zs.length≤10->g9 [.own a ts,.d (.lst ss),.d (.int w),.d (.int (k:Int)),.d (.lst zs)] (aY [.own a xs,.d (.lst ss)] post):=by intro zs hz z0 z1;unfold g9;walk_at "w";exact⟨by decide,by decide,by decide,by decide,by decide,λ_=>⟨gf (by omega),λ_=>k4 _ (app zs _ hz (pF (by decide +kernel) hb1)) (by simp only[List.length_append];omega) (by simp only[List.length_append,List.length_cons,List.length_nil];omega)⟩⟩
 unfold l7;walk_at "w";refine⟨by decide,λ_=>⟨by decide,by decide,by decide,by decide,by decide,λ_=>?_⟩⟩;exact k3 _ (pF (by decide +kernel) hb1) (by simp) (by simp)
noncomputable def zg(R:aR)(ps:List Rat):D->List D
 | .lst ss=>match sO R 0 ps ss with
  |none=>[.str "behind",.lst ((uO R ps ss).map ND)]
  |some i=>[.str "refused",.int (i:Int)]
 |_=>[.str "refused",.non]
def jr:FS:=λls post=>∃(R:aR)(ps:List Rat)(d:D)(F:Nat),ls=[.d (aS R),.d (.lst (ps.map ND)),.d d]/\Qt R ps F/\Tg F 1900 d/\∀a,post (.own a (zg R ps d)) ls
def me:W Fl:=(bS (lg 3))
def mf:W Fl:=(aV (xA (λxt=>(bq 3 (fF (ao (wC (.str "behind")) (ao (bc (tY cS xt (ao (ak 0) (ao (ak 1) (ao (ak 2) aB))))) aB))))) "LoadError" 4 (aV (bq 5 (bc (Nj (tZ ["NoChange","NoName","NoNumber","NoPlace","NoRing","NoString","NoText","NoTree"]) (ak 4))))
  (Nk (Cv (aO (Nj (AM "NoSlide") (ak 4))) (Cv (nG (aO (ak 5))) (nG (aO (Nj (fK "bool") (Nj (t5 "number") (ak 4))))))) (bq 3 (fF (ao (wC (.str "refused")) (ao (Nj (t5 "number") (ak 4)) aB)))) bN)))
  me)
def hJ:W Fl:=(aV (bq 3 (wC .non))
  mf)
theorem yf{R:aR}{ps:List Rat}{d:D}(h:∀ ss,d≠.lst ss):zg R ps d=[.str "refused",.non]:=by
 unfold zg;split
 · exact absurd rfl (h _)
 · rfl
theorem uT(R:aR)(ps:List Rat)(ss:List D):zg R ps (.lst ss)=match sO R 0 ps ss with
  |none=>[.str "behind",.lst ((uO R ps ss).map ND)]
  |some i=>[.str "refused",.int (i:Int)]:=rfl
theorem GZ{R:aR}{ps:List Rat}{d:D}{F:Nat}{post:L->Prop}{xp:Xc->Prop}(hS:Qt R ps F)(hT:Tg F 1900 d)(h1:∀ ss,d=.lst ss->sO R 0 ps ss=none->∀ a,post (.own a ((uO R ps ss).map ND))) (h2:∀ ss i,d=.lst ss->sO R 0 ps ss=some i->xp ⟨"NoSlide",["number"],[.int (i:Int)]⟩) (h3:(∀ ss,d≠.lst ss)->xp ⟨"NoSlide",["number"],[.non]⟩):cS [aS R,.lst (ps.map ND),d] post xp:=by
 by_cases hL:∃ss,d=.lst ss
 · obtain⟨ss,rfl⟩:=hL;obtain⟨hl,hg⟩:=hT.it ss rfl;exact .inr ⟨R,ps,ss,F,rfl,hS.ok,hl,λx hx s e=>⟨((hg x hx).am e).1.mono (by decide),((hg x hx).am e).2⟩,⟨hS.d0,hS.d1,hS.da,hS.dp⟩,λe a=>h1 ss rfl e a,λi e=>h2 ss i rfl e⟩
 · exact .inl ⟨R,ps,d,rfl,λss e=>hL ⟨ss,e⟩,h3 λss e=>hL ⟨ss,e⟩⟩
theorem BJ:([Str.ofString "NoChange",Str.ofString "NoName",Str.ofString "NoNumber",Str.ofString "NoPlace",Str.ofString "NoRing",Str.ofString "NoString",Str.ofString "NoText",Str.ofString "NoTree"].any λc=>c == Str.ofString "NoSlide" ||c == Str.ofString "LoadError")=false:=by decide +kernel
theorem BK(n:D):List.lookup (Str.ofString "number") ([Str.ofString "number"].zip [n])=some n:=by show List.lookup (Str.ofString "number") [(Str.ofString "number",n)]=_;rw[List.lookup_cons_self]
theorem G0{k:W Fl}{R:aR}{ps:List Rat}{d:D}{F:Nat}{post:Fl->Ev->Prop}(hS:Qt R ps F)(hT:Tg F 1900 d)
  (h:∀(a:Addr)(l4 l5:L),k [.d (aS R),.d (.lst (ps.map ND)),.d d,.own a (zg R ps d),l4,l5] post) :
  aV (xA (λxt=>(bq 3 (fF (ao (wC (.str "behind")) (ao (bc (tY cS xt (ao (ak 0) (ao (ak 1) (ao (ak 2) aB))))) aB))))) "LoadError" 4 (aV (bq 5 (bc (Nj (tZ ["NoChange","NoName","NoNumber","NoPlace","NoRing","NoString","NoText","NoTree"]) (ak 4))))
  (Nk (Cv (aO (Nj (AM "NoSlide") (ak 4))) (Cv (nG (aO (ak 5))) (nG (aO (Nj (fK "bool") (Nj (t5 "number") (ak 4))))))) (bq 3 (fF (ao (wC (.str "refused")) (ao (Nj (t5 "number") (ak 4)) aB)))) bN))) k
   [.d (aS R),.d (.lst (ps.map ND)),.d d,.d .non,.un,.un] post:=by
 walk_at "w";refine GZ hS hT (λss e eb a=>?_) (λss i e eb=>?_) λhn=>?_
 · subst e;rw[uT,eb]at h;walk_at "w";exact⟨by decide,λb=>h b _ _⟩
 · subst e;rw[uT,eb]at h;walk_at "w";refine⟨Bool.or_true _,?_⟩;rw[if_pos (Bool.true_or _),if_pos BJ,BK];dsimp only;rw[if_pos (show jS "bool" (D.int (i:Int))=false from rfl)];exact⟨by decide,λb=>h b _ _⟩
 · rw[yf hn]at h;walk_at "w";refine⟨Bool.or_true _,?_⟩;rw[if_pos (Bool.true_or _),if_pos BJ,BK];dsimp only;rw[if_pos (show jS "bool" D.non=false from rfl)];exact⟨by decide,λb=>h b _ _⟩
theorem JA{k:W Fl}{x y z:D}{post:Fl->Ev->Prop}(h:k [.d x,.d y,.d z,.d .non,.un,.un] post):aV (bq 3 (wC .non)) k [.d x,.d y,.d z,.un,.un,.un] post:=by walk_at "w";exact h
theorem sj:∀ls post,ls.length=3->jr ls post->hJ (ls++List.replicate 3 .un) (aY ls post):=by rintro ls post - ⟨R,ps,d,F,rfl,hS,hT,h⟩;show hJ [.d (aS R),.d (.lst (ps.map ND)),.d d,.un,.un,.un] _;unfold hJ;refine JA ?_;unfold mf;refine G0 hS hT λa l4 l5=>?_;unfold me;walk_at "w";exact⟨_,aj (aj (aj aL)),h a⟩
def jt:FS:=λls post=>∃(ps:List Rat)(s:cm),ls=[.d (.lst (ps.map ND)),.d (Oo s)]/\ps.length≤20/\s.k<ps.length/\s.l<ps.length/\s.k≠s.l/\(∀p∈ps,RB 4000 p)/\RB 4000 s.am/\∀a,post (.own a ((Ou ps s).map ND)) ls
def hU:W Fl:=(Nk (aO (ax oK (ak 9) (wC (.str "on")))) (qQ 7 (ak 8) (aP dX (ao (eQ 7 (yH 7 (ak 8)) (ax aN (ak 7) (ak 8))) (ao (ak 6) aB)))) (qQ 7 (ak 8) (aP cw (ao (eQ 7 (yH 7 (ak 8)) (ax aN (ak 7) (ak 8))) (ao (ak 6) aB)))))
def kU:W Fl:=(aV (vA [2,3,4,5,6] (ak 1))
  (aV (bq 7 (a8 oM (ao (ak 0) aB)))
  (aV (vw (zl (fF (ao (cz (ao (ak 2) (ao (ak 3) aB))) (ao (cz (ao (ak 4) (ao (ak 5) aB))) aB)))) (iP [8,9]) hU)
  (bS (lg 7)))))
theorem yg{n k:Nat}(h:k<n):MS n (k:Int)=some k:=by unfold MS;rw[if_pos (by omega),if_pos (by omega)];simp
theorem uU{x0 x1 x2 x3 x4 x5:L}{am:Rat}{a:Addr}{qs:List Rat}{k:Nat}{w:Bool}{Q:Fl->Ev->Prop}(hk:k<qs.length)(hq:RB 4400 qs[k])(ha:RB 4400 am)
  (h:Q .nx [x0,x1,x2,x3,x4,x5,.d (ND am),.own a ((qs.set k (Ot (qs.getD k 0) w am)).map ND),.d (.int (k:Int)),.d (.str (dg w))]) :
  hU [x0,x1,x2,x3,x4,x5,.d (ND am),.own a (qs.map ND),.d (.int (k:Int)),.d (.str (dg w))] Q:=by
 rw[cf hk,List.map_set]at h;unfold Ot at h;unfold hU;walk_at "w"
 cases w with
 | true =>
  walk_at "w";refine⟨_,bP hk,BH hq ha ?_⟩;walk_at "w";exact⟨k,yg hk,h⟩
 | false =>
  walk_at "w";refine⟨_,bP hk,_,_,rfl,hq,ha,?_⟩;walk_at "w";exact⟨k,yg hk,h⟩
theorem sq:∀ls post,ls.length=2->jt ls post->kU (ls++List.replicate 8 .un) (aY ls post):=by
 rintro ls post - ⟨ps,s,rfl,h20,hk,hl,hkl,hp,ha,h⟩;unfold kU;simp only[Oo];walk_at "w";refine λa=>⟨by decide,by decide,by decide,λ_=>?_⟩;have r1:=hp _ (List.getElem_mem hk);have r2:=hp _ (List.getElem_mem hl);have hl':s.l<(ps.set s.k (Ot (ps.getD s.k 0) s.kw s.am)).length:=by rw[List.length_set];exact hl
 have e1:(ps.set s.k (Ot (ps.getD s.k 0) s.kw s.am))[s.l]=ps[s.l]:=by rw[List.getElem_set_ne hkl]
 unfold cu;refine uU hk (r1.mono (by decide)) (ha.mono (by decide)) ?_;unfold cu;refine uU hl' (by rw[e1];exact r2.mono (by decide)) (ha.mono (by decide)) ?_;unfold cu;walk_at "w";exact⟨_,aj (aj aL),h a⟩
noncomputable def uV(n:Nat)(a:N9)(w:Bool):List Nat:=if w then Ob n a.one a.other else Ob n a.other a.one
def fz:FS:=λls post=>∃(R:aR)(k:Nat)(w:Bool)(hk:k<R.asks.length),ls=[.d (aS R),.d (.int k),.d (.str (dg w))]/\R.Ok/\∀c,post (.own c ((uV R.n R.asks[k] w).map λ(t:Nat)=>D.int (t:Int))) ls
def hW:W Fl:=(aV (vt (FE 7 (ak 4)))
  (bq 4 (ax eB (ax bA (ak 4) (wC (.int 1))) (a8 df (ao (ax aN (ak 0) (wC (.int 0))) aB)))))
def kW:W Fl:=(aV (vA [3,4,5,6] (ax aN (ax aN (ak 0) (wC (.int 1))) (ak 1)))
  (aV (Nk (aO (ax oK (ak 2) (wC (.str "back")))) (JI 4 5 (ak 5) (ak 4)) bN)
  (aV (bq 7 (fF aB))
  (aV (oH (aO (ax yC (ak 4) (ak 5))) hW)
  (bS (lg 7))))))
theorem p7{f:Nat->Nat}{s m:Nat}(h:s<m):((List.range m).map f).take (s+1)=((List.range m).map f).take s++[f s]:=by rw[List.take_succ,List.getElem?_map,List.getElem?_range h];rfl
theorem uW{R:aR}(hR:R.Ok){x1 x2 x3 x6:L}{i j:Nat}(hi:i<R.n)(hj:j<R.n)(c:Addr){post:Fl->Ev->Prop}(Mx:post .nx [.d (aS R),x1,x2,x3,.d (.int j),.d (.int j),x6,.own c ((Ob R.n i j).map λ(t:Nat)=>D.int (t:Int))]) :
  oH (aO (ax yC (ak 4) (ak 5))) hW [.d (aS R),x1,x2,x3,.d (.int i),.d (.int j),x6,.own c []] post:=by
 have hhi:=hR.hi;have hlo:=hR.lo;refine⟨λm ρ=>∃s,ρ=[.d (aS R),x1,x2,x3,.d (.int (((i+s) % R.n:Nat):Int)),.d (.int j),x6,.own c (((Ob R.n i j).take s).map λ(t:Nat)=>D.int (t:Int))]/\s≤Oc R.n i j/\m=Oc R.n i j-s,⟨_,0,by rw[Nat.add_zero,Nat.mod_eq_of_lt hi];rfl,Nat.zero_le _,rfl⟩,?_⟩;rintro m ρ ⟨s,rfl,hs,rfl⟩;have hf:Oc R.n i j<R.n:=Nat.mod_lt _ (by omega);have hfe:=ng hi hj
 have hm:(i+s) % R.n=if i+s<R.n then i+s else i+s-R.n:=lA (by omega)
 walk_at "w";by_cases hne:(i+s) % R.n=j
 ·
  have hs':s=Oc R.n i j:=by rw[hm]at hne;rw[hfe]at hs ⊢;split at hne<;>split at hs<;>split<;>omega
  rw[if_neg (λz=>z (by rw[hne]))];rw[List.take_of_length_le (by rw[qr];omega),hne];exact Mx
 ·
  have hs':s<Oc R.n i j:=by refine Nat.lt_of_le_of_ne hs λz=>hne ?_;rw[z,hfe]at hm;rw[z,hfe,hm];split<;>split<;>omega
  rw[if_pos (λz=>hne (Int.ofNat_inj.mp z))];unfold hW;walk_at "w";refine⟨?_,by omega,?_⟩
  · rw[List.length_take];exact Nat.lt_of_le_of_lt (Nat.min_le_left _ _) (Nat.lt_of_lt_of_le (show s<12 by omega) (by decide))
  refine⟨Oc R.n i j-(s+1),by omega,s+1,?_,hs',rfl⟩;have e1:(Ob R.n i j).take (s+1)=(Ob R.n i j).take s++[(i+s) % R.n]:=p7 hs';have e2:((((i+s) % R.n:Nat):Int)+1).fmod (R.n:Int)=(((i+(s+1)) % R.n:Nat):Int):=by have:=xN (n:=R.n) (i:=(i+s) % R.n) (s:=1);rw[Nat.mod_add_mod,Nat.add_assoc]at this;exact this
  rw[e1,List.map_append];rw[e2];rfl
theorem sr:∀ls post,ls.length=3->fz ls post->kW (ls++List.replicate 5 .un) (aY ls post):=by
 rintro ls post - ⟨R,k,w,hk,rfl,hR,h⟩;have ha:=hR.ask _ (List.getElem_mem hk);unfold kW;walk_at "w";refine⟨ml R.asks[k],bP hk,?_⟩;walk_at "w"
 cases w with
 | true =>
  simp only[Bool.true_eq_false,if_false];refine⟨by decide,λc=>?_⟩;refine uW hR ha.one ha.other c ?_;walk_at "w";exact⟨_,aj (aj (aj aL)),h c⟩
 | false =>
  simp only[if_true];refine⟨by decide,λc=>?_⟩;refine uW hR ha.other ha.one c ?_;walk_at "w";exact⟨_,aj (aj (aj aL)),h c⟩
def hX:FS:=λls post=>∃p q:Rat,ls=[.d (ND p),.d (ND q)]/\RB 400000 p/\RB 400000 q/\post (.d (.bl (decide (p<q)))) ls
def ju:W Fl:=(bS (ax qM (ax bG (ax aN (ak 0) (wC (.int 0))) (ax aN (ak 1) (wC (.int 1)))) (ax bG (ax aN (ak 1) (wC (.int 0))) (ax aN (ak 0) (wC (.int 1))))))
theorem p8:∀ls post,ls.length=2->hX ls post->ju (ls++List.replicate 0 .un) (aY ls post):=by rintro ls post - ⟨p,q,rfl,hp,hq,h⟩;unfold ju;walk_at "w";refine⟨hp.bn (by decide),hq.bd (by decide),hq.bn (by decide),hp.bd (by decide),_,aj (aj aL),?_⟩;rw[IU];exact h
def jv:FS:=λls post=>∃(R:aR)(ps:List Rat)(k:Nat)(w:Bool),ls=[.d (aS R),.d (.lst (ps.map ND)),.d (.int (k:Int)),.d (.str (dg w))]/\gu R ps/\k<ps.length/\post (.d (ND (Oq R ps k (!w)))) ls
def kX:W Fl:=(aV (Nk (aO (ax oK (ak 3) (wC (.str "on")))) (bS (ax aN (ak 1) (ak 2))) bN)
  (bS (aP cw (ao (ax aN (ax aN (ax aN (ak 0) (wC (.int 1))) (ak 2)) (wC (.int 3))) (ao (ax aN (ak 1) (ak 2)) aB)))))
theorem su:∀ls post,ls.length=4->jv ls post->kX (ls++List.replicate 0 .un) (aY ls post):=by
 rintro ls post - ⟨R,ps,k,w,rfl,hS,hk,h⟩;have hk':k<R.asks.length:=by rw[← hS.len];exact hk
 have r1:=hS.sz_rb hk;have r2:=hS.rb hk;rw[nL hk']at r1;rw[cf hk]at r2;unfold Oq at h;rw[nL hk',cf hk]at h;unfold kX;walk_at "w"
 cases w with
 | true =>
  walk_at "w";exact⟨_,bP hk,_,aj (aj (aj (aj aL))),h⟩
 | false =>
  walk_at "w";refine⟨_,bP hk',?_⟩;walk_at "w";refine⟨_,bP hk,?_⟩;walk_at "w";exact⟨_,_,rfl,r1.mono (by decide),r2.mono (by decide),_,aj (aj (aj (aj aL))),h⟩
def eg:FS:=λls post=>∃(R:aR)(ps:List Rat)(d:D),ls=[.d (aS R),.d (.lst (ps.map ND)),.d d]/\gu R ps/\(∀s,qt d=some s->RB 4400 s.am)/\(∀a b c e i j,d=.tup [a,b,c,e,.tup [.int i,.int j]]->j.natAbs<2^9000)/\post (.d (.bl (OC R ps d))) ls
def gh:W L:=(ak 0)
def gi:W Fl:=(bS (ax oK (oO 1 [11] (zl (aP fz (ao (ak 0) (ao (ak 3) (ao (ak 4) aB))))) (b8 0) (aO (ax (tN false) (ak 0) (ak 1))) gh) (fF aB)))
def dB:W Fl:=(aV (bq 10 (bc (aP cw (ao (ax aN (ax aN (ax aN (ak 0) (wC (.int 1))) (ak 8)) (wC (.int 3))) (ao (bc (aP jv (ao (ak 0) (ao (ak 1) (ao (ak 8) (ao (ak 9) aB)))))) aB)))))
  (Nk (aO (aP hX (ao (ak 10) (ao (ak 7) aB)))) (bS (wC (.bl false))) bN))
def gj:W Fl:=(aV (bq 11 (bc (aP fz (ao (ak 0) (ao (ak 5) (ao (ak 6) aB))))))
  gi)
def gk:W Fl:=(aV (vw (zl (fF (ao (cz (ao (ak 3) (ao (ak 4) aB))) (ao (cz (ao (ak 5) (ao (ak 6) aB))) aB)))) (iP [8,9]) dB)
  gj)
def dC:W Fl:=(aV (Nk (Nh (nG (aO (Nj (fK "int") (ak 8)))) (Nh (aO (Nj (fK "bool") (ak 8))) (nG (aO (qh Fs qM (wC (.int 0)) (ak 8) (a8 df (ao (ax aN (ak 0) (wC (.int 1))) aB))))))) (bS (wC (.bl false))) bN)
  (Nk (Nh (nG (aO (Nj (fK "str") (ak 9)))) (aO (ax (tN true) (ak 9) (cz (ao (wC (.str "on")) (ao (wC (.str "back")) aB)))))) (bS (wC (.bl false))) bN))
def gm:W Fl:=(aV (Nk (Nh (aO (ax oK (ak 3) (ak 5))) (Nh (nG (aO (aP cO (ao (ak 7) aB)))) (aO (ax Fs (ax aN (ak 7) (wC (.int 0))) (wC (.int 0)))))) (bS (wC (.bl false))) bN)
  gk)
def gn:W Fl:=(aV (vw (zl (fF (ao (cz (ao (ak 3) (ao (ak 4) aB))) (ao (cz (ao (ak 5) (ao (ak 6) aB))) aB)))) (iP [8,9]) dC)
  gm)
def gp:W Fl:=(aV (vA [3,4,5,6,7] (ak 2))
  gn)
def fb:W Fl:=(aV (Nk (Nh (nG (aO (Nj (fK "tuple") (ak 2)))) (aO (ax yC (a8 df (ao (ak 2) aB)) (wC (.int 5))))) (bS (wC (.bl false))) bN)
  gp)
theorem yh{q:Rat}:0<q↔0<q.num:=by rw[Rat.lt_iff];simp
theorem ou{n:Nat}{a:N9}(h:fk n a)(w:Bool)(t:Nat):t∈uV n a w↔t∈vW n a w:=by
 cases w with
 |true=>exact Iff.rfl
 | false =>
  show t∈Ob n a.other a.one↔t∈o4 n a.one a.other;rw[A9 h.other,rq h.one h.other h.ne];refine and_congr_right λht=>?_;have:=Bc h ht;unfold uk Bb at this;simp only at this;rw[← decide_eq_true_iff (p:=Oc n a.other t<Oc n a.other a.one),this];simp
theorem zh{n:Nat}{a b:N9}(ha:fk n a)(hb:fk n b)(aw bw:Bool):gG n a aw b bw=decide ((((uV n a aw).filter λt=>decide (t∈uV n b bw)).map λ(t:Nat)=>(t:Int))=[]):=by
 unfold gG;rw[Bool.eq_iff_iff,Bool.not_eq_true',List.any_eq_false,decide_eq_true_iff,List.map_eq_nil_iff,List.filter_eq_nil_iff];constructor
 · intro h t ht;rw[decide_eq_true_iff,ou hb];have:=h t ((ou ha aw t).mp ht);simpa using this
 · intro h t ht;have:=h t ((ou ha aw t).mpr ht);rw[decide_eq_true_iff,ou hb]at this;simpa using this
theorem BL(p:Nat->Bool):∀l:List Nat,(l.filterMap λt=>if p t=true then some (D.int (t:Nat))else none)=((l.filter p).map λ(t:Nat)=>(t:Int)).map D.int
 |[]=>rfl
 | a::l=>by rw[List.filterMap_cons,List.filter_cons,BL p l];cases p a<;>simp
theorem Qx{p q r s t:Bool}(h:(p && r)=false):(p && (q && (r && (s && t))))=false:=by revert h;cases p<;>cases q<;>cases r<;>simp
theorem Qy{p q r s t:Bool}(h:(q && s)=false):(p && (q && (r && (s && t))))=false:=by revert h;cases p<;>cases q<;>cases r<;>cases s<;>simp
theorem yi{R:aR}{x1 x2 x3 x4 x5 x6 x7 x10 x11:L}{u w:D}{Q:Fl->Ev->Prop}
  (h:(jN u (R.asks.length:Int) && xY w)=true->Q .nx [.d (aS R),x1,x2,x3,x4,x5,x6,x7,.d u,.d w,x10,x11])
  (h':(jN u (R.asks.length:Int) && xY w)=false->Q (.rt (.d (.bl false))) [.d (aS R),x1,x2,x3,x4,x5,x6,x7,.d u,.d w,x10,x11]) :
  dC [.d (aS R),x1,x2,x3,x4,x5,x6,x7,.d u,.d w,x10,x11] Q:=by
 unfold dC;have no:jN u (R.asks.length:Int)=false->(jN u (R.asks.length:Int) && xY w)=false:=λe=>by rw[e];rfl
 cases u with
 | int i =>
  walk_at "w";have e0:jN (.int i) (R.asks.length:Int)=decide (0≤i/\i<(R.asks.length:Int)):=rfl;by_cases c:0≤i/\i<(R.asks.length:Int)
  ·
   rw[decide_eq_true c]at e0;rw[e0,Bool.true_and]at h h';rw[if_pos c.1,if_neg (by omega)]
   cases w with
   | str z =>
    walk_at "w";rw[Bm];refine⟨by decide,rfl,rfl,?_⟩
    cases e:xY (.str z)with
    | true =>
     walk_at "w";exact h e
    | false =>
     walk_at "w";exact h' e
   | _ =>
    walk_at "w";exact h' rfl
  ·
   rw[decide_eq_false c]at e0;have h':=h' (no e0);by_cases c0:0≤i
   · rw[if_pos c0,if_pos (by omega)];exact h'
   · rw[if_neg c0];exact h'
 | _ =>
  walk_at "w";exact h' (no rfl)
theorem yj{R:aR}{ps:List Rat}{x2 x3 x4 x5 x6 x10 x11:L}{am:Rat}{k:Nat}{w:Bool}{Q:Fl->Ev->Prop}(hS:gu R ps)(hk:k<ps.length)(ha:RB 4400 am)
  (h1:Oq R ps k w<am->∀ρ,qf ρ [.d (aS R),.d (.lst (ps.map ND)),x2] [.d (aS R),.d (.lst (ps.map ND)),x2]->Q (.rt (.d (.bl false))) ρ) (h2:¬Oq R ps k w<am->∀x10,Q .nx [.d (aS R),.d (.lst (ps.map ND)),x2,x3,x4,x5,x6,.d (ND am),.d (.int (k:Int)),.d (.str (dg w)),x10,x11]) (hx:∃d,x2=.d d) :
  dB [.d (aS R),.d (.lst (ps.map ND)),x2,x3,x4,x5,x6,.d (ND am),.d (.int (k:Int)),.d (.str (dg w)),x10,x11] Q:=by
 have hk':k<R.asks.length:=by rw[← hS.len];exact hk
 have e:R.asks[k].size-Oq R ps k (!w)=Oq R ps k w:=by rw[← nL hk'];exact GM w
 obtain⟨d,rfl⟩:=hx;unfold dB;walk_at "w";refine⟨_,bP hk',?_⟩;walk_at "w";refine⟨R,ps,k,w,rfl,hS,hk,?_⟩;walk_at "w";have r1:=hS.sz_rb hk;rw[nL hk']at r1;have r2:RB 4400 (Oq R ps k (!w)):=(pS hS hk _).mono (by decide);refine⟨_,_,rfl,r1.mono (by decide),r2,?_⟩;rw[e];walk_at "w";refine⟨_,am,rfl,((pS hS hk w).mono (by decide)),ha.mono (by decide),?_⟩;walk_at "w";by_cases q:Oq R ps k w<am
 · rw[if_pos q];exact h1 q _ (aj (aj (aj aL)))
 · rw[if_neg q];exact h2 q _
theorem mU:∀ls post,ls.length=3->eg ls post->fb (ls++List.replicate 9 .un) (aY ls post):=by
 rintro ls post - ⟨R,ps,d,rfl,hS,ha0,hj,h⟩;unfold fb;have no:OC R ps d=false->∀ρ,qf ρ [.d (aS R),.d (.lst (ps.map ND)),.d d] [.d (aS R),.d (.lst (ps.map ND)),.d d]->aY [.d (aS R),.d (.lst (ps.map ND)),.d d] post (.rt (.d (.bl false))) ρ:=λe ρ b=>by rw[e]at h;exact⟨_,b,h⟩
 have nof:nM R.asks.length d=false->OC R ps d=false:=λef=>by
  unfold nM at ef;unfold OC;rw[hS.len];split
  · rename_i s e;rw[e]at ef;have ef:(decide (s.k<R.asks.length) && decide (s.l<R.asks.length))=false:=ef;rw[← Bool.and_assoc,ef];rfl
  · rfl
 by_cases ht:∃xs,d=.tup xs
 rotate_left
 ·
  have e:=no (nof (yb λxs e=>ht ⟨xs,e⟩))
  cases d with
  |tup xs=>exact absurd ⟨_,rfl⟩ ht
  | _ =>
   walk_at "w";exact e _ (aj (aj (aj aL)))
 obtain⟨xs,rfl⟩:=ht;by_cases h5:xs.length=5
 rotate_left
 · have e:=no (nof (uw h5));walk_at "w";rw[if_pos (by omega)];exact e _ (aj (aj (aj aL)))
 obtain⟨a,b,c,d,e,rfl⟩:=five h5;walk_at "w";unfold gp;walk_at "w";unfold gn;walk_at "w";rw[if_neg (by simp)];refine⟨by decide,by decide,by decide,λ_=>?_⟩
 have nf1:(jN a (R.asks.length:Int) && xY b)=false->OC R ps (.tup [a,b,c,d,e])=false:=λz=>nof (by
  rw[rL]
  exact Qx z)
 have nf2:(jN c (R.asks.length:Int) && xY d)=false->OC R ps (.tup [a,b,c,d,e])=false:=λz=>nof (by
  rw[rL]
  exact Qy z)
 unfold cu;refine yi (λf1=>?_) λf=>no (nf1 f) _ (aj (aj (aj aL)));unfold cu;refine yi (λf2=>?_) λf=>no (nf2 f) _ (aj (aj (aj aL)));unfold cu;rw[Bool.and_eq_true]at f1 f2
 obtain⟨k,ek,hk'⟩:∃k,kg a=some k/\k<R.asks.length:=by
  have f:=f1.1;rw[oo]at f
  cases z:kg a with
  |none=>rw[z]at f;cases f
  |some k=>rw[z]at f;exact⟨k,rfl,of_decide_eq_true f⟩
 obtain⟨l,el,hl'⟩:∃k,kg c=some k/\k<R.asks.length:=by
  have f:=f2.1;rw[oo]at f
  cases z:kg c with
  |none=>rw[z]at f;cases f
  |some k=>rw[z]at f;exact⟨k,rfl,of_decide_eq_true f⟩
 obtain⟨kw,ekw⟩:∃w,mE b=some w:=Option.isSome_iff_exists.mp (by rw[← rJ];exact f1.2);obtain⟨lw,elw⟩:∃w,mE d=some w:=Option.isSome_iff_exists.mp (by rw[← rJ];exact f2.2);have q1:=om ek;have q2:=om el;have q3:=oj ekw;have q4:=oj elw;subst q1 q2 q3 q4;have hk:k<ps.length:=by rw[hS.len];exact hk'
 have hl:l<ps.length:=by rw[hS.len];exact hl'
 unfold gm;walk_at "w";by_cases e1:k=l
 ·
  rw[if_pos (by omega)];refine no ?_ _ (aj (aj (aj aL)));unfold OC;split
  ·
   rename_i s es;have:=rK es;simp only[Oo]at this;injection this with this;injection this with t1 t2;injection t2 with t2 t3;injection t3 with t3 t4;injection t1 with t1;injection t3 with t3;have:s.k=s.l:=by omega
   unfold Nz;simp[this]
  · rfl
 rw[if_neg (by omega)];refine⟨e,rfl,λi j z=>?_,?_⟩
 · subst z;exact hj _ _ _ _ i j rfl
 cases er:pM e with
 | false =>
  walk_at "w";refine no (nof ?_) _ (aj (aj (aj aL)));rw[rL,er];simp
 |true =>
 obtain⟨am,eam⟩:∃q,rH e=some q:=Option.isSome_iff_exists.mp (by rw[← Bp];exact er);have q5:=xZ eam;subst q5;obtain⟨s,hs⟩:∃s:cm,s=⟨k,kw,l,lw,am⟩:=⟨_,rfl⟩;have es:qt (.tup [.int (k:Int),.str (dg kw),.int (l:Int),.str (dg lw),ND am])=some s:=by rw[hs];exact o5 ⟨k,kw,l,lw,am⟩
 have ha:=ha0 s es;have eT:OC R ps (.tup [.int (k:Int),.str (dg kw),.int (l:Int),.str (dg lw),ND am])=Nz R ps s:=by rw[hs];exact Bq (s:=⟨k,kw,l,lw,am⟩) hk hl
 rw[eT]at h;obtain rfl:k=s.k:=by rw[hs]
 obtain rfl:kw=s.kw:=by rw[hs]
 obtain rfl:l=s.l:=by rw[hs]
 obtain rfl:lw=s.lw:=by rw[hs]
 obtain rfl:am=s.am:=by rw[hs]
 clear hs;walk_at "w"
 have ff:Nz R ps s=false->∀ρ,qf ρ [.d (aS R),.d (.lst (ps.map ND)),.d (.tup [.int (s.k:Int),.str (dg s.kw),.int (s.l:Int),.str (dg s.lw),ND s.am])] [.d (aS R),.d (.lst (ps.map ND)),.d (.tup [.int (s.k:Int),.str (dg s.kw),.int (s.l:Int),.str (dg s.lw),ND s.am])] ->
   aY [.d (aS R),.d (.lst (ps.map ND)),.d (.tup [.int (s.k:Int),.str (dg s.kw),.int (s.l:Int),.str (dg s.lw),ND s.am])] post (.rt (.d (.bl false))) ρ:=λe ρ b=>by
  rw[e]at h;exact⟨_,b,h⟩
 have hb:∀ρ,qf ρ [.d (aS R),.d (.lst (ps.map ND)),.d (.tup [.int (s.k:Int),.str (dg s.kw),.int (s.l:Int),.str (dg s.lw),ND s.am])] [.d (aS R),.d (.lst (ps.map ND)),.d (.tup [.int (s.k:Int),.str (dg s.kw),.int (s.l:Int),.str (dg s.lw),ND s.am])]:=λρ=>aj (aj (aj aL));by_cases e2:0<s.am
 ·
  rw[if_neg (by have:=yh.mp e2;omega)];unfold gk;walk_at "w";refine⟨by decide,by decide,by decide,λ_=>?_⟩;unfold cu;refine yj hS hk ha (λq ρ b=>?_) (λq1 x10=>?_) ⟨_,rfl⟩
  · exact ff (by unfold Nz;rw[decide_eq_true (p:=Os R ps s.k s.kw s.l s.lw<s.am) (GN.mpr (.inl q))];simp) _ b
  unfold cu;refine yj hS hl ha (λq ρ b=>?_) (λq2 x10=>?_) ⟨_,rfl⟩
  · exact ff (by unfold Nz;rw[decide_eq_true (p:=Os R ps s.k s.kw s.l s.lw<s.am) (GN.mpr (.inr q))];simp) _ b
  unfold cu;unfold gj;walk_at "w";refine⟨R,s.l,s.lw,hl',rfl,hS.ok,λc=>?_⟩;walk_at "w";unfold gi;walk_at "w";refine⟨R,s.k,s.kw,hk',rfl,hS.ok,λc2=>?_⟩;walk_at "w";have aok:=hS.ok.ask _ (List.getElem_mem hk');have bok:=hS.ok.ask _ (List.getElem_mem hl')
  have hlen:(uV R.n R.asks[s.k] s.kw).length≤99:=by
   have hhi:=hS.ok.hi;unfold uV;cases s.kw
   · have:=uj (n:=R.n) (i:=R.asks[s.k].other) (j:=R.asks[s.k].one) (by have:=hS.ok.lo;omega);simp only[Bool.false_eq_true,if_false,qr];omega
   · have:=uj (n:=R.n) (i:=R.asks[s.k].one) (j:=R.asks[s.k].other) (by have:=hS.ok.lo;omega);simp only[if_true,qr];omega
  refine⟨El hlen,iX (h:=λt=>if decide (t∈uV R.n R.asks[s.l] s.lw)=true then some (D.int (t:Nat))else none) _ [] _ (λt hm Q hq=>?_) λl' a1=>?_⟩
  ·
   unfold gh;walk_at "w";refine⟨rfl,by simp[nK],?_⟩;rw[rD];by_cases q:t∈uV R.n R.asks[s.l] s.lw
   · simp only[decide_eq_true q,if_true]at hq ⊢;exact hq
   · simp only[decide_eq_false q,Bool.false_eq_true,if_false]at hq ⊢;exact hq
  · rw[List.nil_append,BL];refine⟨by decide,λ_=>⟨qm _,qm [],?_⟩⟩;rw[show(D.lst [])=D.lst (([]:List Int).map D.int)from rfl,C9,← zh aok bok];refine⟨_,hb _,?_⟩;unfold Nz at h;rw[decide_eq_false e1,decide_eq_true e2,decide_eq_false (p:=Os R ps s.k s.kw s.l s.lw<s.am) (λz=>(GN.mp z).elim q1 q2),dG hk',dG hl']at h;simpa using h
 · rw[if_pos (by have:¬0<s.am.num:=λz=>e2 (yh.mpr z);omega)];exact ff (by unfold Nz;simp[e2]) _ (hb _)
noncomputable def ED(R:aR)(ps:List Rat):D->List D
 | .lst ss=>match sO R 0 ps ss with
  |none=>[.str "behind",.lst ((uO R ps ss).map ND)]
  |some i=>[.str "refused",.int (i:Int)]
 |_=>[.str "refused",.non]
def kY:FS:=λls post=>∃(R:aR)(ps:List Rat)(d:D)(F:Nat),ls=[.d (aS R),.d (.lst (ps.map ND)),.d d]/\Qt R ps F/\Tg F 1900 d/\∀a,post (.own a (ED R ps d)) ls
def nk:W Fl:=(aV (Nk (nG (aO (aP eg (ao (ak 0) (ao (ak 3) (ao (ak 5) aB)))))) (bS (fF (ao (wC (.str "refused")) (ao (ak 4) aB)))) bN)
  (bq 3 (bc (aP jt (ao (ak 3) (ao (ak 5) aB))))))
def mV:W Fl:=(aV (Nk (nG (aO (Nj (fK "list") (ak 2)))) (bS (fF (ao (wC (.str "refused")) (ao (wC .non) aB)))) bN)
  (aV (bq 3 (bc (a8 oM (ao (ak 1) aB))))
  (aV (vw (yP (ak 2)) (iP [4,5]) nk)
  (bS (fF (ao (wC (.str "behind")) (ao (ak 3) aB)))))))
theorem uX:∀ls post,ls.length=3->kY ls post->mV (ls++List.replicate 3 .un) (aY ls post):=by
 rintro ls post - ⟨R,ps,d,F,rfl,hS,hT,h⟩;unfold mV;by_cases hL:∃ss,d=.lst ss
 ·
  obtain⟨ss,rfl⟩:=hL;obtain⟨hl,hg⟩:=hT.it ss rfl
  have e0:ED R ps (.lst ss)=match sO R 0 ps ss with
   |none=>[.str "behind",.lst ((uO R ps ss).map ND)]
   |some i=>[.str "refused",.int (i:Int)]:=rfl
  rw[e0]at h;walk_at "w";intro a0;refine fo _ (λj ρ=>∃(qs:List Rat)(x4 x5:L),ρ=[.d (aS R),.d (.lst (ps.map ND)),.d (.lst ss),.d (.lst (qs.map ND)),x4,x5]/\Qt R qs F/\sO R j qs (ss.drop j)=sO R 0 ps ss/\uO R qs (ss.drop j)=uO R ps ss) _ ⟨ps,_,_,rfl,hS,rfl,rfl⟩ ?_ ?_
  ·
   rintro j x ρ hj ⟨qs,x4,x5,rfl,hD,hb,hr⟩ Q h1 h2 h3' h4;obtain⟨hj',ex⟩:=ye hj;subst ex;have hm:=hg _ (List.getElem_mem hj');rw[uP hj']at hb;have hr':uO R (Qs qs ss[j]) (ss.drop (j+1))=uO R ps ss:=by rw[← hr,List.drop_eq_getElem_cons hj'];rfl
   unfold nk;walk_at "w";refine⟨R,qs,ss[j],rfl,hD.ok,λs e=>(hm.am e).1.mono (by decide),hm.dn (by decide),?_⟩;walk_at "w"
   cases e:OC R qs ss[j]with
   | false =>
    rw[e,if_neg (by decide)]at hb;rw[← hb]at h;walk_at "w";exact⟨by decide,λb=>h4 _ _ ⟨_,aj (aj (aj aL)),h b⟩⟩
   | true =>
    rw[e,if_pos rfl]at hb;obtain⟨s,es,hk,hl',e'⟩:=Es e;have dd:=BB hD.ok hk hl' e';have es':qt ss[j]=some s:=by rw[es];exact o5 s
    obtain⟨s4,s5⟩:=hm.am es';have est:Qs qs ss[j]=Ou qs s:=by unfold Qs;rw[es']
    rw[est]at hb hr';rw[es];walk_at "w";refine⟨qs,s,rfl,by rw[hD.ok.len];exact hD.ok.ok.few,hk,hl',dd.kl,Ey hD.ok,s4.mono (by decide),λc=>?_⟩;walk_at "w";exact h1 _ ⟨_,_,_,rfl,hD.slid dd s5,hb,hr'⟩
  ·
   rintro ρ ⟨qs,x4,x5,rfl,hD,hb,hr⟩;have e:ss.drop (eD ss).length=[]:=by simp[eD]
   rw[e]at hb hr;have hb:none=sO R 0 ps ss:=hb;have hr:qs=uO R ps ss:=hr;rw[← hb]at h;rw[← hr]at h;walk_at "w";exact⟨by decide,λb=>⟨_,aj (aj (aj aL)),h b⟩⟩
 ·
  have e0:ED R ps d=[.str "refused",.non]:=by
   unfold ED;split
   · exact absurd ⟨_,rfl⟩ hL
   · rfl
  rw[e0]at h
  have ei:jS "list" d=false:=by
   cases d<;>first
    |exact absurd ⟨_,rfl⟩ hL
    |rfl
  walk_at "w";rw[ei];walk_at "w";exact⟨by decide,λb=>⟨_,aj (aj (aj aL)),h b⟩⟩
def fs_law:FS:=λls post=>∃ns:List Int,ls=[.d (.lst (ns.map .int))]/\ns.length≤63/\post (.d (.bl true)) ls
theorem BM{ns:List Int}(hl:ns.length≤63):fs_law [.d (.lst (ns.map .int))] (λr _=>r=.d (.bl true)):=⟨ns,rfl,hl,rfl⟩
def qw:W Fl:=(Nk (Nh (aO (ax yC (tV cS (λ_=>False) (ao (ak 1) (ao (ak 4) (ao (ak 5) aB)))) (ak 7))) (aO (ax AB (a8 oZ (ao (cz (ao (ak 1) (ao (ak 4) aB))) aB)) (ak 6)))) (bS (wC (.bl false))) bN)
def qx:W Fl:=(aV (Nk (Nh (aO (ax yC (aP jr (ao (ak 1) (ao (ak 4) (ao (ak 10) aB)))) (aP kY (ao (ak 1) (ao (ak 4) (ao (ak 10) aB)))))) (aO (ax AB (a8 oZ (ao (ak 10) aB)) (ak 11)))) (bS (wC (.bl false))) bN)
  qw)
def BN:W Fl:=(bq 10 (bc (bp fw 0 9 (jE 9 (ao (ak 10) aB)))))
def mW:W Fl:=(aV (bq 11 (bc (a8 oZ (ao (ak 10) aB))))
  qx)
def qy:W Fl:=(aV (Nk (Cv (aO (Nj (fK "list") (ak 10))) (aO (ax oK (bp aE 0 9 (jE 9 (ao (wC (.int 2)) aB))) (wC (.int 0))))) BN bN)
  mW)
def qz:W Fl:=(aV (bq 10 (bc (bp fw 0 9 (jE 9 (ao (ak 5) aB)))))
  qy)
def BO:W Fl:=(aV (bq 9 (aP bY (ao (ak 0) (ao (ak 8) aB))))
  qz)
def BP:W Fl:=(bS (wC (.bl true)))
def BQ:W Fl:=(aV (vw (Fq (wC (.int 4)) (a8 yE (ao (wC (.int 5)) (ao (bc (a8 yF (ao (bc (a8 df (ao (ak 0) aB))) (ao (wC (.int 20)) aB)))) aB)))) (b8 8) BO)
  BP)
def BR:W Fl:=(aV (bq 7 (bc (tV cS (λ_=>False) (ao (ak 1) (ao (ak 4) (ao (ak 5) aB))))))
  BQ)
def BS:W Fl:=(aV (bq 6 (bc (a8 oZ (ao (cz (ao (ak 1) (ao (ak 4) aB))) aB))))
  BR)
def BU:W Fl:=(aV (bq 5 (bc (aP gO (ao (ak 1) (ao (ak 4) aB)))))
  BS)
def BV:W L:=(ak 0)
def BW:W Fl:=(aV (bq 4 (bc (aP gW (ao (aP bY (ao (ak 0) (ao (wC (.int 3)) aB))) (ao (ak 1) aB)))))
  BU)
def BX:W Fl:=(aV (bq 1 (cz (ao (ax aN (ak 1) (wC (.int 0))) (ao (bc (ax bA (oO 1 [] (zl (ax aN (ak 1) (wC (.int 1)))) (b8 0) (aO (ax (tN true) (ax aN (ak 0) (wC (.int 0))) (cz (ao (wC (.str "aaaaaaaz")) (ao (wC (.str "zaaaaaaa")) aB))))) BV) (ak 3))) aB))))
  BW)
def BY:W Fl:=(aV (bq 3 (bc (fF (ao (cz (ao (wC (.str "aaaaaaaz")) (ao (wC (.int 0)) (ao (ax iD (ak 2) (wC (.int 1))) (ao (cz (ao (wC (.int 3)) (ao (wC (.int 2)) aB))) aB))))) (ao (cz (ao (wC (.str "zaaaaaaa")) (ao (wC (.int 1)) (ao (wC (.int 0)) (ao (cz (ao (wC (.int 2)) (ao (wC (.int 1)) aB))) aB))))) aB)))))
  BX)
def BZ:W Fl:=(aV (bq 2 (bc (a8 df (ao (ax aN (ak 1) (wC (.int 0))) aB))))
  BY)
def G1:W Fl:=(aV (bq 1 (bc (aP jn (ao (ak 0) (ao (wC (.int 0)) (ao (wC (.int 12)) (ao (wC (.int 8)) aB)))))))
  BZ)
theorem DT{R:aR}{ps:List Rat}(hR:R.Ok)(hT:∀a∈R.asks,RB 60 a.size)(h:BE R ps):∃E:Nat,Qt R ps E/\E≤2^1210:=by
 have d2:yZ R.asks≤2^1200:=Nat.le_trans (vV hT) (Nat.pow_le_pow_right (by decide) (by have:=hR.few;omega));have d3:yZ R.asks*12≤2^1210:=Nat.le_trans (Nat.mul_le_mul d2 (show 12≤2^10 by decide)) (by rw[← Nat.pow_add];exact Nat.le_refl _);have d4:yZ R.asks*12<2^1500:=Nat.lt_of_le_of_lt d3 (Nat.pow_lt_pow_right (by decide) (by decide));have d0:0<yZ R.asks*12:=Nat.mul_pos (rm _) (by decide);have da:∀a∈R.asks,a.size.den∣yZ R.asks*12:=λa ha=>Nat.dvd_trans (og ha) (Nat.dvd_mul_right _ _)
 have dp:∀p∈ps,p.den∣yZ R.asks*12:=λp hp=>by
  obtain⟨k,hk,rfl⟩:=List.getElem_of_mem hp;have hk':k<R.asks.length:=by rw[← h.len];exact hk
  obtain⟨v,v0,v1,e⟩:=h.tw k hk';rw[← cf hk,e];refine Nat.dvd_trans (vZ _ _) (Nat.mul_dvd_mul ?_ ?_)
  · rw[nL hk'];exact og (List.getElem_mem hk')
  · have:=vY (t:=v) (b:=12) (by decide);exact this
 refine⟨yZ R.asks*12,⟨⟨hR,h.len,λk hk=>?_,_,d0,d4,da,dp⟩,d0,d4,da,dp⟩,d3⟩;have hk':k<R.asks.length:=by rw[← h.len];exact hk
 have hz:k<(R.asks.zip ps).length:=by rw[List.length_zip];omega
 have:=h.lo _ (List.getElem_mem hz);rw[List.getElem_zip]at this;rw[cf hk,nL hk'];exact this
theorem Qt.up{R:aR}{ps:List Rat}{D E:Nat}(h:Qt R ps D)(e0:0<E)(e1:E<2^1500)(hd:D∣E):Qt R ps E:=⟨h.ok,e0,e1,λa ha=>Nat.dvd_trans (h.da a ha) hd,λp hp=>Nat.dvd_trans (h.dp p hp) hd⟩
theorem OE.d{R:aR}{qs:List Rat}{s:cm}(h:OE R qs s):Hb R qs s:=⟨h.k,h.l,h.kl,Rat.le_of_lt h.pos,h.kn,h.ln⟩
structure Qz (R:aR) (qs:List Rat) (ss:List cm) (F:Nat):Prop where
 q:Qt R qs F
 v:Vs R qs ss
 d:∀s∈ss,s.am.den∣F
theorem Qz.bad{R:aR}{F:Nat}:∀{ss:List cm}{qs:List Rat}(i:Nat),Qz R qs ss F->sO R i qs (ss.map Oo)=none/\uO R qs (ss.map Oo)=JO qs ss
 |[],_,_,_=>⟨rfl,rfl⟩
 | s::ss,qs,i,h=>by
  have st:Qs qs (Oo s)=Ou qs s:=by unfold Qs;rw[o5]
  obtain⟨a,b⟩:=Qz.bad (ss:=ss) (i+1) ⟨h.q.slid h.v.1.d (h.d s List.mem_cons_self),h.v.2,λt ht=>h.d t (List.mem_cons_of_mem _ ht)⟩;refine⟨?_,?_⟩
  ·
   show(if OC R qs (Oo s)then sO R (i+1) (Qs qs (Oo s)) _ else some i)=none
   rw[Bq h.v.1.k h.v.1.l,h.v.1.b,if_pos rfl,st];exact a
  · show uO R (Qs qs (Oo s)) _=_;rw[st];exact b
theorem B0{R:aR}{F:Nat}:∀(m:Nat)(qs:List Rat),Qt R qs F->Qz R qs (v8 R m qs) F
 |0,_,h=>⟨h,trivial,λs hs=>by cases hs⟩
 | m+1,qs,h=>by
  unfold v8
  cases e:B7 R qs with
  |none=>exact⟨h,trivial,λs hs=>by cases hs⟩
  | some u =>
   obtain⟨h1,h2,_⟩:=xX h.ok e;have ha:=GO h.ok e h.d0 h.da h.dp;have ih:=B0 m (Ou qs u) (h.slid h1 ha);exact⟨h,⟨OE.of h.ok h1.k h1.l h2,ih.v⟩,λs hs=>(List.mem_cons.mp hs).elim (λz=>by rw[z];exact ha) (ih.d s)⟩
theorem Qz.gw{R:aR}{F:Nat}(hF:F≤2^1210):∀{ss:List cm}{qs:List Rat},Qz R qs ss F->∀s∈ss,GW F 1600 (Oo s)
 |[],_,_,s,hs=>by cases hs
 | s::ss,qs,h,t,ht=>by
  rcases List.mem_cons.mp ht with rfl|ht
  ·
   have hq:=h.q;have hv:=h.v.1;have hd:=h.d t List.mem_cons_self;have hk':t.k<R.asks.length:=by rw[← hq.ok.len];exact hv.k
   have few:=hq.ok.ok.few;have lt:t.am<((2^300:Nat):Rat):=Ov hv.kn (Ov (hq.ok.ns hv.k t.kw).2 (by rw[nL hk'];exact(hq.ok.ok.ask _ (List.getElem_mem hk')).lt));have rb:RB 1600 t.am:=(RB.of_val (v:=300) (d:=1211) (Rat.le_of_lt hv.pos) (Nat.lt_of_le_of_lt (Nat.le_trans (Nat.le_of_dvd hq.d0 hd) hF) (Nat.pow_lt_pow_right (by decide) (by decide))) lt).mono (by decide);have hl':=hv.l;rw[hq.ok.len]at hl';exact GW.sl (by omega) (by omega) rb (by decide) hd
  · exact Qz.gw hF (ss:=ss) ⟨h.q.slid h.v.1.d (h.d s List.mem_cons_self),h.v.2,λt ht=>h.d t (List.mem_cons_of_mem _ ht)⟩ t ht
theorem EE{R:aR}{qs:List Rat}{ss:List cm}{F:Nat}{post:L->Prop}{xp:Xc->Prop}(h:Qz R qs ss F)(hF:F≤2^1210)(hl:ss.length≤99)(q:∀a,post (.own a ((JO qs ss).map ND))):cS [aS R,.lst (qs.map ND),.lst (ss.map Oo)] post xp:=by
 obtain⟨b1,b2⟩:=h.bad 0;refine .inr ⟨R,qs,ss.map Oo,F,rfl,h.q.ok,by rw[List.length_map];exact hl,λd hd s es=>?_,⟨h.q.d0,h.q.d1,h.q.da,h.q.dp⟩,λ_ a=>?_,λi e=>?_⟩
 · obtain⟨u,hu,rfl⟩:=List.mem_map.mp hd;have:=(h.gw hF u hu).am es;exact⟨this.1.mono (by decide),this.2⟩
 · rw[b2];exact q a
 · rw[b1]at e;cases e
theorem KS{z:Str}(h:vU z):WK 0 602 (.str z):=⟨h.ok,rfl,Nat.le_refl _,by
 have h8:=h.hi;simp only[n5];show 10*z.cps.size+2≤602;rw[← Array.length_toList]
 omega⟩
theorem JB{n:Nat}{a:N9}(hn:n≤12)(h:fk n a)(hz:vU a.nm)(hr:RB 60 a.size):WK 2 6000 (ml a):=by
 have h1:=h.one;have h2:=h.other;refine(WK.two (n:=1) (s:=1300) (m:=2) (t:=6000) (λy hy=>?_) (by decide) (by simp)).1;simp only[List.mem_cons,List.not_mem_nil,or_false]at hy;rcases hy with rfl|rfl|rfl|rfl
 · exact(KS hz).mono (by decide) (by decide)
 · exact(WK.int (by rw[Int.natAbs_natCast];exact Nat.lt_of_lt_of_le h1 (Nat.le_trans hn (by decide)))).mono (by decide) (by decide)
 · exact(WK.int (by rw[Int.natAbs_natCast];exact Nat.lt_of_lt_of_le h2 (Nat.le_trans hn (by decide)))).mono (by decide) (by decide)
 · exact(WK.fr (hr.mono (by decide))).mono (by decide) (by decide)
theorem DU{R:aR}{ps:List Rat}(h:R.Ok)(hn:∀a∈R.asks,vU a.nm/\RB 60 a.size)(hp:∀p∈ps,RB 70 p)(hl:ps.length≤20):B6 (.tup [aS R,.lst (ps.map ND)]):=by
 have OT:=h.few;have r12:R.rooms.length≤12:=h.hi
 have hA:WK 3 200000 (.lst (R.asks.map ml)):=(WK.two (n:=2) (s:=6000) (λy hy=>by
  obtain⟨a,ha,rfl⟩:=List.mem_map.mp hy
  exact JB h.hi (h.ask a ha) (hn a ha).1 (hn a ha).2) (by decide) (by rw[List.length_map];omega)).2
 have hf:∀(us:List Rat),us.length≤20->(∀q∈us,RB 70 q)->WK 3 200000 (.lst (us.map ND)):=λus l hu=>(WK.two (n:=1) (s:=1300) (λy hy=>by
  obtain⟨q,hq,rfl⟩:=List.mem_map.mp hy
  exact WK.fr ((hu q hq).mono (by decide))) (by decide) (by rw[List.length_map];omega)).2
 have hR:WK 4 500000 (aS R):=(WK.two (n:=3) (s:=200000) (λy hy=>by
  simp only[List.mem_cons,List.not_mem_nil,or_false]at hy;rcases hy with rfl|rfl
  · exact hf _ (by omega) λq hq=>(h.room q hq).2.mono (by decide)
  ·
   exact hA) (by decide) (by simp)).1
 refine((WK.two (n:=4) (s:=500000) (m:=5) (t:=2000000) (λy hy=>?_) (by decide) (by simp)).1).rep (by decide) (by decide);simp only[List.mem_cons,List.not_mem_nil,or_false]at hy;rcases hy with rfl|rfl
 · exact hR
 · exact(hf ps hl hp).mono (by decide) (by decide)
noncomputable def kp(a:N9):Option N9:=if M4 (.str a.nm) [.str "aaaaaaaz",.str "zaaaaaaa"]then none else some a
noncomputable def zi(R:aR):aR:=⟨R.rooms,R.asks.filterMap kp++[⟨"aaaaaaaz",0,R.n-1,3 / 2⟩,⟨"zaaaaaaa",1,0,2⟩]⟩
theorem JC{R:aR}{a:N9}(h:a∈R.asks.filterMap kp):a∈R.asks:=by
 obtain⟨b,hb,e⟩:=List.mem_filterMap.mp h;unfold kp at e;split at e
 · cases e
 · cases e;exact hb
theorem EF{z:Str}(h:(decide (1≤z.cps.toList.length) && (decide (z.cps.toList.length≤8) && z.cps.toList.all λc=>decide (97≤c) && decide (c≤122)))=true):vU z:=by simp only[Bool.and_eq_true,decide_eq_true_eq,List.all_eq_true]at h;exact⟨h.1,h.2.1,h.2.2⟩
theorem sx{m c:Nat}{R:aR}(h:Drawn m c R):∀a∈(zi R).asks,fk R.n a/\vU a.nm/\RB 60 a.size:=λa ha=>by
 have n2:=h.ok.lo;rcases List.mem_append.mp ha with ha|ha
 · have:=JC ha;exact⟨h.ok.ask a this,h.nms.1 a this,h.tt a this⟩
 ·
  simp only[List.mem_cons,List.not_mem_nil,or_false]at ha;rcases ha with rfl|rfl
  · have hn:vU "aaaaaaaz":=EF (by decide +kernel);exact⟨⟨show 0<R.n by omega,show R.n-1<R.n by omega,show 0≠R.n-1 by omega,show(0:Rat)≤3 / 2 by decide +kernel,show(3 / 2:Rat)<((2^300:Nat):Rat) by decide +kernel,hn.ok⟩,hn,show RB 60 (3 / 2)from⟨by decide +kernel,by decide +kernel⟩⟩
  · have hn:vU "zaaaaaaa":=EF (by decide +kernel);exact⟨⟨show 1<R.n by omega,show 0<R.n by omega,show 1≠0 by decide,by decide +kernel,by decide +kernel,hn.ok⟩,hn,by decide +kernel,by decide +kernel⟩
theorem G2{m c:Nat}{R:aR}(h:Drawn m c R)(hc:c≤8):(zi R).Ok:=by
 have hl:(zi R).asks.length≤20:=by show(R.asks.filterMap kp++_).length≤20;have:=List.length_filterMap_le kp R.asks;have:=h.few;simp only[List.length_append,List.length_cons,List.length_nil];omega
 exact⟨h.ok.lo,h.ok.hi,hl,h.ok.room,λa ha=>(sx h a ha).1,IY (λa ha=>(sx h a ha).2.2) hl⟩
theorem Tg.up{F G b c:Nat}{d:D}(h:Tg F b d)(hd:F∣G)(hb:b≤c):Tg G c d:=⟨λss e=>⟨(h.it ss e).1,λx hx=>((h.it ss e).2 x hx).up hd hb⟩,h.rp⟩
theorem DV(R:aR)(ps:List Rat)(d:D):zg R ps d=ED R ps d:=by
 by_cases hL:∃ss,d=.lst ss
 · obtain⟨ss,rfl⟩:=hL;rfl
 ·
  rw[yf λss e=>hL ⟨ss,e⟩];unfold ED;split
  · exact absurd ⟨_,rfl⟩ hL
  · rfl
theorem zj(R:aR)(ps:List Rat)(d:D):NF 3 (.lst (ED R ps d))=true:=by
 unfold ED;split
 ·
  split
  · simp only[NF,qW,Bool.and_true,Bool.and_eq_true];exact⟨by decide +kernel,oa _ λq _=>Eg 0 q⟩
  · simp only[NF,qW,Bool.and_true];decide +kernel
 · decide +kernel
theorem G3:∀ls post,ls.length=1->fs_law ls post->G1 (ls++List.replicate 11 .un) (aY ls post):=by
 rintro ls post - ⟨ns,rfl,hl,h⟩;unfold G1;walk_at "w";refine⟨ns,0,12,8,rfl,by decide,by decide,by decide,by decide,λR0 hD=>?_⟩;walk_at "w";unfold BZ;walk_at "w";unfold BY;walk_at "w";have n2:=hD.ok.lo;refine⟨by decide,by decide,by decide,by decide,by decide,λ_=>?_⟩;unfold BX;walk_at "w";have few:=hD.few;refine⟨gf (by omega),?_⟩;refine iX (h:=λa=>(kp a).map ml) R0.asks [] _ (λa ha Q q=>?_) λl'=>?_
 ·
  unfold kp at q;walk_at "w";refine⟨by decide,rfl,rfl,?_⟩
  cases e:M4 (.str a.nm) [.str "aaaaaaaz",.str "zaaaaaaa"]with
  | true =>
   rw[e]at q;rw[if_pos rfl]at q;exact q
  | false =>
   rw[e]at q;rw[if_neg (by decide)]at q;unfold BV;walk_at "w";exact q
 intro a2;have e2:([]:List D)++R0.asks.filterMap (λa=>(kp a).map ml)=(R0.asks.filterMap kp).map ml:=by rw[List.nil_append,List.map_filterMap]
 rw[e2];have e3:(R0.n:Int)-1=((R0.n-1:Nat):Int):=by omega
 have l8:=List.length_filterMap_le kp R0.asks;refine⟨gf (by rw[List.length_map];omega),λa3=>⟨by decide,?_⟩⟩
 have eR:D.tup [D.lst (List.map ND R0.rooms),D.lst ((R0.asks.filterMap kp).map ml++[D.tup [D.str (Str.ofString "aaaaaaaz"),D.int 0,D.int ((R0.n:Int)-1),D.tup [D.int 3,D.int 2]],D.tup [D.str (Str.ofString "zaaaaaaa"),D.int 1,D.int 0,D.tup [D.int 2,D.int 1]]])]=aS (zi R0):=by
  unfold aS zi;rw[List.map_append,e3];have f1:ND (3 / 2)=.tup [.int 3,.int 2]:=by unfold ND;rw[show(3 / 2:Rat).num=3 by decide +kernel,show(3 / 2:Rat).den=2 by decide +kernel];rfl
  simp only[List.map_cons,List.map_nil,ml,f1];rfl
 rw[eR];have hR:=G2 hD (Nat.le_refl 8);have hA:=sx hD;generalize zi R0=R at hR hA;unfold BW;walk_at "w";refine⟨ns,3,rfl,by decide,by decide,λa0 xs0 hx0=>?_⟩;walk_at "w";refine⟨a0,xs0,R,rfl,hx0,hR,λa ha=>(hA a ha).2.2,λps c0 ys0 hy0 hp=>?_⟩;obtain⟨E,hE,hE2⟩:=DT hR (λa ha=>(hA a ha).2.2) hp;have rk:=DU hR (λa ha=>(hA a ha).2) hp.rb (by rw[hp.len];exact hR.few);have hC:=B0 20 ps hE;have tl:(v8 R 20 ps).length≤20:=by refine Nat.le_trans (Bl 20 ps hE.ok) (Nat.le_trans (List.length_filter_le _ _) ?_);rw[List.length_range,hE.ok.len];exact hR.few
 walk_at "w";unfold BU;walk_at "w";refine⟨R,ps,rfl,hE.ok,λa1=>?_⟩;generalize v8 R 20 ps=ss at hC tl;walk_at "w";unfold BS;walk_at "w";refine⟨by decide,_,rfl,rk,?_⟩;walk_at "w";unfold BR;walk_at "w";refine EE hC hE2 (by omega) λa2=>?_;walk_at "w";unfold BQ;walk_at "w"
 have hm:∃m:Int,(if(if 20<(ns.length:Int)then 20 else(ns.length:Int)) > 5 then if 20<(ns.length:Int)then 20 else(ns.length:Int)else 5)=m/\5≤m/\m≤20:=⟨_,rfl,by split<;>(try split)<;>omega,by split<;>(try split)<;>omega⟩
 obtain⟨m,em,m2,m36⟩:=hm;rw[em];refine⟨⟨by decide,by decide⟩,⟨by omega,by omega⟩,?_⟩;generalize D.lst [D.tup [D.str (Str.ofString "aaaaaaaz"),D.int 0,D.int ((R0.n:Int)-1),D.tup [D.int 3,D.int 2]],D.tup [D.str (Str.ofString "zaaaaaaa"),D.int 1,D.int 0,D.tup [D.int 2,D.int 1]]]=z3;have g0:=hE.d0
 have g2:E*2520*2520<2^1500:=by
  have e1:E*2520*2520≤2^1210*2^24:=by rw[Nat.mul_assoc];exact Nat.mul_le_mul hE2 (by decide)
  exact Nat.lt_of_le_of_lt e1 (by rw[← Nat.pow_add];exact Nat.pow_lt_pow_right (by decide) (by decide))
 have hS:Qt R ps (E*2520*2520):=hE.up (by omega) g2 (by rw[Nat.mul_assoc];exact Nat.dvd_mul_right _ _);have hg:∀x∈ss.map Oo,GW E 1600 x:=λx hx=>by obtain⟨s,hs,rfl⟩:=List.mem_map.mp hx;exact hC.gw hE2 s hs
 refine C8 4 _ (λj ρ=>∃(x8 x9 x10 x11:L),ρ=[.d (.lst (ns.map .int)),.d (aS R),.d (.int (R0.n:Int)),.d z3,.d (.lst (ps.map ND)),.d (.lst (ss.map Oo)),.d (.str (FY (.tup [aS R,.lst (ps.map ND)]))),.d (.lst ((JO ps ss).map ND)),x8,x9,x10,x11]) _ ⟨_,_,_,_,rfl⟩ ?_ ?_
 ·
  rintro j ρ hj ⟨x8,x9,x10,x11,rfl⟩ Q g1 g2 g3 g4;unfold BO;walk_at "w";refine⟨ns,4+(j:Int),rfl,by omega,by omega,λb xs hx=>?_⟩;walk_at "w";unfold qz;walk_at "w";refine⟨b,xs,ss.map Oo,E,1600,rfl,hx,g0,by decide,by rw[List.length_map];omega,hg,λd ys hy hT hn=>⟨ys,rfl,?_⟩⟩;walk_at "w";have eh:∀(d:D)(zs:List D),iE zs->Tg (E*2520*2520) 1900 d->mW [.d (.lst (ns.map .int)),.d (aS R),.d (.int (R0.n:Int)),.d z3,.d (.lst (ps.map ND)),.d (.lst (ss.map Oo)),.d (.str (FY (.tup [aS R,.lst (ps.map ND)]))),.d (.lst ((JO ps ss).map ND)),.d (.int (4+(j:Int))),.own b zs,.d d,x11] Q:=λd zs hz hT=>by unfold mW;walk_at "w";refine⟨d,rfl,hT.rp,?_⟩;walk_at "w";unfold qx;walk_at "w";refine⟨R,ps,d,E*2520*2520,rfl,hS,hT,λa1=>?_⟩;walk_at "w";refine⟨R,ps,d,E*2520*2520,rfl,hS,hT,λa2=>?_⟩;walk_at "w";rw[DV];have sh:=zj R ps d;refine⟨cU sh (by decide),cU sh (by decide),?_⟩;rw[if_neg (by rw[CH sh];decide)];refine⟨d,rfl,hT.rp,?_⟩;walk_at "w";rw[if_neg (λz=>z trivial)];unfold qw;walk_at "w";refine EE hC hE2 (by omega) λa3=>?_;dsimp only;refine⟨ub _,ub _,?_⟩;rw[if_neg (by rw[Gk,decide_eq_true rfl];decide)];refine⟨by decide,_,rfl,rk,?_⟩;walk_at "w";rw[if_neg (λz=>z trivial)];exact g1 _ ⟨_,_,_,_,rfl⟩
  unfold qy;walk_at "w";have up1:E*2520∣E*2520*2520:=Nat.dvd_mul_right _ _;by_cases hL:∃us,d=.lst us
  ·
   obtain⟨us,rfl⟩:=hL;have:=hn us rfl;rw[List.length_map]at this;walk_at "w";refine⟨b,ys,2,rfl,hy,by decide,by decide,λr zs hz r0 r1=>⟨zs,rfl,?_⟩⟩;walk_at "w";split
   · unfold BN;walk_at "w";refine⟨b,zs,us,E*2520,1670,rfl,hz,by omega,by decide,by omega,(hT.it us rfl).2,λd2 ws hw hT2 _=>⟨ws,rfl,?_⟩⟩;walk_at "w";exact eh d2 ws hw (hT2.up (Nat.dvd_refl _) (by decide))
   · exact eh _ zs hz (hT.up up1 (by decide))
  ·
   have ei:jS "list" d=false:=by
    cases d<;>first
     |exact absurd ⟨_,rfl⟩ hL
     |rfl
   rw[ei];walk_at "w";exact eh _ ys hy (hT.up up1 (by decide))
 · rintro ρ ⟨x8,x9,x10,x11,rfl⟩;unfold BP;walk_at "w";exact⟨_,aj aL,h⟩
noncomputable abbrev fU:Stmt:=Hd.inCls (Hd.top 3) 0
noncomputable abbrev jw:FuncData:=N5 "__init__" "LoadError.__init__" fU (.str "ringloads.errors" 198) 34
noncomputable abbrev fA:Stmt:=Hd.inCls (Hd.top 6) 0
noncomputable abbrev hZ:FuncData:=N5 "__init__" "NoSlide.__init__" fA (.str "ringloads.errors" 198) 85
structure Tx (K:PySem.W.Frag) (mg:Str->Option Value) (ad:Nat->Addr) (fd:Nat->FuncData):Prop where
 x_greatest_shared:FX K mg "greatest_shared" dh (ad 0) (fd 0) ["one","other"]
 x_is_whole:FX K mg "is_whole" mG (ad 1) (fd 1) ["thing"]
 x_is_number_below:FX K mg "is_number_below" di (ad 2) (fd 2) ["thing","many"]
 x_are_two_wholes:FX K mg "are_two_wholes" d7 (ad 3) (fd 3) ["thing"]
 x_is_ratio:FX K mg "is_ratio" mI (ad 4) (fd 4) ["thing"]
 x_lowest:FX K mg "lowest" rN (ad 5) (fd 5) ["top","bottom"]
 x_plus:FX K mg "plus" Bt (ad 6) (fd 6) ["one","other"]
 x_minus:FX K mg "minus" wc (ad 7) (fd 7) ["one","other"]
 x_under:FX K mg "under" wd (ad 8) (fd 8) ["one","other"]
 x_lesser:FX K mg "lesser" rO (ad 9) (fd 9) ["one","other"]
 x_lesser_place:FX K mg "lesser_place" fM (ad 10) (fd 10) ["ring","k"]
 x_greater_place:FX K mg "greater_place" eU (ad 11) (fd 11) ["ring","k"]
 x_do_cross:FX K mg "do_cross" mJ (ad 12) (fd 12) ["ring","k","l"]
 x_parted_in:FX K mg "parted_in" gH (ad 13) (fd 13) ["ring","sending"]
 x_first_side_by_side:FX K mg "first_side_by_side" cF (ad 14) (fd 14) ["ring","some"]
 x_is_way:FX K mg "is_way" rP (ad 15) (fd 15) ["thing"]
 x_ties_of:FX K mg "ties_of" i3 (ad 16) (fd 16) ["ring","k","way"]
 x_part_behind:FX K mg "part_behind" gI (ad 17) (fd 17) ["part","way","amount"]
 x_slid_once:FX K mg "slid_once" ki (ad 18) (fd 18) ["sending","slide"]
 x_share_no_tie:FX K mg "share_no_tie" dH (ad 19) (fd 19) ["ring","k","way","l","other"]
 x_has_form_of_slide:FX K mg "has_form_of_slide" cQ (ad 20) (fd 20) ["thing","asks"]
 x_not_sent:FX K mg "not_sent" mK (ad 21) (fd 21) ["ring","sending","k","way"]
 x_most_slid:FX K mg "most_slid" km (ad 22) (fd 22) ["ring","sending","slide"]
 x_is_slide:FX K mg "is_slide" mL (ad 23) (fd 23) ["ring","sending","thing"]
 x_slid_by:FX K mg "slid_by" o9 (ad 24) (fd 24) ["ring","sending","thing"]
 x_ways_apart:FX K mg "ways_apart" i4 (ad 25) (fd 25) ["ring","k","l"]
 x_greatest_slide:FX K mg "greatest_slide" d8 (ad 26) (fd 26) ["ring","sending","k","l"]
 x_slides_for:FX K mg "slides_for" i5 (ad 27) (fd 27) ["ring","sending"]
 x__law_begun:FX K mg "_law_begun" i6 (ad 28) (fd 28) ["_law_script","_law_k"]
 x__law_take:FX K mg "_law_take" ko (ad 29) (fd 29) ["_law_state","_law_many"]
 x__law_names:FX K mg "_law_names" dU (ad 30) (fd 30) ["_law_state","_law_many"]
 x__law_low:FX K mg "_law_low" mM (ad 31) (fd 31) ["_law_top","_law_bottom"]
 x__law_amount:FX K mg "_law_amount" gJ (ad 32) (fd 32) ["_law_state","_law_least","_law_kind"]
 x__law_rooms:FX K mg "_law_rooms" i8 (ad 33) (fd 33) ["_law_state","_law_ties_here","_law_kind"]
 x__law_ends:FX K mg "_law_ends" kq (ad 34) (fd 34) ["_law_state","_law_shape","_law_places","_law_k"]
 x__law_ring:FX K mg "_law_ring" kr (ad 35) (fd 35) ["_law_script","_law_at","_law_most","_law_count"]
 x__law_parts:FX K mg "_law_parts" i9 (ad 36) (fd 36) ["_law_state","_law_ring_here"]
 x__law_is_ratio:FX K mg "_law_is_ratio" eV (ad 37) (fd 37) ["_law_thing"]
 x__law_plus:FX K mg "_law_plus" ku (ad 38) (fd 38) ["_law_one","_law_other"]
 x__law_minus:FX K mg "_law_minus" ja (ad 39) (fd 39) ["_law_one","_law_other"]
 x__law_stepped:FX K mg "_law_stepped" fN (ad 40) (fd 40) ["_law_state","_law_slide"]
 x__law_bent:FX K mg "_law_bent" kx (ad 41) (fd 41) ["_law_state","_law_slides"]
 x__law_told:FX K mg "_law_told" ky (ad 42) (fd 42) ["_law_ring_here","_law_sending","_law_thing"]
 x__law_slid:FX K mg "_law_slid" kA (ad 43) (fd 43) ["_law_sending","_law_slide"]
 x__law_ties:FX K mg "_law_ties" kB (ad 44) (fd 44) ["_law_ring_here","_law_k","_law_way"]
 x__law_under:FX K mg "_law_under" jb (ad 45) (fd 45) ["_law_one","_law_other"]
 x__law_gone:FX K mg "_law_gone" kC (ad 46) (fd 46) ["_law_ring_here","_law_sending","_law_k","_law_way"]
 x__law_is_slide:FX K mg "_law_is_slide" cW (ad 47) (fd 47) ["_law_ring_here","_law_sending","_law_thing"]
 x__law_due:FX K mg "_law_due" mN (ad 48) (fd 48) ["_law_ring_here","_law_sending","_law_thing"]
 x_law:FX K mg "law" Bv (ad 49) (fd 49) ["_law_script"]
 li:AI K mg 38 35 jw fU
 i_NoSlide:M5 K "__init__" "NoSlide.__init__" fA 86 hZ
 c_NoSlide:XT K mg "NoSlide" 89 86 hZ ["self","number"] ["number"]
 h_LoadError:XH K mg "LoadError" 38
 h_NoChange:XH K mg "NoChange" 120
 h_NoName:XH K mg "NoName" 182
 h_NoNumber:XH K mg "NoNumber" 51
 h_NoPlace:XH K mg "NoPlace" 132
 h_NoRing:XH K mg "NoRing" 70
 h_NoSlide:XH K mg "NoSlide" 89
 h_NoString:XH K mg "NoString" 151
 h_NoText:XH K mg "NoText" 170
 h_NoTree:XH K mg "NoTree" 108
 z_ValueError:mg "ValueError"=none
 z_abs:mg "abs"=none
 z_any:mg "any"=none
 z_bool:mg "bool"=none
 z_enumerate:mg "enumerate"=none
 z_int:mg "int"=none
 z_isinstance:mg "isinstance"=none
 z_len:mg "len"=none
 z_list:mg "list"=none
 z_max:mg "max"=none
 z_min:mg "min"=none
 z_range:mg "range"=none
 z_repr:mg "repr"=none
 z_str:mg "str"=none
 z_tuple:mg "tuple"=none
 g_BACK:yL K mg "BACK" (.str "back")
 g_NOUGHT:yL K mg "NOUGHT" (.tup [(.int 0),(.int 1)])
 g_ON:yL K mg "ON" (.str "on")
section
variable{P:Program}{w:World}{K:PySem.W.Frag}{mg:Str->Option Value}{base:Heap}{ad:Nat->Addr}{fd:Nat->FuncData}
theorem pG:aF ["self","text"] ["self","text"] (ar fU):=⟨rfl,rfl,rfl,by decide +kernel,rfl,by decide +kernel,by decide +kernel⟩
theorem sy:aF ["self","number"] ["self","number"] (ar fA):=⟨rfl,rfl,rfl,by decide +kernel,rfl,by decide +kernel,by decide +kernel⟩
theorem uY(T:Tx K mg ad fd):FnOk P w K mg base CX0 1 35 jw ["self","text"] (JK K):=T.li.f.ok (k:=0) pG C0 (λcdv A outer s H vs Q E hr q=>⟨_,zx (zy (CS rfl T.z_ValueError (bV (pv 0) (bV (pv 1) ic)))),F8 q⟩)
theorem qC(T:Tx K mg ad fd):FnOk P w K mg base CX0 2 86 hZ ["self","number"] (IG K ["number"]):=T.i_NoSlide.ok (k:=1) sy C1 (λcdv A outer s H vs Q E hr q=>⟨_,Cb (zy (CT T.li (uY T) hr rfl (bV (pv 0) (bV zw ic)))) (zx (F7 (pv 0) (pv 1))),Ga q⟩)
theorem ck:aF mF ["one","other"] (ar dh):=⟨rfl,rfl,rfl,by decide +kernel,rfl,by decide +kernel,by decide +kernel⟩
theorem fB(T:Tx K mg ad fd):FnOk P w K mg base CX0 1 (ad 0) (fd 0) ["one","other"] (spF K 2 cg) :=
 br (k:=0) T.x_greatest_shared.f ck dj (λcdv A outer s H E hr=>(ai (lh PassesOwn.never (Ni (pQ hr.units) (af 1) ah (aW _)) (ai (az (i:=2) ck.nd rfl (by walk_at "o") (au cK (af 0) (af 1)))
  (ai (az (i:=0) ck.nd rfl (by walk_at "o") (af 1))
  (aq (az (i:=1) ck.nd rfl (by walk_at "o") (af 2))))))
  (aq (aD (aQ Ah rfl T.z_abs (by decide +kernel) (ae (af 0) ag))))))
  kE
theorem wK:aF y2 ["thing"] (ar mG):=⟨rfl,rfl,rfl,by decide +kernel,rfl,by decide +kernel,by decide +kernel⟩
theorem kZ(T:Tx K mg ad fd):FnOk P w K mg base CX0 1 (ad 1) (fd 1) ["thing"] (spF K 1 eW) :=
 br (k:=0) T.x_is_whole.f wK jI (λcdv A outer s H E hr=>(aq (aD (iN (dR vB rfl T.z_isinstance rfl T.z_int (by decide +kernel) (af 0)) (m9 (z9 (dR nW rfl T.z_isinstance rfl T.z_bool (by decide +kernel) (af 0))))))))
  uG
theorem mh:aF mH ["thing","many"] (ar di):=⟨rfl,rfl,rfl,by decide +kernel,rfl,by decide +kernel,by decide +kernel⟩
theorem fC(T:Tx K mg ad fd):FnOk P w K mg base CX0 2 (ad 2) (fd 2) ["thing","many"] (spF K 2 cj) :=
 br (k:=1) T.x_is_number_below.f mh du (λcdv A outer s H E hr=>(aq (aD (iN (aT (kZ T) T.x_is_whole hr (ae (af 0) ag)) (m9 (CI Il Ik ah (af 0) (af 1)))))))
  kF
theorem mX:aF nN ["thing"] (ar d7):=⟨rfl,rfl,rfl,by decide +kernel,rfl,by decide +kernel,by decide +kernel⟩
theorem mY(T:Tx K mg ad fd):FnOk P w K mg base CX0 2 (ad 3) (fd 3) ["thing"] (spF K 1 dz) :=
 br (k:=1) T.x_are_two_wholes.f mX cM (λcdv A outer s H E hr=>(aq (aD (iN (dR iU rfl T.z_isinstance rfl T.z_tuple (by decide +kernel) (af 0)) (iN (fX (fH hr.units) (aQ dQ rfl T.z_len (by decide +kernel) (ae (af 0) ag)) ah (aW _)) (iN (aT (kZ T) T.x_is_whole hr (ae (ay (af 0) ah (λ_ _=>rfl)) ag)) (m9 (aT (kZ T) T.x_is_whole hr (ae (ay (af 0) ah (λ_ _=>rfl)) ag)))))))))
  lE
theorem wL:aF y3 ["thing"] (ar mI):=⟨rfl,rfl,rfl,by decide +kernel,rfl,by decide +kernel,by decide +kernel⟩
theorem wM(T:Tx K mg ad fd):FnOk P w K mg base CX0 3 (ad 4) (fd 4) ["thing"] (spF K 1 kG) :=
 br (k:=2) T.x_is_ratio.f wL jJ (λcdv A outer s H E hr=>(aq (aD (iN (aT (mY T) T.x_are_two_wholes hr (ae (af 0) ag)) (iN (fX Ib (ay (af 0) ah (λ_ _=>rfl)) ah (aW _)) (m9 (fX (fH hr.units) (aT (fB T) T.x_greatest_shared hr (ae (ay (af 0) ah (λ_ _=>rfl)) (ae (ay (af 0) ah (λ_ _=>rfl)) ag))) ah (aW _))))))))
  uH
theorem pH:aF DJ ["top","bottom"] (ar rN):=⟨rfl,rfl,rfl,by decide +kernel,rfl,by decide +kernel,by decide +kernel⟩
theorem uZ(T:Tx K mg ad fd):FnOk P w K mg base CX0 2 (ad 5) (fd 5) ["top","bottom"] (spF K 2 lF) :=
 br (k:=1) T.x_lowest.f pH rS (λcdv A outer s H E hr=>(ai (az (i:=2) pH.nd rfl (by walk_at "o") (av (aT (fB T) T.x_greatest_shared hr (ae (af 0) (ae (af 1) ag)))))
  (ai (bW (Ni mx (af 1) ah (aW _)) (aq (az (i:=2) pH.nd rfl (by walk_at "o") (D3 (af 2)))) aU)
  (aq (aD (aJ (ae (au oJ (af 0) (af 2)) (ae (au oJ (af 1) (af 2)) ag))))))))
  zd
theorem G4:aF Jv ["one","other"] (ar Bt):=⟨rfl,rfl,rfl,by decide +kernel,rfl,by decide +kernel,by decide +kernel⟩
theorem G5(T:Tx K mg ad fd):FnOk P w K mg base CX0 3 (ad 6) (fd 6) ["one","other"] (spF K 2 rT) :=
 br (k:=2) T.x_plus.f G4 Bw (λcdv A outer s H E hr=>(aq (aD (aT (uZ T) T.x_lowest hr (ae (av (au aZ (au bj (ay (af 0) ah (λ_ _=>rfl)) (ay (af 1) ah (λ_ _=>rfl))) (au bj (ay (af 1) ah (λ_ _=>rfl)) (ay (af 0) ah (λ_ _=>rfl))))) (ae (av (au bj (ay (af 0) ah (λ_ _=>rfl)) (ay (af 1) ah (λ_ _=>rfl)))) ag))))))
  DM
theorem DW:aF GS ["one","other"] (ar wc):=⟨rfl,rfl,rfl,by decide +kernel,rfl,by decide +kernel,by decide +kernel⟩
theorem yk(T:Tx K mg ad fd):FnOk P w K mg base CX0 3 (ad 7) (fd 7) ["one","other"] (spF K 2 lG) :=
 br (k:=2) T.x_minus.f DW wD (λcdv A outer s H E hr=>(aq (aD (aT (uZ T) T.x_lowest hr (ae (au eM (au bj (ay (af 0) ah (λ_ _=>rfl)) (ay (af 1) ah (λ_ _=>rfl))) (au bj (ay (af 1) ah (λ_ _=>rfl)) (ay (af 0) ah (λ_ _=>rfl)))) (ae (av (au bj (ay (af 0) ah (λ_ _=>rfl)) (ay (af 1) ah (λ_ _=>rfl)))) ag))))))
  Bx
theorem DX:aF GT ["one","other"] (ar wd):=⟨rfl,rfl,rfl,by decide +kernel,rfl,by decide +kernel,by decide +kernel⟩
theorem mi(T:Tx K mg ad fd):FnOk P w K mg base CX0 1 (ad 8) (fd 8) ["one","other"] (spF K 2 gK) :=
 br (k:=0) T.x_under.f DX wF (λcdv A outer s H E hr=>(aq (aD (fX mx (au bj (ay (af 0) ah (λ_ _=>rfl)) (ay (af 1) ah (λ_ _=>rfl))) (au bj (ay (af 1) ah (λ_ _=>rfl)) (ay (af 0) ah (λ_ _=>rfl))) (aW _)))))
  By
theorem B1:aF DK ["one","other"] (ar rO):=⟨rfl,rfl,rfl,by decide +kernel,rfl,by decide +kernel,by decide +kernel⟩
theorem B2(T:Tx K mg ad fd):FnOk P w K mg base CX0 2 (ad 9) (fd 9) ["one","other"] (spF K 2 pf) :=
 br (k:=1) T.x_lesser.f B1 rV (λcdv A outer s H E hr=>(aq (aD (Aa (bD (aT (mi T) T.x_under hr (ae (af 1) (ae (af 0) ag)))) (af 1) (af 0)))))
  ze
theorem pJ:aF pT ["ring","k"] (ar fM):=⟨rfl,rfl,rfl,by decide +kernel,rfl,by decide +kernel,by decide +kernel⟩
theorem jx(T:Tx K mg ad fd):FnOk P w K mg base CX0 1 (ad 10) (fd 10) ["ring","k"] (spF K 2 cX) :=
 br (k:=0) T.x_lesser_place.f pJ fO (λcdv A outer s H E hr=>(aq (aD (aQ (Aj rfl) rfl T.z_min (by decide +kernel) (ae (ay (ay (ay (af 0) ah (λ_ _=>rfl)) (af 1) (λ_ _=>rfl)) ah (λ_ _=>rfl)) (ae (ay (ay (ay (af 0) ah (λ_ _=>rfl)) (af 1) (λ_ _=>rfl)) ah (λ_ _=>rfl)) ag))))))
  nP
theorem nS:aF o6 ["ring","k"] (ar eU):=⟨rfl,rfl,rfl,by decide +kernel,rfl,by decide +kernel,by decide +kernel⟩
theorem iz(T:Tx K mg ad fd):FnOk P w K mg base CX0 1 (ad 11) (fd 11) ["ring","k"] (spF K 2 cN) :=
 br (k:=0) T.x_greater_place.f nS eX (λcdv A outer s H E hr=>(aq (aD (aQ (Ai rfl) rfl T.z_max (by decide +kernel) (ae (ay (ay (ay (af 0) ah (λ_ _=>rfl)) (af 1) (λ_ _=>rfl)) ah (λ_ _=>rfl)) (ae (ay (ay (ay (af 0) ah (λ_ _=>rfl)) (af 1) (λ_ _=>rfl)) ah (λ_ _=>rfl)) ag))))))
  mO
theorem fg:aF y4 ["ring","k","l"] (ar mJ):=⟨rfl,rfl,rfl,by decide +kernel,rfl,by decide +kernel,by decide +kernel⟩
theorem wN(T:Tx K mg ad fd):FnOk P w K mg base CX0 2 (ad 12) (fd 12) ["ring","k","l"] (spF K 3 kH) :=
 br (k:=1) T.x_do_cross.f fg mP (λcdv A outer s H E hr=>(ai (az (i:=3) fg.nd rfl (by walk_at "o") (av (aT (jx T) T.x_lesser_place hr (ae (af 0) (ae (af 1) ag)))))
  (ai (az (i:=4) fg.nd rfl (by walk_at "o") (av (aT (iz T) T.x_greater_place hr (ae (af 0) (ae (af 1) ag)))))
  (ai (az (i:=5) fg.nd rfl (by walk_at "o") (av (aT (jx T) T.x_lesser_place hr (ae (af 0) (ae (af 2) ag)))))
  (ai (az (i:=6) fg.nd rfl (by walk_at "o") (av (aT (iz T) T.x_greater_place hr (ae (af 0) (ae (af 2) ag)))))
  (aq (aD (J6 (tS (af 3) (oU.cons mx (af 5) (oU.cons mx (af 4) (oU.one mx (af 6))))) (m9 (tS (af 5) (oU.cons mx (af 3) (oU.cons mx (af 6) (oU.one mx (af 4))))))))))))))
  uK
theorem u3:aF o7 ["ring","sending"] (ar gH):=⟨rfl,rfl,rfl,by decide +kernel,rfl,by decide +kernel,by decide +kernel⟩
theorem nq(T:Tx K mg ad fd):FnOk P w K mg base CX0 2 (ad 13) (fd 13) ["ring","sending"] (spF K 2 dW) :=
 br (k:=1) T.x_parted_in.f u3 kI (λcdv A outer s H E hr=>(aq (aD (iT (sc:=(ar gH)) (N:=o7) (Nt:=["k","part"]) (Nf:=["ring"]) (fi:=[0]) rfl rfl rfl (nX rfl T.z_enumerate (af 1)) rfl (by decide +kernel) (by decide +kernel) (by decide +kernel) (by decide) rfl (by decide +kernel) (by decide) (λ_ _ _ _=>(Io rfl (xr (i:=0) (by decide) (show((["k","part"]:List Str)++(["ring"]:List Str)).Nodup by decide +kernel) rfl (Or.inl rfl) (xr (i:=1) (by decide) (show((["k","part"]:List Str)++(["ring"]:List Str)).Nodup by decide +kernel) rfl (Or.inl rfl) FP)))) (λ_ _ _ _=>(vz (Ng.pb (oF (bD (aT (mi T) T.x_under hr (ae (vC T.g_NOUGHT rfl) (ae (af 1) ag)))) (nV (bD (aT (mi T) T.x_under hr (ae (af 1) (ae (ay (ay (ay (af 2) ah (λ_ _=>rfl)) (af 0) (λ_ _=>rfl)) ah (λ_ _=>rfl)) ag))))))))) (λ_ _ _ _=>(af 0))))))
  rW
theorem bI:aF jO ["ring","some"] (ar cF):=⟨rfl,rfl,rfl,by decide +kernel,rfl,by decide +kernel,by decide +kernel⟩
theorem dY(T:Tx K mg ad fd):FnOk P w K mg base CX0 3 (ad 14) (fd 14) ["ring","some"] (spF K 2 bo) :=
 br (k:=2) T.x_first_side_by_side.f bI cG (λcdv A outer s H E hr=>(ai (fY PassesOwn.never rfl (nX rfl T.z_enumerate (af 1)) (ig rfl (aK (i:=2) bI.nd rfl (by walk_at "o") (aK (i:=3) bI.nd rfl (by walk_at "o") d6))) (aq (fY PassesOwn.never rfl (fG (cb (af 1) (au aZ (af 2) ah) trivial)) (mw (i:=4) bI.nd rfl (by walk_at "o")) (aq (bW (cI (bD (aT (wN T) T.x_do_cross hr (ae (af 0) (ae (af 3) (ae (af 4) ag)))))) (aq (aD (aJ (ae (af 3) (ae (af 4) ag))))) aU)))))
  (aq (aD m8))))
  iG
theorem B3:aF DL ["thing"] (ar rP):=⟨rfl,rfl,rfl,by decide +kernel,rfl,by decide +kernel,by decide +kernel⟩
theorem u4(T:Tx K mg ad fd):FnOk P w K mg base CX0 1 (ad 15) (fd 15) ["thing"] (spF K 1 lI) :=
 br (k:=0) T.x_is_way.f B3 rX (λcdv A outer s H E hr=>(aq (aD (iN (dR An rfl T.z_isinstance rfl T.z_str (by decide +kernel) (af 0)) (m9 (fX FH (af 0) (aJ (ae (vC T.g_ON rfl) (ae (vC T.g_BACK rfl) ag))) rfl))))))
  zf
theorem jL:aF o8 ["ring","k","way"] (ar i3):=⟨rfl,rfl,rfl,by decide +kernel,rfl,by decide +kernel,by decide +kernel⟩
theorem qD(T:Tx K mg ad fd):FnOk P w K mg base CX0 1 (ad 16) (fd 16) ["ring","k","way"] (spF K 3 jK) :=
 br (k:=0) T.x_ties_of.f jL pB (λcdv A outer s H E hr=>(ai (az (i:=3) jL.nd rfl (by walk_at "o") (av (aQ dQ rfl T.z_len (by decide +kernel) (ae (ay (af 0) ah (λ_ _=>rfl)) ag))))
  (ai (az (i:=4) jL.nd rfl (by walk_at "o") (ay (ay (ay (af 0) ah (λ_ _=>rfl)) (af 1) (λ_ _=>rfl)) ah (λ_ _=>rfl)))
  (ai (az (i:=5) jL.nd rfl (by walk_at "o") (ay (ay (ay (af 0) ah (λ_ _=>rfl)) (af 1) (λ_ _=>rfl)) ah (λ_ _=>rfl)))
  (ai (bW (Ni (fH hr.units) (af 2) (vC T.g_ON rfl) (aW _)) (aq (aD (iT (sc:=(ar i3)) (N:=o8) (Nt:=["step"]) (Nf:=["one","places"]) (fi:=[4,3]) rfl rfl rfl (jF rfl T.z_range (au cK (au eM (af 5) (af 4)) (af 3))) rfl (by decide +kernel) (by decide +kernel) (by decide +kernel) (by decide) rfl (by decide +kernel) (by decide) (λ_ _ _ _=>(kf (by decide) (show((["step"]:List Str)++(["one","places"]:List Str)).Nodup by decide +kernel) rfl (Or.inl rfl))) (λ_ _ _ _=>oN) (λ_ _ _ _=>(au cK (au aZ (af 1) (af 0)) (af 2)))))) aU)
  (aq (aD (iT (sc:=(ar i3)) (N:=o8) (Nt:=["step"]) (Nf:=["one","places"]) (fi:=[4,3]) rfl rfl rfl (jF rfl T.z_range (au cK (au eM (af 4) (af 5)) (af 3))) rfl (by decide +kernel) (by decide +kernel) (by decide +kernel) (by decide) rfl (by decide +kernel) (by decide) (λ_ _ _ _=>(kf (by decide) (show((["step"]:List Str)++(["one","places"]:List Str)).Nodup by decide +kernel) rfl (Or.inl rfl))) (λ_ _ _ _=>oN) (λ_ _ _ _=>(au cK (au eM (au eM (af 1) ah) (af 0)) (af 2)))))))))))
  wG
theorem p9:aF rQ ["part","way","amount"] (ar gI):=⟨rfl,rfl,rfl,by decide +kernel,rfl,by decide +kernel,by decide +kernel⟩
theorem ka(T:Tx K mg ad fd):FnOk P w K mg base CX0 4 (ad 17) (fd 17) ["part","way","amount"] (spF K 3 dJ) :=
 br (k:=3) T.x_part_behind.f p9 gL (λcdv A outer s H E hr=>(aq (aD (Aa (Ni (fH hr.units) (af 1) (vC T.g_ON rfl) (aW _)) (aT (G5 T) T.x_plus hr (ae (af 0) (ae (af 2) ag))) (aT (yk T) T.x_minus hr (ae (af 0) (ae (af 2) ag)))))))
  pC
theorem nr:aF we ["sending","slide"] (ar ki):=⟨rfl,rfl,rfl,by decide +kernel,rfl,by decide +kernel,by decide +kernel⟩
theorem nu(T:Tx K mg ad fd):FnOk P w K mg base CX0 5 (ad 18) (fd 18) ["sending","slide"] (spF K 2 fu) :=
 br (k:=4) T.x_slid_once.f nr kJ (λcdv A outer s H E hr=>(ai (az (i:=2) nr.nd rfl (by walk_at "o") (eN qN rfl T.z_list (by decide +kernel) (ae (af 0) ag)))
  (ai (ke 2 (ay (af 1) ah (λ_ _=>rfl)) (aT (ka T) T.x_part_behind hr (ae (ij (iS 2 (ay (af 1) ah (λ_ _=>rfl)) (λ_ _=>rfl)) (ay (af 2) (ay (af 1) ah (λ_ _=>rfl)) (λ_ _=>rfl))) (ae (ay (af 1) ah (λ_ _=>rfl)) (ae (ay (af 1) ah (λ_ _=>rfl)) ag)))))
  (ai (ke 2 (ay (af 1) ah (λ_ _=>rfl)) (aT (ka T) T.x_part_behind hr (ae (ij (iS 2 (ay (af 1) ah (λ_ _=>rfl)) (λ_ _=>rfl)) (ay (af 2) (ay (af 1) ah (λ_ _=>rfl)) (λ_ _=>rfl))) (ae (ay (af 1) ah (λ_ _=>rfl)) (ae (ay (af 1) ah (λ_ _=>rfl)) ag)))))
  (aq (aD (eK 2)))))))
  rY
theorem jy:aF jU ["ring","k","way","l","other"] (ar dH):=⟨rfl,rfl,rfl,by decide +kernel,rfl,by decide +kernel,by decide +kernel⟩
theorem jz(T:Tx K mg ad fd):FnOk P w K mg base CX0 2 (ad 19) (fd 19) ["ring","k","way","l","other"] (spF K 5 cY) :=
 br (k:=1) T.x_share_no_tie.f jy fP (λcdv A outer s H E hr=>(ai (az (i:=5) jy.nd rfl (by walk_at "o") (av (aT (qD T) T.x_ties_of hr (ae (af 0) (ae (af 3) (ae (af 4) ag))))))
  (aq (aD (z9 (aQ (Iv rfl) rfl T.z_any (by decide +kernel) (ae (av (iT (sc:=(ar dH)) (N:=jU) (Nt:=["tie"]) (Nf:=["taken"]) (fi:=[5]) rfl rfl rfl (fG (aT (qD T) T.x_ties_of hr (ae (af 0) (ae (af 1) (ae (af 2) ag))))) rfl (by decide +kernel) (by decide +kernel) (by decide +kernel) (by decide) rfl (by decide +kernel) (by decide) (λ_ _ _ _=>(kf (by decide) (show((["tie"]:List Str)++(["taken"]:List Str)).Nodup by decide +kernel) rfl (Or.inl rfl))) (λ_ _ _ _=>oN) (λ_ _ _ _=>(fX FH (af 0) (af 1) rfl)))) ag)))))))
  nQ
theorem jP:aF kj ["thing","asks"] (ar cQ):=⟨rfl,rfl,rfl,by decide +kernel,rfl,by decide +kernel,by decide +kernel⟩
theorem jQ(T:Tx K mg ad fd):FnOk P w K mg base CX0 4 (ad 20) (fd 20) ["thing","asks"] (spF K 2 cH) :=
 br (k:=3) T.x_has_form_of_slide.f jP cR (λcdv A outer s H E hr=>(ai (bW (Ng.pb (eL (cI (bD (dR iU rfl T.z_isinstance rfl T.z_tuple (by decide +kernel) (af 0)))) (d5 (Ni (pQ hr.units) (aQ dQ rfl T.z_len (by decide +kernel) (ae (af 0) ag)) ah (aW _))))) (aq (aD jM)) aU)
  (ai (bW (Ng.pb (eL (cI (bD (aT (fC T) T.x_is_number_below hr (ae (ay (af 0) ah (λ_ _=>rfl)) (ae (af 1) ag))))) (d5 (cI (bD (aT (fC T) T.x_is_number_below hr (ae (ay (af 0) ah (λ_ _=>rfl)) (ae (af 1) ag)))))))) (aq (aD jM)) aU)
  (aq (aD (iN (aT (u4 T) T.x_is_way hr (ae (ay (af 0) ah (λ_ _=>rfl)) ag)) (iN (aT (u4 T) T.x_is_way hr (ae (ay (af 0) ah (λ_ _=>rfl)) ag)) (m9 (aT (wM T) T.x_is_ratio hr (ae (ay (af 0) ah (λ_ _=>rfl)) ag))))))))))
  jd
theorem wO:aF y6 ["ring","sending","k","way"] (ar mK):=⟨rfl,rfl,rfl,by decide +kernel,rfl,by decide +kernel,by decide +kernel⟩
theorem pK(T:Tx K mg ad fd):FnOk P w K mg base CX0 4 (ad 21) (fd 21) ["ring","sending","k","way"] (spF K 4 gM) :=
 br (k:=3) T.x_not_sent.f wO mQ (λcdv A outer s H E hr=>(aq (aD (Aa (Ni (fH hr.units) (af 3) (vC T.g_ON rfl) (aW _)) (aT (yk T) T.x_minus hr (ae (ay (ay (ay (af 0) ah (λ_ _=>rfl)) (af 2) (λ_ _=>rfl)) ah (λ_ _=>rfl)) (ae (ay (af 1) (af 2) (λ_ _=>rfl)) ag))) (ay (af 1) (af 2) (λ_ _=>rfl))))))
  uM
theorem u5:aF wg ["ring","sending","slide"] (ar km):=⟨rfl,rfl,rfl,by decide +kernel,rfl,by decide +kernel,by decide +kernel⟩
theorem ny(T:Tx K mg ad fd):FnOk P w K mg base CX0 5 (ad 22) (fd 22) ["ring","sending","slide"] (spF K 3 fv) :=
 br (k:=4) T.x_most_slid.f u5 kK (λcdv A outer s H E hr=>(aq (aD (aT (B2 T) T.x_lesser hr (ae (av (aT (pK T) T.x_not_sent hr (ae (af 0) (ae (af 1) (ae (ay (af 2) ah (λ_ _=>rfl)) (ae (ay (af 2) ah (λ_ _=>rfl)) ag)))))) (ae (av (aT (pK T) T.x_not_sent hr (ae (af 0) (ae (af 1) (ae (ay (af 2) ah (λ_ _=>rfl)) (ae (ay (af 2) ah (λ_ _=>rfl)) ag)))))) ag))))))
  rZ
theorem wQ:aF y7 ["ring","sending","thing"] (ar mL):=⟨rfl,rfl,rfl,by decide +kernel,rfl,by decide +kernel,by decide +kernel⟩
theorem wR(T:Tx K mg ad fd):FnOk P w K mg base CX0 6 (ad 23) (fd 23) ["ring","sending","thing"] (spF K 3 kM) :=
 br (k:=5) T.x_is_slide.f wQ mR (λcdv A outer s H E hr=>by exact(@ai _ _ _ _ _ (@bW _ _ _ _ _ _ _ _ (Ng.pb (eL (cI (bD (aT (jQ T) T.x_has_form_of_slide hr (@ae _ _ _ _ _ _ (af 2) (@ae _ _ _ _ _ _ (@av _ _ _ (aQ dQ rfl T.z_len (by decide +kernel) (@ae _ _ _ _ _ _ (@ay _ _ _ _ _ _ (af 0) ah (λ_ _=>rfl)) ag (by kernel_rfl)))) ag (by kernel_rfl)) (by kernel_rfl))))) (d5 (Ni (fH hr.units) (@ay _ _ _ _ _ _ (af 2) ah (λ_ _=>rfl)) (@ay _ _ _ _ _ _ (af 2) ah (λ_ _=>rfl)) (aW _))))) (@aq _ _ _ (@aD _ _ _ _ jM)) aU) (@ai _ _ _ _ _ (@bW _ _ _ _ _ _ _ _ (cI (bD (aT (jz T) T.x_share_no_tie hr (@ae _ _ _ _ _ _ (af 0) (@ae _ _ _ _ _ _ (@ay _ _ _ _ _ _ (af 2) ah (λ_ _=>rfl)) (@ae _ _ _ _ _ _ (@ay _ _ _ _ _ _ (af 2) ah (λ_ _=>rfl)) (@ae _ _ _ _ _ _ (@ay _ _ _ _ _ _ (af 2) ah (λ_ _=>rfl)) (@ae _ _ _ _ _ _ (@ay _ _ _ _ _ _ (af 2) ah (λ_ _=>rfl)) ag (by kernel_rfl)) (by kernel_rfl)) (by kernel_rfl)) (by kernel_rfl)) (by kernel_rfl))))) (@aq _ _ _ (@aD _ _ _ _ jM)) aU) (@aq _ _ _ (@aD _ _ _ _ (iN (aT (mi T) T.x_under hr (@ae _ _ _ _ _ _ (vC T.g_NOUGHT rfl) (@ae _ _ _ _ _ _ (@ay _ _ _ _ _ _ (af 2) ah (λ_ _=>rfl)) ag (by kernel_rfl)) (by kernel_rfl))) (m9 (z9 (aT (mi T) T.x_under hr (@ae _ _ _ _ _ _ (@av _ _ _ (aT (ny T) T.x_most_slid hr (@ae _ _ _ _ _ _ (af 0) (@ae _ _ _ _ _ _ (af 1) (@ae _ _ _ _ _ _ (af 2) ag (by kernel_rfl)) (by kernel_rfl)) (by kernel_rfl)))) (@ae _ _ _ _ _ _ (@ay _ _ _ _ _ _ (af 2) ah (λ_ _=>rfl)) ag (by kernel_rfl)) (by kernel_rfl)))))))))))
  uN
theorem gq:aF Bu ["ring","sending","thing"] (ar o9):=⟨rfl,rfl,rfl,by decide +kernel,rfl,by decide +kernel,by decide +kernel⟩
theorem mZ(T:Tx K mg ad fd):FnOk P w K mg base (NT P w) 7 (ad 24) (fd 24) ["ring","sending","thing"] (NX K 3 cS) :=
 II (k:=6) T.x_slid_by.f gq (λxp=>lJ xp) (λcdv A outer s H E xp hr hE=>(ai (bW (cI (bD (dR qV rfl T.z_isinstance rfl T.z_list (by decide +kernel) (af 2)))) (aq (t6 T.c_NoSlide (qC T) hr (AJ hE) (ae m8 ag))) aU)
  (ai (az (i:=3) gq.nd rfl (by walk_at "o") (eN qN rfl T.z_list (by decide +kernel) (ae (af 1) ag)))
  (ai (fY PassesOwn.leaving rfl (nX rfl T.z_enumerate (af 2)) (ig rfl (aK (i:=4) gq.nd rfl (by walk_at "o") (aK (i:=5) gq.nd rfl (by walk_at "o") d6))) (ai (bW (cI (bD (aT (wR T) T.x_is_slide hr (ae (af 0) (ae (af 3) (ae (af 5) ag)))))) (aq (t6 T.c_NoSlide (qC T) hr (AJ hE) (ae (af 4) ag))) aU)
  (aq (az (i:=3) gq.nd rfl (by walk_at "o") (aT (nu T) T.x_slid_once hr (ae (af 3) (ae (af 5) ag)))))))
  (aq (aD (eK 3)))))))
  wH
theorem mj:aF uz ["ring","k","l"] (ar i4):=⟨rfl,rfl,rfl,by decide +kernel,rfl,by decide +kernel,by decide +kernel⟩
theorem sD(T:Tx K mg ad fd):FnOk P w K mg base CX0 3 (ad 25) (fd 25) ["ring","k","l"] (spF K 3 gN) :=
 br (k:=2) T.x_ways_apart.f mj je (λcdv A outer s H E hr=>by exact(@ai _ _ _ _ _ (fY PassesOwn.never rfl (fG (@aJ _ _ _ _ _ _ (@ae _ _ _ _ _ _ (@aJ _ _ _ _ _ _ (@ae _ _ _ _ _ _ (vC T.g_ON rfl) (@ae _ _ _ _ _ _ (vC T.g_ON rfl) ag (by kernel_rfl)) (by kernel_rfl))) (@ae _ _ _ _ _ _ (@aJ _ _ _ _ _ _ (@ae _ _ _ _ _ _ (vC T.g_ON rfl) (@ae _ _ _ _ _ _ (vC T.g_BACK rfl) ag (by kernel_rfl)) (by kernel_rfl))) (@ae _ _ _ _ _ _ (@aJ _ _ _ _ _ _ (@ae _ _ _ _ _ _ (vC T.g_BACK rfl) (@ae _ _ _ _ _ _ (vC T.g_ON rfl) ag (by kernel_rfl)) (by kernel_rfl))) ag (by kernel_rfl)) (by kernel_rfl)) (by kernel_rfl)))) (mw (i:=3) mj.nd rfl (by walk_at "o")) (@aq _ _ _ (@bW _ _ _ _ _ _ _ _ (bD (aT (jz T) T.x_share_no_tie hr (@ae _ _ _ _ _ _ (af 0) (@ae _ _ _ _ _ _ (af 1) (@ae _ _ _ _ _ _ (@ay _ _ _ _ _ _ (af 3) ah (λ_ _=>rfl)) (@ae _ _ _ _ _ _ (af 2) (@ae _ _ _ _ _ _ (@ay _ _ _ _ _ _ (af 3) ah (λ_ _=>rfl)) ag (by kernel_rfl)) (by kernel_rfl)) (by kernel_rfl)) (by kernel_rfl)) (by kernel_rfl)))) (@aq _ _ _ (@aD _ _ _ _ (eK 3))) aU))) (@aq _ _ _ (@aD _ _ _ _ (@aJ _ _ _ _ _ _ (@ae _ _ _ _ _ _ (vC T.g_BACK rfl) (@ae _ _ _ _ _ _ (vC T.g_BACK rfl) ag (by kernel_rfl)) (by kernel_rfl)))))))
  pV
theorem dD:aF nO ["ring","sending","k","l"] (ar d8):=⟨rfl,rfl,rfl,by decide +kernel,rfl,by decide +kernel,by decide +kernel⟩
theorem m4(T:Tx K mg ad fd):FnOk P w K mg base CX0 6 (ad 26) (fd 26) ["ring","sending","k","l"] (spF K 4 dA) :=
 br (k:=5) T.x_greatest_slide.f dD d9 (λcdv A outer s H E hr=>(ai (az (i:=4) dD.nd rfl (by walk_at "o") (av (aT (sD T) T.x_ways_apart hr (ae (af 0) (ae (af 2) (ae (af 3) ag))))))
  (ai (az (i:=5) dD.nd rfl (by walk_at "o") (aJ (ae (af 2) (ae (ay (af 4) ah (λ_ _=>rfl)) (ae (af 3) (ae (ay (af 4) ah (λ_ _=>rfl)) ag))))))
  (aq (aD (au AD (af 5) (aJ (ae (av (aT (ny T) T.x_most_slid hr (ae (af 0) (ae (af 1) (ae (af 5) ag))))) ag))))))))
  lK
theorem bZ:aF uA ["ring","sending"] (ar i5):=⟨rfl,rfl,rfl,by decide +kernel,rfl,by decide +kernel,by decide +kernel⟩
theorem sE(T:Tx K mg ad fd):FnOk P w K mg base CX0 7 (ad 27) (fd 27) ["ring","sending"] (spF K 2 gO) :=
 br (k:=6) T.x_slides_for.f bZ jf (λcdv A outer s H E hr=>by exact(@ai _ _ _ _ _ (@az _ _ _ 2 _ _ _ bZ.nd rfl (by walk_at "o") (af 1) (by kernel_rfl) (by first | exact .inl rfl | exact .inr rfl)) (@ai _ _ _ _ _ (@az _ _ _ 3 _ _ _ bZ.nd rfl (by walk_at "o") (@bf _ _ _ _ _ ag) (by kernel_rfl) (by first | exact .inl rfl | exact .inr rfl)) (@ai _ _ _ _ _ (@az _ _ _ 4 _ _ _ bZ.nd rfl (by walk_at "o") (@av _ _ _ (aT (dY T) T.x_first_side_by_side hr (@ae _ _ _ _ _ _ (af 0) (@ae _ _ _ _ _ _ (@av _ _ _ (aT (nq T) T.x_parted_in hr (@ae _ _ _ _ _ _ (af 0) (@ae _ _ _ _ _ _ (af 2) ag (by kernel_rfl)) (by kernel_rfl)))) ag (by kernel_rfl)) (by kernel_rfl)))) (by kernel_rfl) (by first | exact .inl rfl | exact .inr rfl)) (@ai _ _ _ _ _ (lh PassesOwn.never (Ni CG (af 4) m8 (aW _)) (@ai _ _ _ _ _ (@az _ _ _ 5 _ _ _ bZ.nd rfl (by walk_at "o") (@av _ _ _ (aT (m4 T) T.x_greatest_slide hr (@ae _ _ _ _ _ _ (af 0) (@ae _ _ _ _ _ _ (af 2) (@ae _ _ _ _ _ _ (@ay _ _ _ _ _ _ (af 4) ah (λ_ _=>rfl)) (@ae _ _ _ _ _ _ (@ay _ _ _ _ _ _ (af 4) ah (λ_ _=>rfl)) ag (by kernel_rfl)) (by kernel_rfl)) (by kernel_rfl)) (by kernel_rfl)))) (by kernel_rfl) (by first | exact .inl rfl | exact .inr rfl)) (@ai _ _ _ _ _ (oG (iR 3 (af 5))) (@ai _ _ _ _ _ (@az _ _ _ 2 _ _ _ bZ.nd rfl (by walk_at "o") (@av _ _ _ (aT (nu T) T.x_slid_once hr (@ae _ _ _ _ _ _ (af 2) (@ae _ _ _ _ _ _ (af 5) ag (by kernel_rfl)) (by kernel_rfl)))) (by kernel_rfl) (by first | exact .inl rfl | exact .inr rfl)) (@aq _ _ _ (@az _ _ _ 4 _ _ _ bZ.nd rfl (by walk_at "o") (@av _ _ _ (aT (dY T) T.x_first_side_by_side hr (@ae _ _ _ _ _ _ (af 0) (@ae _ _ _ _ _ _ (@av _ _ _ (aT (nq T) T.x_parted_in hr (@ae _ _ _ _ _ _ (af 0) (@ae _ _ _ _ _ _ (af 2) ag (by kernel_rfl)) (by kernel_rfl)))) ag (by kernel_rfl)) (by kernel_rfl)))) (by kernel_rfl) (by first | exact .inl rfl | exact .inr rfl))))))) (@aq _ _ _ (@aD _ _ _ _ (eK 3))))))))
  pW
theorem ia:aF uB ["_law_script","_law_k"] (ar i6):=⟨rfl,rfl,rfl,by decide +kernel,rfl,by decide +kernel,by decide +kernel⟩
theorem cZ(T:Tx K mg ad fd):FnOk P w K mg base CX0 1 (ad 28) (fd 28) ["_law_script","_law_k"] (spF K 2 bY) :=
 br (k:=0) T.x__law_begun.f ia jg (λcdv A outer s H E hr=>(ai (az (i:=2) ia.nd rfl (by walk_at "o") ah)
  (ai (bW (Ni mx (af 1) (aQ dQ rfl T.z_len (by decide +kernel) (ae (af 0) ag)) (aW _)) (aq (az (i:=2) ia.nd rfl (by walk_at "o") (ay (af 0) (af 1) (λ_ _=>rfl)))) aU)
  (aq (aD (bf (ae (af 2) (ae (au cK (au aZ (au aZ (au cK (af 2) ah) (au bj (au bj ah (af 1)) (af 1))) ah) ah) (ae (fX Ib (af 2) (au Ag ah ah) (aW _)) ag)))))))))
  pX
theorem dZ:aF wj ["_law_state","_law_many"] (ar ko):=⟨rfl,rfl,rfl,by decide +kernel,rfl,by decide +kernel,by decide +kernel⟩
theorem aG(T:Tx K mg ad fd):FnOk P w K mg base CX0 1 (ad 29) (fd 29) ["_law_state","_law_many"] (spF K 2 aE) :=
 br (k:=0) T.x__law_take.f dZ kN (λcdv A outer s H E hr=>(ai (bW (bD (ij (iS 0 ah (λ_ _=>rfl)) (ay (af 0) ah (λ_ _=>rfl)))) (ai (az (i:=2) dZ.nd rfl (by walk_at "o") (au cK (ij (iS 0 ah (λ_ _=>rfl)) (ay (af 0) ah (λ_ _=>rfl))) (af 1)))
  (ai (ke 0 ah (au oJ (ij (iS 0 ah (λ_ _=>rfl)) (ay (af 0) ah (λ_ _=>rfl))) (af 1)))
  (ai (ke 0 ah (fX Fz (ij (iS 0 ah (λ_ _=>rfl)) (ay (af 0) ah (λ_ _=>rfl))) ah (aW _)))
  (aq (aD (eK 2)))))) aU)
  (ai (az (i:=3) dZ.nd rfl (by walk_at "o") ah)
  (ai (fY PassesOwn.never rfl (jF rfl T.z_range (au aZ ah (au bj ah (eN D5 rfl T.z_int (by decide +kernel) (ae (fX Fz (af 1) (au Ag ah ah) (aW _)) ag))))) (mw (i:=4) dZ.nd rfl (by walk_at "o")) (ai (ke 0 ah (au cK (au aZ (au bj (ij (iS 0 ah (λ_ _=>rfl)) (ay (af 0) ah (λ_ _=>rfl))) ah) ah) ah))
  (aq (az (i:=3) dZ.nd rfl (by walk_at "o") (av (au aZ (au bj (af 3) ah) (au cK (au bj (ij (iS 0 ah (λ_ _=>rfl)) (ay (af 0) ah (λ_ _=>rfl))) (ij (iS 0 ah (λ_ _=>rfl)) (ay (af 0) ah (λ_ _=>rfl)))) ah)))))))
  (aq (aD (au cK (au oJ (af 3) ah) (af 1))))))))
  r6
theorem c7:aF i7 ["_law_state","_law_many"] (ar dU):=⟨rfl,rfl,rfl,by decide +kernel,rfl,by decide +kernel,by decide +kernel⟩
theorem sF(T:Tx K mg ad fd):FnOk P w K mg base CX0 2 (ad 30) (fd 30) ["_law_state","_law_many"] (spF K 2 gR) :=
 br (k:=1) T.x__law_names.f c7 jh (λcdv A outer s H E hr=>(ai (az (i:=2) c7.nd rfl (by walk_at "o") a6)
  (ai (az (i:=3) c7.nd rfl (by walk_at "o") (av (FO (iT (sc:=(ar dU)) (N:=i7) (Nt:=["_law_k"]) (Nf:=["_law_letters","_law_state"]) (fi:=[2,0]) rfl rfl rfl (jF rfl T.z_range (au aZ ah (bC (aG T) T.x__law_take hr 0 0 (a7 0 (ae ah ag))))) rfl (by decide +kernel) (by decide +kernel) (by decide +kernel) (by decide) rfl (by decide +kernel) (by decide) (λ_ _ _ _=>(kf (by decide) (show((["_law_k"]:List Str)++(["_law_letters","_law_state"]:List Str)).Nodup by decide +kernel) rfl (Or.inl rfl))) (λ_ _ _ _=>oN) (λ_ _ _ _=>(ay (af 1) (bC (aG T) T.x__law_take hr 0 2 (a7 2 (ae ah ag))) (λ_ _=>rfl)))))))
  (ai (az (i:=4) c7.nd rfl (by walk_at "o") (av (bC (aG T) T.x__law_take hr 0 0 (a7 0 (ae (av (aQ dQ rfl T.z_len (by decide +kernel) (ae (af 3) ag))) ag)))))
  (ai (az (i:=5) c7.nd rfl (by walk_at "o") (av (bC (aG T) T.x__law_take hr 0 0 (a7 0 (ae ah ag)))))
  (aq (aD (iT (sc:=(ar dU)) (N:=i7) (Nt:=["_law_k"]) (Nf:=["_law_base","_law_at","_law_letters","_law_turn"]) (fi:=[3,4,2,5]) rfl rfl rfl (jF rfl T.z_range (af 1)) rfl (by decide +kernel) (by decide +kernel) (by decide +kernel) (by decide) rfl (by decide +kernel) (by decide) (λ_ _ _ _=>(kf (by decide) (show((["_law_k"]:List Str)++(["_law_base","_law_at","_law_letters","_law_turn"]:List Str)).Nodup by decide +kernel) rfl (Or.inl rfl))) (λ_ _ _ _=>oN) (λ_ _ _ _=>(au aZ (au aZ (cb (af 1) trivial (af 2)) (ay (af 3) (au cK (au aZ (af 4) (af 0)) ah) (λ_ _=>rfl))) (cb (af 1) (au aZ (af 2) ah) trivial)))))))))))
  pY
theorem fh:aF y9 ["_law_top","_law_bottom"] (ar mM):=⟨rfl,rfl,rfl,by decide +kernel,rfl,by decide +kernel,by decide +kernel⟩
theorem dE(T:Tx K mg ad fd):FnOk P w K mg base CX0 1 (ad 31) (fd 31) ["_law_top","_law_bottom"] (spF K 2 cn) :=
 br (k:=0) T.x__law_low.f fh mS (λcdv A outer s H E hr=>(ai (az (i:=2) fh.nd rfl (by walk_at "o") (av (aQ Ah rfl T.z_abs (by decide +kernel) (ae (af 0) ag))))
  (ai (az (i:=3) fh.nd rfl (by walk_at "o") (av (aQ Ah rfl T.z_abs (by decide +kernel) (ae (af 1) ag))))
  (ai (lh PassesOwn.never (Ni (pQ hr.units) (af 2) ah (aW _)) (aq (D6 (i:=2) (j:=3) rfl fh.nd rfl rfl (by decide) rfl rfl (au cK (af 3) (af 2)) (af 2) rfl)))
  (ai (bW (Ni mx (af 1) ah (aW _)) (aq (az (i:=3) fh.nd rfl (by walk_at "o") (au eM ah (af 3)))) aU)
  (aq (aD (aJ (ae (au oJ (af 0) (af 3)) (ae (au oJ (af 1) (af 3)) ag))))))))))
  uS
theorem fV:aF rR ["_law_state","_law_least","_law_kind"] (ar gJ):=⟨rfl,rfl,rfl,by decide +kernel,rfl,by decide +kernel,by decide +kernel⟩
theorem fW(T:Tx K mg ad fd):FnOk P w K mg base CX0 2 (ad 32) (fd 32) ["_law_state","_law_least","_law_kind"] (spF K 3 cL) :=
 br (k:=1) T.x__law_amount.f fV gS (λcdv A outer s H E hr=>by exact(@ai _ _ _ _ _ (@az _ _ _ 3 _ _ _ fV.nd rfl (by walk_at "o") (@av _ _ _ (@au _ _ _ _ _ _ _ _ aZ ah (bC (aG T) T.x__law_take hr 0 0 (a7 0 (@ae _ _ _ _ _ _ (@ay _ _ _ _ _ _ (@bf _ _ _ _ _ (@ae _ _ _ _ _ _ ah (@ae _ _ _ _ _ _ ah (@ae _ _ _ _ _ _ ah (@ae _ _ _ _ _ _ ah (@ae _ _ _ _ _ _ ah ag (by kernel_rfl)) (by kernel_rfl)) (by kernel_rfl)) (by kernel_rfl)) (by kernel_rfl))) (af 2) (λ_ _=>rfl)) ag (by kernel_rfl)))))) (by kernel_rfl) (by first | exact .inl rfl | exact .inr rfl)) (@ai _ _ _ _ _ (@az _ _ _ 4 _ _ _ fV.nd rfl (by walk_at "o") (@av _ _ _ (@au _ _ _ _ _ _ _ _ aZ (af 1) (bC (aG T) T.x__law_take hr 0 0 (a7 0 (@ae _ _ _ _ _ _ (@ay _ _ _ _ _ _ (@bf _ _ _ _ _ (@ae _ _ _ _ _ _ ah (@ae _ _ _ _ _ _ ah (@ae _ _ _ _ _ _ ah (@ae _ _ _ _ _ _ ah (@ae _ _ _ _ _ _ (@au _ _ _ _ _ _ _ _ Ag ah ah) ag (by kernel_rfl)) (by kernel_rfl)) (by kernel_rfl)) (by kernel_rfl)) (by kernel_rfl))) (af 2) (λ_ _=>rfl)) ag (by kernel_rfl)))))) (by kernel_rfl) (by first | exact .inl rfl | exact .inr rfl)) (@aq _ _ _ (@aD _ _ _ _ (aT (dE T) T.x__law_low hr (@ae _ _ _ _ _ _ (af 4) (@ae _ _ _ _ _ _ (af 3) ag (by kernel_rfl)) (by kernel_rfl))))))))
  pE
theorem cx:aF uC ["_law_state","_law_ties_here","_law_kind"] (ar i8):=⟨rfl,rfl,rfl,by decide +kernel,rfl,by decide +kernel,by decide +kernel⟩
theorem sG(T:Tx K mg ad fd):FnOk P w K mg base CX0 3 (ad 33) (fd 33) ["_law_state","_law_ties_here","_law_kind"] (spF K 3 gT) :=
 br (k:=2) T.x__law_rooms.f cx jk (λcdv A outer s H E hr=>(ai (az (i:=3) cx.nd rfl (by walk_at "o") (av (bC (aG T) T.x__law_take hr 0 0 (a7 0 (ae ah ag)))))
  (ai (az (i:=4) cx.nd rfl (by walk_at "o") (av (bC (fW T) T.x__law_amount hr 0 0 (a7 0 (ae ah (ae (af 2) ag))))))
  (ai (bW (Ni (fH hr.units) (af 3) ah (aW _)) (aq (az (i:=4) cx.nd rfl (by walk_at "o") (aJ (ae ah (ae ah ag))))) aU)
  (ai (az (i:=5) cx.nd rfl (by walk_at "o") (bf (ae (af 4) ag)))
  (ai (lh PassesOwn.never (Ni mx (ij (FG 5 rfl T.z_len) (aQ dQ rfl T.z_len PySem.boot_len (ae (af 5) ag))) (af 1) (aW _)) (ai (az (i:=6) cx.nd rfl (by walk_at "o") (av (bC (fW T) T.x__law_amount hr 0 0 (a7 0 (ae ah (ae (af 2) ag))))))
  (aq (oG (iR 5 (ay (bf (ae (af 4) (ae (af 6) ag))) (eN D5 rfl T.z_int (by decide +kernel) (ae (fX (fH hr.units) (af 3) ah (aW _)) ag)) (λ_ _=>rfl)))))))
  (aq (aD (eK 5)))))))))
  pZ
theorem jA:aF wm ["_law_state","_law_shape","_law_places","_law_k"] (ar kq):=⟨rfl,rfl,rfl,by decide +kernel,rfl,by decide +kernel,by decide +kernel⟩
theorem u6(T:Tx K mg ad fd):FnOk P w K mg base CX0 2 (ad 34) (fd 34) ["_law_state","_law_shape","_law_places","_law_k"] (spF K 4 jm) :=
 br (k:=1) T.x__law_ends.f jA kO (λcdv A outer s H E hr=>(ai (az (i:=4) jA.nd rfl (by walk_at "o") (av (bC (aG T) T.x__law_take hr 0 0 (a7 0 (ae (af 2) ag)))))
  (ai (az (i:=5) jA.nd rfl (by walk_at "o") (au cK (au aZ (au aZ (af 4) ah) (bC (aG T) T.x__law_take hr 0 0 (a7 0 (ae (au eM (af 2) ah) ag)))) (af 2)))
  (ai (bW (Ni (fH hr.units) (af 1) ah (aW _)) (aq (aD (aJ (ae (au cK (af 3) (af 2)) (ae (au cK (au aZ (af 3) (au oJ (af 2) ah)) (af 2)) ag))))) aU)
  (ai (bW (Ni (fH hr.units) (af 1) ah (aW _)) (aq (aD (aJ (ae (av (au bj (au cK (af 3) ah) (au eM (af 2) ah))) (ae (av (au bj (au eM ah (au cK (af 3) ah)) (au eM (af 2) ah))) ag))))) aU)
  (ai (bW (Ni (fH hr.units) (af 1) ah (aW _)) (aq (aD (aJ (ae ah (ae (av (au aZ ah (au cK (af 5) (au eM (af 2) ah)))) ag))))) aU)
  (aq (aD (aJ (ae (af 4) (ae (af 5) ag)))))))))))
  r9
theorem a9:aF wo ["_law_script","_law_at","_law_most","_law_count"] (ar kr):=⟨rfl,rfl,rfl,by decide +kernel,rfl,by decide +kernel,by decide +kernel⟩
theorem u7(T:Tx K mg ad fd):FnOk P w K mg base CX0 4 (ad 35) (fd 35) ["_law_script","_law_at","_law_most","_law_count"] (spF K 4 jn) :=
 br (k:=3) T.x__law_ring.f a9 kP (λcdv A outer s H E hr=>by exact(@ai _ _ _ _ _ (@az _ _ _ 4 _ _ _ a9.nd rfl (by walk_at "o") (aT (cZ T) T.x__law_begun hr (@ae _ _ _ _ _ _ (af 0) (@ae _ _ _ _ _ _ (af 1) ag (by kernel_rfl)) (by kernel_rfl))) (by kernel_rfl) (by first | exact .inl rfl | exact .inr rfl)) (@ai _ _ _ _ _ (@az _ _ _ 5 _ _ _ a9.nd rfl (by walk_at "o") (@av _ _ _ (@au _ _ _ _ _ _ _ _ aZ ah (bC (aG T) T.x__law_take hr 0 4 (a7 4 (@ae _ _ _ _ _ _ (@au _ _ _ _ _ _ _ _ eM (af 2) ah) ag (by kernel_rfl)))))) (by kernel_rfl) (by first | exact .inl rfl | exact .inr rfl)) (@ai _ _ _ _ _ (@az _ _ _ 6 _ _ _ a9.nd rfl (by walk_at "o") (@av _ _ _ (bC (aG T) T.x__law_take hr 0 4 (a7 4 (@ae _ _ _ _ _ _ (@av _ _ _ (@au _ _ _ _ _ _ _ _ aZ (af 3) ah)) ag (by kernel_rfl))))) (by kernel_rfl) (by first | exact .inl rfl | exact .inr rfl)) (@ai _ _ _ _ _ (@az _ _ _ 7 _ _ _ a9.nd rfl (by walk_at "o") (@av _ _ _ (@bf _ _ _ _ _ (@ae _ _ _ _ _ _ (@av _ _ _ (bC (aG T) T.x__law_take hr 0 4 (a7 4 (@ae _ _ _ _ _ _ ah ag (by kernel_rfl))))) (@ae _ _ _ _ _ _ (@av _ _ _ (bC (aG T) T.x__law_take hr 0 4 (a7 4 (@ae _ _ _ _ _ _ ah ag (by kernel_rfl))))) ag (by kernel_rfl)) (by kernel_rfl)))) (by kernel_rfl) (by first | exact .inl rfl | exact .inr rfl)) (@ai _ _ _ _ _ (@az _ _ _ 8 _ _ _ a9.nd rfl (by walk_at "o") (@av _ _ _ (bC (aG T) T.x__law_take hr 0 4 (a7 4 (@ae _ _ _ _ _ _ ah ag (by kernel_rfl))))) (by kernel_rfl) (by first | exact .inl rfl | exact .inr rfl)) (@ai _ _ _ _ _ (@az _ _ _ 9 _ _ _ a9.nd rfl (by walk_at "o") (@av _ _ _ (bC (sF T) T.x__law_names hr 0 4 (a7 4 (@ae _ _ _ _ _ _ (af 6) ag (by kernel_rfl))))) (by kernel_rfl) (by first | exact .inl rfl | exact .inr rfl)) (@ai _ _ _ _ _ (@az _ _ _ 10 _ _ _ a9.nd rfl (by walk_at "o") (@av _ _ _ (aT (sG T) T.x__law_rooms hr (@ae _ _ _ _ _ _ (aT (cZ T) T.x__law_begun hr (@ae _ _ _ _ _ _ (af 0) (@ae _ _ _ _ _ _ (@av _ _ _ (@au _ _ _ _ _ _ _ _ aZ (af 1) ah)) ag (by kernel_rfl)) (by kernel_rfl))) (@ae _ _ _ _ _ _ (af 5) (@ae _ _ _ _ _ _ (@ay _ _ _ _ _ _ (af 7) ah (λ_ _=>rfl)) ag (by kernel_rfl)) (by kernel_rfl)) (by kernel_rfl)))) (by kernel_rfl) (by first | exact .inl rfl | exact .inr rfl)) (@ai _ _ _ _ _ (@az _ _ _ 4 _ _ _ a9.nd rfl (by walk_at "o") (aT (cZ T) T.x__law_begun hr (@ae _ _ _ _ _ _ (af 0) (@ae _ _ _ _ _ _ (@av _ _ _ (@au _ _ _ _ _ _ _ _ aZ (af 1) ah)) ag (by kernel_rfl)) (by kernel_rfl))) (by kernel_rfl) (by first | exact .inl rfl | exact .inr rfl)) (@ai _ _ _ _ _ (@az _ _ _ 11 _ _ _ a9.nd rfl (by walk_at "o") (@bf _ _ _ _ _ ag) (by kernel_rfl) (by first | exact .inl rfl | exact .inr rfl)) (@ai _ _ _ _ _ (fY PassesOwn.never rfl (jF rfl T.z_range (af 6)) (mw (i:=12) a9.nd rfl (by walk_at "o")) (@ai _ _ _ _ _ (oP (ig rfl (aK (i:=13) a9.nd rfl (by walk_at "o") (aK (i:=14) a9.nd rfl (by walk_at "o") d6))) (bC (u6 T) T.x__law_ends hr 0 4 (a7 4 (@ae _ _ _ _ _ _ (af 8) (@ae _ _ _ _ _ _ (af 5) (@ae _ _ _ _ _ _ (af 12) ag (by kernel_rfl)) (by kernel_rfl)) (by kernel_rfl))))) (@aq _ _ _ (oG (iR 11 (@aJ _ _ _ _ _ _ (@ae _ _ _ _ _ _ (@ay _ _ _ _ _ _ (af 9) (af 12) (λ_ _=>rfl)) (@ae _ _ _ _ _ _ (af 13) (@ae _ _ _ _ _ _ (af 14) (@ae _ _ _ _ _ _ (@av _ _ _ (bC (fW T) T.x__law_amount hr 0 4 (a7 4 (@ae _ _ _ _ _ _ ah (@ae _ _ _ _ _ _ (@ay _ _ _ _ _ _ (af 7) ah (λ_ _=>rfl)) ag (by kernel_rfl)) (by kernel_rfl))))) ag (by kernel_rfl)) (by kernel_rfl)) (by kernel_rfl)) (by kernel_rfl)))))))) (@aq _ _ _ (@aD _ _ _ _ (@aJ _ _ _ _ _ _ (@ae _ _ _ _ _ _ (af 10) (@ae _ _ _ _ _ _ (af 11) ag (by kernel_rfl)) (by kernel_rfl))))))))))))))))
  se
theorem bJ:aF uD ["_law_state","_law_ring_here"] (ar i9):=⟨rfl,rfl,rfl,by decide +kernel,rfl,by decide +kernel,by decide +kernel⟩
theorem sH(T:Tx K mg ad fd):FnOk P w K mg base CX0 2 (ad 36) (fd 36) ["_law_state","_law_ring_here"] (spF K 2 gW) :=
 br (k:=1) T.x__law_parts.f bJ jo (λcdv A outer s H E hr=>(ai (az (i:=2) bJ.nd rfl (by walk_at "o") (bf ag))
  (ai (fY PassesOwn.never rfl (fG (ay (af 1) ah (λ_ _=>rfl))) (ig rfl (aK (i:=3) bJ.nd rfl (by walk_at "o") (aK (i:=4) bJ.nd rfl (by walk_at "o") (aK (i:=5) bJ.nd rfl (by walk_at "o") (aK (i:=6) bJ.nd rfl (by walk_at "o") d6))))) (ai (az (i:=7) bJ.nd rfl (by walk_at "o") (av (bC (aG T) T.x__law_take hr 0 0 (a7 0 (ae ah ag)))))
  (ai (az (i:=8) bJ.nd rfl (by walk_at "o") (av (bC (aG T) T.x__law_take hr 0 0 (a7 0 (ae ah ag)))))
  (aq (oG (iR 2 (ay (bf (ae (aJ (ae ah (ae ah ag))) (ae (af 6) (ae (av (aT (dE T) T.x__law_low hr (ae (av (au bj (ay (af 6) ah (λ_ _=>rfl)) (af 8))) (ae (av (au bj (ay (af 6) ah (λ_ _=>rfl)) ah)) ag)))) ag)))) (aQ (Aj rfl) rfl T.z_min (by decide +kernel) (ae (af 7) (ae ah ag))) (λ_ _=>rfl))))))))
  (aq (aD (eK 2))))))
  p5
theorem iA:aF pd ["_law_thing"] (ar eV):=⟨rfl,rfl,rfl,by decide +kernel,rfl,by decide +kernel,by decide +kernel⟩
theorem iB(T:Tx K mg ad fd):FnOk P w K mg base CX0 2 (ad 37) (fd 37) ["_law_thing"] (spF K 1 cO) :=
 br (k:=1) T.x__law_is_ratio.f iA eY (λcdv A outer s H E hr=>(ai (bW (Ng.pb (eL (cI (bD (dR iU rfl T.z_isinstance rfl T.z_tuple (by decide +kernel) (af 0)))) (d5 (Ni (pQ hr.units) (aQ dQ rfl T.z_len (by decide +kernel) (ae (af 0) ag)) ah (aW _))))) (aq (aD jM)) aU)
  (ai (fY PassesOwn.never rfl (fG (af 0)) (mw (i:=1) iA.nd rfl (by walk_at "o")) (aq (bW (Ng.pb (eL (cI (bD (dR vB rfl T.z_isinstance rfl T.z_int (by decide +kernel) (af 1)))) (d5 (bD (dR nW rfl T.z_isinstance rfl T.z_bool (by decide +kernel) (af 1)))))) (aq (aD jM)) aU)))
  (ai (bW (Ni mx (ay (af 0) ah (λ_ _=>rfl)) ah (aW _)) (aq (aD jM)) aU)
  (aq (aD (fX (fH hr.units) (af 0) (aT (dE T) T.x__law_low hr (ae (ay (af 0) ah (λ_ _=>rfl)) (ae (ay (af 0) ah (λ_ _=>rfl)) ag))) (aW _))))))))
  mT
theorem u9:aF wq ["_law_one","_law_other"] (ar ku):=⟨rfl,rfl,rfl,by decide +kernel,rfl,by decide +kernel,by decide +kernel⟩
theorem nB(T:Tx K mg ad fd):FnOk P w K mg base CX0 2 (ad 38) (fd 38) ["_law_one","_law_other"] (spF K 2 dX) :=
 br (k:=1) T.x__law_plus.f u9 kQ (λcdv A outer s H E hr=>(aq (aD (aT (dE T) T.x__law_low hr (ae (av (au aZ (au bj (ay (af 0) ah (λ_ _=>rfl)) (ay (af 1) ah (λ_ _=>rfl))) (au bj (ay (af 1) ah (λ_ _=>rfl)) (ay (af 0) ah (λ_ _=>rfl))))) (ae (av (au bj (ay (af 0) ah (λ_ _=>rfl)) (ay (af 1) ah (λ_ _=>rfl)))) ag))))))
  sf
theorem sI:aF uE ["_law_one","_law_other"] (ar ja):=⟨rfl,rfl,rfl,by decide +kernel,rfl,by decide +kernel,by decide +kernel⟩
theorem eF(T:Tx K mg ad fd):FnOk P w K mg base CX0 2 (ad 39) (fd 39) ["_law_one","_law_other"] (spF K 2 cw) :=
 br (k:=1) T.x__law_minus.f sI jq (λcdv A outer s H E hr=>(aq (aD (aT (dE T) T.x__law_low hr (ae (au eM (au bj (ay (af 0) ah (λ_ _=>rfl)) (ay (af 1) ah (λ_ _=>rfl))) (au bj (ay (af 1) ah (λ_ _=>rfl)) (ay (af 0) ah (λ_ _=>rfl)))) (ae (av (au bj (ay (af 0) ah (λ_ _=>rfl)) (ay (af 1) ah (λ_ _=>rfl)))) ag))))))
  p6
theorem aX:aF pU ["_law_state","_law_slide"] (ar fN):=⟨rfl,rfl,rfl,by decide +kernel,rfl,by decide +kernel,by decide +kernel⟩
theorem pL(T:Tx K mg ad fd):FnOk P w K mg base CX0 3 (ad 40) (fd 40) ["_law_state","_law_slide"] (spF K 2 eZ) :=
 br (k:=2) T.x__law_stepped.f aX fS (λcdv A outer s H E hr=>by exact(@ai _ _ _ _ _ (@bW _ _ _ _ _ _ _ _ (Ng.pb (eL (cI (bD (dR iU rfl T.z_isinstance rfl T.z_tuple (by decide +kernel) (af 1)))) (eL (Ni (pQ hr.units) (aQ dQ rfl T.z_len (by decide +kernel) (@ae _ _ _ _ _ _ (af 1) ag (by kernel_rfl))) ah (aW _)) (d5 (cI (bD (aT (iB T) T.x__law_is_ratio hr (@ae _ _ _ _ _ _ (@ay _ _ _ _ _ _ (af 1) ah (λ_ _=>rfl)) ag (by kernel_rfl))))))))) (@aq _ _ _ (@aD _ _ _ _ (eK 1))) aU) (@ai _ _ _ _ _ (oP (ig rfl (aK (i:=2) aX.nd rfl (by walk_at "o") (aK (i:=3) aX.nd rfl (by walk_at "o") (aK (i:=4) aX.nd rfl (by walk_at "o") (aK (i:=5) aX.nd rfl (by walk_at "o") (aK (i:=6) aX.nd rfl (by walk_at "o") d6)))))) (af 1)) (@ai _ _ _ _ _ (@az _ _ _ 7 _ _ _ aX.nd rfl (by walk_at "o") (@av _ _ _ (aT (dE T) T.x__law_low hr (@ae _ _ _ _ _ _ ah (@ae _ _ _ _ _ _ (@av _ _ _ (@au _ _ _ _ _ _ _ _ aZ ah (bC (aG T) T.x__law_take hr 0 0 (a7 0 (@ae _ _ _ _ _ _ ah ag (by kernel_rfl)))))) ag (by kernel_rfl)) (by kernel_rfl)))) (by kernel_rfl) (by first | exact .inl rfl | exact .inr rfl)) (@ai _ _ _ _ _ (@az _ _ _ 8 _ _ _ aX.nd rfl (by walk_at "o") (@av _ _ _ (@bf _ _ _ _ _ (@ae _ _ _ _ _ _ (@aJ _ _ _ _ _ _ (@ae _ _ _ _ _ _ (af 2) (@ae _ _ _ _ _ _ (af 3) (@ae _ _ _ _ _ _ (af 4) (@ae _ _ _ _ _ _ (af 5) (@ae _ _ _ _ _ _ (@av _ _ _ (aT (nB T) T.x__law_plus hr (@ae _ _ _ _ _ _ (af 6) (@ae _ _ _ _ _ _ (af 7) ag (by kernel_rfl)) (by kernel_rfl)))) ag (by kernel_rfl)) (by kernel_rfl)) (by kernel_rfl)) (by kernel_rfl)) (by kernel_rfl))) (@ae _ _ _ _ _ _ (@aJ _ _ _ _ _ _ (@ae _ _ _ _ _ _ (af 2) (@ae _ _ _ _ _ _ (af 3) (@ae _ _ _ _ _ _ (af 4) (@ae _ _ _ _ _ _ (af 5) (@ae _ _ _ _ _ _ (@av _ _ _ (aT (eF T) T.x__law_minus hr (@ae _ _ _ _ _ _ (af 6) (@ae _ _ _ _ _ _ (af 7) ag (by kernel_rfl)) (by kernel_rfl)))) ag (by kernel_rfl)) (by kernel_rfl)) (by kernel_rfl)) (by kernel_rfl)) (by kernel_rfl))) ag (by kernel_rfl)) (by kernel_rfl)))) (by kernel_rfl) (by first | exact .inl rfl | exact .inr rfl)) (@ai _ _ _ _ _ (@az _ _ _ 8 _ _ _ aX.nd rfl (by walk_at "o") (@av _ _ _ (@au _ _ _ _ _ _ _ _ aZ (af 8) (@bf _ _ _ _ _ (@ae _ _ _ _ _ _ (@aJ _ _ _ _ _ _ (@ae _ _ _ _ _ _ (af 4) (@ae _ _ _ _ _ _ (af 3) (@ae _ _ _ _ _ _ (af 2) (@ae _ _ _ _ _ _ (af 5) (@ae _ _ _ _ _ _ (af 6) ag (by kernel_rfl)) (by kernel_rfl)) (by kernel_rfl)) (by kernel_rfl)) (by kernel_rfl))) (@ae _ _ _ _ _ _ (@aJ _ _ _ _ _ _ (@ae _ _ _ _ _ _ (af 4) (@ae _ _ _ _ _ _ (af 5) (@ae _ _ _ _ _ _ (af 2) (@ae _ _ _ _ _ _ (af 3) (@ae _ _ _ _ _ _ (af 6) ag (by kernel_rfl)) (by kernel_rfl)) (by kernel_rfl)) (by kernel_rfl)) (by kernel_rfl))) ag (by kernel_rfl)) (by kernel_rfl))))) (by kernel_rfl) (by first | exact .inl rfl | exact .inr rfl)) (@ai _ _ _ _ _ (@az _ _ _ 8 _ _ _ aX.nd rfl (by walk_at "o") (@av _ _ _ (@au _ _ _ _ _ _ _ _ aZ (af 8) (@bf _ _ _ _ _ (@ae _ _ _ _ _ _ (@aJ _ _ _ _ _ _ (@ae _ _ _ _ _ _ (af 2) (@ae _ _ _ _ _ _ (af 5) (@ae _ _ _ _ _ _ (af 4) (@ae _ _ _ _ _ _ (af 3) (@ae _ _ _ _ _ _ (af 6) ag (by kernel_rfl)) (by kernel_rfl)) (by kernel_rfl)) (by kernel_rfl)) (by kernel_rfl))) (@ae _ _ _ _ _ _ (@aJ _ _ _ _ _ _ (@ae _ _ _ _ _ _ (af 2) (@ae _ _ _ _ _ _ (af 3) (@ae _ _ _ _ _ _ (af 2) (@ae _ _ _ _ _ _ (af 5) (@ae _ _ _ _ _ _ (af 6) ag (by kernel_rfl)) (by kernel_rfl)) (by kernel_rfl)) (by kernel_rfl)) (by kernel_rfl))) ag (by kernel_rfl)) (by kernel_rfl))))) (by kernel_rfl) (by first | exact .inl rfl | exact .inr rfl)) (@ai _ _ _ _ _ (@az _ _ _ 8 _ _ _ aX.nd rfl (by walk_at "o") (@av _ _ _ (@au _ _ _ _ _ _ _ _ aZ (af 8) (@bf _ _ _ _ _ (@ae _ _ _ _ _ _ (@aJ _ _ _ _ _ _ (@ae _ _ _ _ _ _ (af 2) (@ae _ _ _ _ _ _ (af 3) (@ae _ _ _ _ _ _ (af 4) (@ae _ _ _ _ _ _ (af 3) (@ae _ _ _ _ _ _ (af 6) ag (by kernel_rfl)) (by kernel_rfl)) (by kernel_rfl)) (by kernel_rfl)) (by kernel_rfl))) (@ae _ _ _ _ _ _ (@aJ _ _ _ _ _ _ (@ae _ _ _ _ _ _ (af 2) (@ae _ _ _ _ _ _ (af 5) (@ae _ _ _ _ _ _ (af 4) (@ae _ _ _ _ _ _ (af 5) (@ae _ _ _ _ _ _ (af 6) ag (by kernel_rfl)) (by kernel_rfl)) (by kernel_rfl)) (by kernel_rfl)) (by kernel_rfl))) (@ae _ _ _ _ _ _ (@av _ _ _ (@au _ _ _ _ _ _ _ _ AD (af 1) (@aJ _ _ _ _ _ _ (@ae _ _ _ _ _ _ ah ag (by kernel_rfl))))) (@ae _ _ _ _ _ _ (@av _ _ _ (@cb _ _ _ _ _ _ _ _ _ (af 1) trivial ah)) ag (by kernel_rfl)) (by kernel_rfl)) (by kernel_rfl)) (by kernel_rfl))))) (by kernel_rfl) (by first | exact .inl rfl | exact .inr rfl)) (@aq _ _ _ (@aD _ _ _ _ (@ay _ _ _ _ _ _ (af 8) (bC (aG T) T.x__law_take hr 0 0 (a7 0 (@ae _ _ _ _ _ _ ah ag (by kernel_rfl)))) (λ_ _=>rfl))))))))))))
  nR
theorem bK:aF wu ["_law_state","_law_slides"] (ar kx):=⟨rfl,rfl,rfl,by decide +kernel,rfl,by decide +kernel,by decide +kernel⟩
theorem nC(T:Tx K mg ad fd):FnOk P w K mg base CX0 4 (ad 41) (fd 41) ["_law_state","_law_slides"] (spF K 2 fw) :=
 br (k:=3) T.x__law_bent.f bK kR (λcdv A outer s H E hr=>by exact(@ai _ _ _ _ _ (@az _ _ _ 2 _ _ _ bK.nd rfl (by walk_at "o") (@av _ _ _ (bC (aG T) T.x__law_take hr 0 0 (a7 0 (@ae _ _ _ _ _ _ ah ag (by kernel_rfl))))) (by kernel_rfl) (by first | exact .inl rfl | exact .inr rfl)) (@ai _ _ _ _ _ (@bW _ _ _ _ _ _ _ _ (Ni (fH hr.units) (af 2) ah (aW _)) (@aq _ _ _ (@aD _ _ _ _ (@ay _ _ _ _ _ _ (@bf _ _ _ _ _ (@ae _ _ _ _ _ _ m8 (@ae _ _ _ _ _ _ (@aJ _ _ _ _ _ _ ag) (@ae _ _ _ _ _ _ a6 (@ae _ _ _ _ _ _ (@av _ _ _ (eN CC rfl T.z_tuple (by decide +kernel) (@ae _ _ _ _ _ _ (af 1) ag (by kernel_rfl)))) (@ae _ _ _ _ _ _ ah (@ae _ _ _ _ _ _ rg (@ae _ _ _ _ _ _ jM (@ae _ _ _ _ _ _ a6 ag (by kernel_rfl)) (by kernel_rfl)) (by kernel_rfl)) (by kernel_rfl)) (by kernel_rfl)) (by kernel_rfl)) (by kernel_rfl)) (by kernel_rfl))) (bC (aG T) T.x__law_take hr 0 0 (a7 0 (@ae _ _ _ _ _ _ ah ag (by kernel_rfl)))) (λ_ _=>rfl)))) aU) (@ai _ _ _ _ _ (@az _ _ _ 3 _ _ _ bK.nd rfl (by walk_at "o") (@av _ _ _ (bC (aG T) T.x__law_take hr 0 0 (a7 0 (@ae _ _ _ _ _ _ (@av _ _ _ (@au _ _ _ _ _ _ _ _ aZ (aQ dQ rfl T.z_len (by decide +kernel) (@ae _ _ _ _ _ _ (af 1) ag (by kernel_rfl))) ah)) ag (by kernel_rfl))))) (by kernel_rfl) (by first | exact .inl rfl | exact .inr rfl)) (@ai _ _ _ _ _ (@az _ _ _ 4 _ _ _ bK.nd rfl (by walk_at "o") (@av _ _ _ (@bf _ _ _ _ _ (@ae _ _ _ _ _ _ m8 (@ae _ _ _ _ _ _ (@av _ _ _ (@bf _ _ _ _ _ ag)) (@ae _ _ _ _ _ _ (@aJ _ _ _ _ _ _ ag) (@ae _ _ _ _ _ _ a6 (@ae _ _ _ _ _ _ ah (@ae _ _ _ _ _ _ (@aJ _ _ _ _ _ _ (@ae _ _ _ _ _ _ ah (@ae _ _ _ _ _ _ a6 (@ae _ _ _ _ _ _ ah (@ae _ _ _ _ _ _ a6 (@ae _ _ _ _ _ _ (@aJ _ _ _ _ _ _ (@ae _ _ _ _ _ _ ah (@ae _ _ _ _ _ _ ah ag (by kernel_rfl)) (by kernel_rfl))) ag (by kernel_rfl)) (by kernel_rfl)) (by kernel_rfl)) (by kernel_rfl)) (by kernel_rfl))) (@ae _ _ _ _ _ _ (@aJ _ _ _ _ _ _ (@ae _ _ _ _ _ _ ah (@ae _ _ _ _ _ _ a6 (@ae _ _ _ _ _ _ ah (@ae _ _ _ _ _ _ a6 ag (by kernel_rfl)) (by kernel_rfl)) (by kernel_rfl)) (by kernel_rfl))) ag (by kernel_rfl)) (by kernel_rfl)) (by kernel_rfl)) (by kernel_rfl)) (by kernel_rfl)) (by kernel_rfl)) (by kernel_rfl)))) (by kernel_rfl) (by first | exact .inl rfl | exact .inr rfl)) (@ai _ _ _ _ _ (@az _ _ _ 4 _ _ _ bK.nd rfl (by walk_at "o") (@av _ _ _ (@au _ _ _ _ _ _ _ _ aZ (af 4) (@bf _ _ _ _ _ (@ae _ _ _ _ _ _ (@aJ _ _ _ _ _ _ (@ae _ _ _ _ _ _ ah (@ae _ _ _ _ _ _ a6 (@ae _ _ _ _ _ _ ah (@ae _ _ _ _ _ _ a6 (@ae _ _ _ _ _ _ (@aJ _ _ _ _ _ _ (@ae _ _ _ _ _ _ ah (@ae _ _ _ _ _ _ ah ag (by kernel_rfl)) (by kernel_rfl))) ag (by kernel_rfl)) (by kernel_rfl)) (by kernel_rfl)) (by kernel_rfl)) (by kernel_rfl))) (@ae _ _ _ _ _ _ (@aJ _ _ _ _ _ _ (@ae _ _ _ _ _ _ ah (@ae _ _ _ _ _ _ a6 (@ae _ _ _ _ _ _ ah (@ae _ _ _ _ _ _ a6 (@ae _ _ _ _ _ _ (@aJ _ _ _ _ _ _ (@ae _ _ _ _ _ _ ah (@ae _ _ _ _ _ _ ah ag (by kernel_rfl)) (by kernel_rfl))) ag (by kernel_rfl)) (by kernel_rfl)) (by kernel_rfl)) (by kernel_rfl)) (by kernel_rfl))) ag (by kernel_rfl)) (by kernel_rfl))))) (by kernel_rfl) (by first | exact .inl rfl | exact .inr rfl)) (@ai _ _ _ _ _ (@az _ _ _ 4 _ _ _ bK.nd rfl (by walk_at "o") (@av _ _ _ (@au _ _ _ _ _ _ _ _ aZ (@au _ _ _ _ _ _ _ _ aZ (af 4) (@bf _ _ _ _ _ (@ae _ _ _ _ _ _ (@aJ _ _ _ _ _ _ (@ae _ _ _ _ _ _ ah (@ae _ _ _ _ _ _ a6 (@ae _ _ _ _ _ _ ah (@ae _ _ _ _ _ _ a6 (@ae _ _ _ _ _ _ m8 ag (by kernel_rfl)) (by kernel_rfl)) (by kernel_rfl)) (by kernel_rfl)) (by kernel_rfl))) (@ae _ _ _ _ _ _ (@aJ _ _ _ _ _ _ (@ae _ _ _ _ _ _ a6 (@ae _ _ _ _ _ _ a6 (@ae _ _ _ _ _ _ ah (@ae _ _ _ _ _ _ a6 (@ae _ _ _ _ _ _ (@aJ _ _ _ _ _ _ (@ae _ _ _ _ _ _ ah (@ae _ _ _ _ _ _ ah ag (by kernel_rfl)) (by kernel_rfl))) ag (by kernel_rfl)) (by kernel_rfl)) (by kernel_rfl)) (by kernel_rfl)) (by kernel_rfl))) ag (by kernel_rfl)) (by kernel_rfl)))) (af 1))) (by kernel_rfl) (by first | exact .inl rfl | exact .inr rfl)) (@ai _ _ _ _ _ (@az _ _ _ 4 _ _ _ bK.nd rfl (by walk_at "o") (@av _ _ _ (@au _ _ _ _ _ _ _ _ aZ (af 4) (@bf _ _ _ _ _ (@ae _ _ _ _ _ _ (@aJ _ _ _ _ _ _ (@ae _ _ _ _ _ _ ah (@ae _ _ _ _ _ _ a6 (@ae _ _ _ _ _ _ ah (@ae _ _ _ _ _ _ a6 (@ae _ _ _ _ _ _ (@aJ _ _ _ _ _ _ (@ae _ _ _ _ _ _ (D3 ah) (@ae _ _ _ _ _ _ ah ag (by kernel_rfl)) (by kernel_rfl))) ag (by kernel_rfl)) (by kernel_rfl)) (by kernel_rfl)) (by kernel_rfl)) (by kernel_rfl))) (@ae _ _ _ _ _ _ (@aJ _ _ _ _ _ _ (@ae _ _ _ _ _ _ ah (@ae _ _ _ _ _ _ (@av _ _ _ (@bf _ _ _ _ _ (@ae _ _ _ _ _ _ a6 ag (by kernel_rfl)))) (@ae _ _ _ _ _ _ ah (@ae _ _ _ _ _ _ a6 (@ae _ _ _ _ _ _ (@aJ _ _ _ _ _ _ (@ae _ _ _ _ _ _ ah (@ae _ _ _ _ _ _ ah ag (by kernel_rfl)) (by kernel_rfl))) ag (by kernel_rfl)) (by kernel_rfl)) (by kernel_rfl)) (by kernel_rfl)) (by kernel_rfl))) (@ae _ _ _ _ _ _ (@aJ _ _ _ _ _ _ (@ae _ _ _ _ _ _ ah (@ae _ _ _ _ _ _ a6 (@ae _ _ _ _ _ _ ah (@ae _ _ _ _ _ _ rg (@ae _ _ _ _ _ _ (@aJ _ _ _ _ _ _ (@ae _ _ _ _ _ _ ah (@ae _ _ _ _ _ _ ah ag (by kernel_rfl)) (by kernel_rfl))) ag (by kernel_rfl)) (by kernel_rfl)) (by kernel_rfl)) (by kernel_rfl)) (by kernel_rfl))) ag (by kernel_rfl)) (by kernel_rfl)) (by kernel_rfl))))) (by kernel_rfl) (by first | exact .inl rfl | exact .inr rfl)) (@ai _ _ _ _ _ (@az _ _ _ 4 _ _ _ bK.nd rfl (by walk_at "o") (@av _ _ _ (@au _ _ _ _ _ _ _ _ aZ (af 4) (@bf _ _ _ _ _ (@ae _ _ _ _ _ _ (@aJ _ _ _ _ _ _ (@ae _ _ _ _ _ _ (@av _ _ _ (@bf _ _ _ _ _ (@ae _ _ _ _ _ _ ah ag (by kernel_rfl)))) (@ae _ _ _ _ _ _ a6 (@ae _ _ _ _ _ _ ah (@ae _ _ _ _ _ _ a6 (@ae _ _ _ _ _ _ (@aJ _ _ _ _ _ _ (@ae _ _ _ _ _ _ ah (@ae _ _ _ _ _ _ ah ag (by kernel_rfl)) (by kernel_rfl))) ag (by kernel_rfl)) (by kernel_rfl)) (by kernel_rfl)) (by kernel_rfl)) (by kernel_rfl))) (@ae _ _ _ _ _ _ (@aJ _ _ _ _ _ _ (@ae _ _ _ _ _ _ ah (@ae _ _ _ _ _ _ a6 (@ae _ _ _ _ _ _ rg (@ae _ _ _ _ _ _ a6 (@ae _ _ _ _ _ _ (@aJ _ _ _ _ _ _ (@ae _ _ _ _ _ _ ah (@ae _ _ _ _ _ _ ah ag (by kernel_rfl)) (by kernel_rfl))) ag (by kernel_rfl)) (by kernel_rfl)) (by kernel_rfl)) (by kernel_rfl)) (by kernel_rfl))) (@ae _ _ _ _ _ _ (@aJ _ _ _ _ _ _ (@ae _ _ _ _ _ _ ah (@ae _ _ _ _ _ _ a6 (@ae _ _ _ _ _ _ ah (@ae _ _ _ _ _ _ a6 (@ae _ _ _ _ _ _ (@av _ _ _ (@bf _ _ _ _ _ (@ae _ _ _ _ _ _ ah (@ae _ _ _ _ _ _ ah ag (by kernel_rfl)) (by kernel_rfl)))) ag (by kernel_rfl)) (by kernel_rfl)) (by kernel_rfl)) (by kernel_rfl)) (by kernel_rfl))) ag (by kernel_rfl)) (by kernel_rfl)) (by kernel_rfl))))) (by kernel_rfl) (by first | exact .inl rfl | exact .inr rfl)) (@ai _ _ _ _ _ (@bW _ _ _ _ _ _ _ _ (Ni (fH hr.units) (af 2) ah (aW _)) (@aq _ _ _ (@aD _ _ _ _ (@av _ _ _ (@au _ _ _ _ _ _ _ _ aZ (@au _ _ _ _ _ _ _ _ aZ (@cb _ _ _ _ _ _ _ _ _ (af 1) trivial (af 3)) (@bf _ _ _ _ _ (@ae _ _ _ _ _ _ (@ay _ _ _ _ _ _ (af 4) (bC (aG T) T.x__law_take hr 0 0 (a7 0 (@ae _ _ _ _ _ _ (@av _ _ _ (aQ dQ rfl T.z_len (by decide +kernel) (@ae _ _ _ _ _ _ (af 4) ag (by kernel_rfl)))) ag (by kernel_rfl)))) (λ_ _=>rfl)) ag (by kernel_rfl)))) (@cb _ _ _ _ _ _ _ _ _ (af 1) (af 3) trivial))))) aU) (@ai _ _ _ _ _ (@bW _ _ _ _ _ _ _ _ (Ni (fH hr.units) (af 2) ah (aW _)) (@aq _ _ _ (@aD _ _ _ _ (@av _ _ _ (@au _ _ _ _ _ _ _ _ aZ (@cb _ _ _ _ _ _ _ _ _ (af 1) trivial (af 3)) (@cb _ _ _ _ _ _ _ _ _ (af 1) (@au _ _ _ _ _ _ _ _ aZ (af 3) ah) trivial))))) aU) (@ai _ _ _ _ _ (@bW _ _ _ _ _ _ _ _ (Ng.pb (oF (Ni Fz (af 2) ah (aW _)) (nV (Ni (IS hr.units) (af 1) (@bf _ _ _ _ _ ag) (aW _))))) (@ai _ _ _ _ _ (@az _ _ _ 3 _ _ _ bK.nd rfl (by walk_at "o") (@au _ _ _ _ _ _ _ _ cK (af 3) (aQ dQ rfl T.z_len (by decide +kernel) (@ae _ _ _ _ _ _ (af 1) ag (by kernel_rfl)))) (by kernel_rfl) (by first | exact .inl rfl | exact .inr rfl)) (@aq _ _ _ (@aD _ _ _ _ (@av _ _ _ (@au _ _ _ _ _ _ _ _ aZ (@au _ _ _ _ _ _ _ _ aZ (@cb _ _ _ _ _ _ _ _ _ (af 1) trivial (af 3)) (@bf _ _ _ _ _ (@ae _ _ _ _ _ _ (@av _ _ _ (bC (pL T) T.x__law_stepped hr 0 0 (a7 0 (@ae _ _ _ _ _ _ (@ay _ _ _ _ _ _ (af 1) (af 3) (λ_ _=>rfl)) ag (by kernel_rfl))))) ag (by kernel_rfl)))) (@cb _ _ _ _ _ _ _ _ _ (af 1) (@au _ _ _ _ _ _ _ _ aZ (af 3) ah) trivial)))))) aU) (@aq _ _ _ (@aD _ _ _ _ (@av _ _ _ (@au _ _ _ _ _ _ _ _ aZ (@cb _ _ _ _ _ _ _ _ _ (af 1) trivial (af 3)) (@cb _ _ _ _ _ _ _ _ _ (af 1) (aQ (Ai rfl) rfl T.z_max (by decide +kernel) (@ae _ _ _ _ _ _ ah (@ae _ _ _ _ _ _ (@au _ _ _ _ _ _ _ _ eM (af 3) ah) ag (by kernel_rfl)) (by kernel_rfl))) trivial)))))))))))))))))
  si
theorem cT:aF wx ["_law_ring_here","_law_sending","_law_thing"] (ar ky):=⟨rfl,rfl,rfl,by decide +kernel,rfl,by decide +kernel,by decide +kernel⟩
theorem va(T:Tx K mg ad fd):FnOk P w K mg base CX0 8 (ad 42) (fd 42) ["_law_ring_here","_law_sending","_law_thing"] (spF K 3 jr) :=
 br (k:=7) T.x__law_told.f cT hJ (λcdv A outer s H E hr=>(ai (az (i:=3) cT.nd rfl (by walk_at "o") m8)
  (ai (CZ (i:=4) rfl rfl T.h_LoadError rfl cT.nd rfl rfl (by walk_at "o") (λ_ _ xt=>(CY (Gd (i:=3) cT.nd rfl (by walk_at "o") (Gj (xE (IK a6) (xE (Gc (IM (mZ T) T.x_slid_by hr (ae (af 0) (ae (af 1) (ae (af 2) ag))))) C5)))))) (λ_=>(ai (az (i:=5) cT.nd rfl (by walk_at "o") (av (Gf (fm T.h_NoChange rfl (fm T.h_NoName rfl (fm T.h_NoNumber rfl (fm T.h_NoPlace rfl (fm T.h_NoRing rfl (fm T.h_NoString rfl (fm T.h_NoText rfl (fm T.h_NoTree rfl Ge)))))))) rfl T.z_isinstance (af 4))))
  (aq (bW (Ng.pb (oF (bD (IL T.h_NoSlide rfl T.z_isinstance rfl (af 4))) (oF (cI (bD (af 5))) (nV (cI (bD (dR nW rfl T.z_isinstance rfl T.z_bool (by decide +kernel) (Eb (af 4))))))))) (aq (az (i:=3) cT.nd rfl (by walk_at "o") (bf (ae a6 (ae (Eb (af 4)) ag))))) aU)))))
  (aq (aD (eK 3))))))
  sj
theorem bL:aF wy ["_law_sending","_law_slide"] (ar kA):=⟨rfl,rfl,rfl,by decide +kernel,rfl,by decide +kernel,by decide +kernel⟩
theorem vb(T:Tx K mg ad fd):FnOk P w K mg base CX0 3 (ad 43) (fd 43) ["_law_sending","_law_slide"] (spF K 2 jt) :=
 br (k:=2) T.x__law_slid.f bL kU (λcdv A outer s H E hr=>(ai (oP (ig rfl (aK (i:=2) bL.nd rfl (by walk_at "o") (aK (i:=3) bL.nd rfl (by walk_at "o") (aK (i:=4) bL.nd rfl (by walk_at "o") (aK (i:=5) bL.nd rfl (by walk_at "o") (aK (i:=6) bL.nd rfl (by walk_at "o") d6)))))) (af 1))
  (ai (az (i:=7) bL.nd rfl (by walk_at "o") (eN qN rfl T.z_list (by decide +kernel) (ae (af 0) ag)))
  (ai (fY PassesOwn.never rfl (fG (bf (ae (aJ (ae (af 2) (ae (af 3) ag))) (ae (aJ (ae (af 4) (ae (af 5) ag))) ag)))) (ig rfl (aK (i:=8) bL.nd rfl (by walk_at "o") (aK (i:=9) bL.nd rfl (by walk_at "o") d6))) (aq (bW (Ni (fH hr.units) (af 9) a6 (aW _)) (aq (ke 7 (af 8) (aT (nB T) T.x__law_plus hr (ae (ij (iS 7 (af 8) (λ_ _=>rfl)) (ay (af 7) (af 8) (λ_ _=>rfl))) (ae (af 6) ag))))) (aq (ke 7 (af 8) (aT (eF T) T.x__law_minus hr (ae (ij (iS 7 (af 8) (λ_ _=>rfl)) (ay (af 7) (af 8) (λ_ _=>rfl))) (ae (af 6) ag))))))))
  (aq (aD (eK 7)))))))
  sq
theorem bT:aF wz ["_law_ring_here","_law_k","_law_way"] (ar kB):=⟨rfl,rfl,rfl,by decide +kernel,rfl,by decide +kernel,by decide +kernel⟩
theorem nD(T:Tx K mg ad fd):FnOk P w K mg base CX0 1 (ad 44) (fd 44) ["_law_ring_here","_law_k","_law_way"] (spF K 3 fz) :=
 br (k:=0) T.x__law_ties.f bT kW (λcdv A outer s H E hr=>(ai (oP (ig rfl (aK (i:=3) bT.nd rfl (by walk_at "o") (aK (i:=4) bT.nd rfl (by walk_at "o") (aK (i:=5) bT.nd rfl (by walk_at "o") (aK (i:=6) bT.nd rfl (by walk_at "o") d6))))) (ay (ay (af 0) ah (λ_ _=>rfl)) (af 1) (λ_ _=>rfl)))
  (ai (bW (Ni (fH hr.units) (af 2) a6 (aW _)) (aq (D6 (i:=4) (j:=5) rfl bT.nd rfl rfl (by decide) rfl rfl (af 5) (af 4) rfl)) aU)
  (ai (az (i:=7) bT.nd rfl (by walk_at "o") (bf ag))
  (ai (lh PassesOwn.never (Ni (pQ hr.units) (af 4) (af 5) (aW _)) (ai (oG (iR 7 (af 4)))
  (aq (az (i:=4) bT.nd rfl (by walk_at "o") (au cK (au aZ (af 4) ah) (aQ dQ rfl T.z_len (by decide +kernel) (ae (ay (af 0) ah (λ_ _=>rfl)) ag)))))))
  (aq (aD (eK 7))))))))
  sr
theorem sJ:aF uF ["_law_one","_law_other"] (ar jb):=⟨rfl,rfl,rfl,by decide +kernel,rfl,by decide +kernel,by decide +kernel⟩
theorem sL(T:Tx K mg ad fd):FnOk P w K mg base CX0 1 (ad 45) (fd 45) ["_law_one","_law_other"] (spF K 2 hX) :=
 br (k:=0) T.x__law_under.f sJ ju (λcdv A outer s H E hr=>(aq (aD (fX mx (au bj (ay (af 0) ah (λ_ _=>rfl)) (ay (af 1) ah (λ_ _=>rfl))) (au bj (ay (af 1) ah (λ_ _=>rfl)) (ay (af 0) ah (λ_ _=>rfl))) (aW _)))))
  p8
theorem vc:aF wB ["_law_ring_here","_law_sending","_law_k","_law_way"] (ar kC):=⟨rfl,rfl,rfl,by decide +kernel,rfl,by decide +kernel,by decide +kernel⟩
theorem vd(T:Tx K mg ad fd):FnOk P w K mg base CX0 3 (ad 46) (fd 46) ["_law_ring_here","_law_sending","_law_k","_law_way"] (spF K 4 jv) :=
 br (k:=2) T.x__law_gone.f vc kX (λcdv A outer s H E hr=>(ai (bW (Ni (fH hr.units) (af 3) a6 (aW _)) (aq (aD (ay (af 1) (af 2) (λ_ _=>rfl)))) aU)
  (aq (aD (aT (eF T) T.x__law_minus hr (ae (ay (ay (ay (af 0) ah (λ_ _=>rfl)) (af 2) (λ_ _=>rfl)) ah (λ_ _=>rfl)) (ae (ay (af 1) (af 2) (λ_ _=>rfl)) ag)))))))
  su
theorem aM:aF jc ["_law_ring_here","_law_sending","_law_thing"] (ar cW):=⟨rfl,rfl,rfl,by decide +kernel,rfl,by decide +kernel,by decide +kernel⟩
theorem nT(T:Tx K mg ad fd):FnOk P w K mg base CX0 4 (ad 47) (fd 47) ["_law_ring_here","_law_sending","_law_thing"] (spF K 3 eg) :=
 br (k:=3) T.x__law_is_slide.f aM fb (λcdv A outer s H E hr=>by exact(@ai _ _ _ _ _ (@bW _ _ _ _ _ _ _ _ (Ng.pb (eL (cI (bD (dR iU rfl T.z_isinstance rfl T.z_tuple (by decide +kernel) (af 2)))) (d5 (Ni (pQ hr.units) (aQ dQ rfl T.z_len (by decide +kernel) (@ae _ _ _ _ _ _ (af 2) ag (by kernel_rfl))) ah (aW _))))) (@aq _ _ _ (@aD _ _ _ _ jM)) aU) (@ai _ _ _ _ _ (oP (ig rfl (aK (i:=3) aM.nd rfl (by walk_at "o") (aK (i:=4) aM.nd rfl (by walk_at "o") (aK (i:=5) aM.nd rfl (by walk_at "o") (aK (i:=6) aM.nd rfl (by walk_at "o") (aK (i:=7) aM.nd rfl (by walk_at "o") d6)))))) (af 2)) (@ai _ _ _ _ _ (fY PassesOwn.never rfl (fG (@bf _ _ _ _ _ (@ae _ _ _ _ _ _ (@aJ _ _ _ _ _ _ (@ae _ _ _ _ _ _ (af 3) (@ae _ _ _ _ _ _ (af 4) ag (by kernel_rfl)) (by kernel_rfl))) (@ae _ _ _ _ _ _ (@aJ _ _ _ _ _ _ (@ae _ _ _ _ _ _ (af 5) (@ae _ _ _ _ _ _ (af 6) ag (by kernel_rfl)) (by kernel_rfl))) ag (by kernel_rfl)) (by kernel_rfl)))) (ig rfl (aK (i:=8) aM.nd rfl (by walk_at "o") (aK (i:=9) aM.nd rfl (by walk_at "o") d6))) (@ai _ _ _ _ _ (@bW _ _ _ _ _ _ _ _ (Ng.pb (eL (cI (bD (dR vB rfl T.z_isinstance rfl T.z_int (by decide +kernel) (af 8)))) (eL (bD (dR nW rfl T.z_isinstance rfl T.z_bool (by decide +kernel) (af 8))) (d5 (cI (CJ Il Ik ah (af 8) (aQ dQ rfl T.z_len (by decide +kernel) (@ae _ _ _ _ _ _ (@ay _ _ _ _ _ _ (af 0) ah (λ_ _=>rfl)) ag (by kernel_rfl))))))))) (@aq _ _ _ (@aD _ _ _ _ jM)) aU) (@aq _ _ _ (@bW _ _ _ _ _ _ _ _ (Ng.pb (eL (cI (bD (dR An rfl T.z_isinstance rfl T.z_str (by decide +kernel) (af 9)))) (d5 (Ni xf (af 9) (@aJ _ _ _ _ _ _ (@ae _ _ _ _ _ _ a6 (@ae _ _ _ _ _ _ a6 ag (by kernel_rfl)) (by kernel_rfl))) rfl)))) (@aq _ _ _ (@aD _ _ _ _ jM)) aU)))) (@ai _ _ _ _ _ (@bW _ _ _ _ _ _ _ _ (Ng.pb (eL (Ni (fH hr.units) (af 3) (af 5) (aW _)) (eL (cI (bD (aT (iB T) T.x__law_is_ratio hr (@ae _ _ _ _ _ _ (af 7) ag (by kernel_rfl))))) (d5 (Ni J8 (@ay _ _ _ _ _ _ (af 7) ah (λ_ _=>rfl)) ah (aW _)))))) (@aq _ _ _ (@aD _ _ _ _ jM)) aU) (@ai _ _ _ _ _ (fY PassesOwn.never rfl (fG (@bf _ _ _ _ _ (@ae _ _ _ _ _ _ (@aJ _ _ _ _ _ _ (@ae _ _ _ _ _ _ (af 3) (@ae _ _ _ _ _ _ (af 4) ag (by kernel_rfl)) (by kernel_rfl))) (@ae _ _ _ _ _ _ (@aJ _ _ _ _ _ _ (@ae _ _ _ _ _ _ (af 5) (@ae _ _ _ _ _ _ (af 6) ag (by kernel_rfl)) (by kernel_rfl))) ag (by kernel_rfl)) (by kernel_rfl)))) (ig rfl (aK (i:=8) aM.nd rfl (by walk_at "o") (aK (i:=9) aM.nd rfl (by walk_at "o") d6))) (@ai _ _ _ _ _ (@az _ _ _ 10 _ _ _ aM.nd rfl (by walk_at "o") (@av _ _ _ (aT (eF T) T.x__law_minus hr (@ae _ _ _ _ _ _ (@ay _ _ _ _ _ _ (@ay _ _ _ _ _ _ (@ay _ _ _ _ _ _ (af 0) ah (λ_ _=>rfl)) (af 8) (λ_ _=>rfl)) ah (λ_ _=>rfl)) (@ae _ _ _ _ _ _ (@av _ _ _ (aT (vd T) T.x__law_gone hr (@ae _ _ _ _ _ _ (af 0) (@ae _ _ _ _ _ _ (af 1) (@ae _ _ _ _ _ _ (af 8) (@ae _ _ _ _ _ _ (af 9) ag (by kernel_rfl)) (by kernel_rfl)) (by kernel_rfl)) (by kernel_rfl)))) ag (by kernel_rfl)) (by kernel_rfl)))) (by kernel_rfl) (by first | exact .inl rfl | exact .inr rfl)) (@aq _ _ _ (@bW _ _ _ _ _ _ _ _ (bD (aT (sL T) T.x__law_under hr (@ae _ _ _ _ _ _ (af 10) (@ae _ _ _ _ _ _ (af 7) ag (by kernel_rfl)) (by kernel_rfl)))) (@aq _ _ _ (@aD _ _ _ _ jM)) aU)))) (@ai _ _ _ _ _ (@az _ _ _ 11 _ _ _ aM.nd rfl (by walk_at "o") (@av _ _ _ (aT (nD T) T.x__law_ties hr (@ae _ _ _ _ _ _ (af 0) (@ae _ _ _ _ _ _ (af 5) (@ae _ _ _ _ _ _ (af 6) ag (by kernel_rfl)) (by kernel_rfl)) (by kernel_rfl)))) (by kernel_rfl) (by first | exact .inl rfl | exact .inr rfl)) (@aq _ _ _ (@aD _ _ _ _ (fX (fH hr.units) (iT (sc:=(ar cW)) (N:=jc) (Nt:=[ "_law_tie" ]) (Nf:=[ "_law_ties_here" ]) (fi:=[11]) rfl rfl rfl (fG (aT (nD T) T.x__law_ties hr (@ae _ _ _ _ _ _ (af 0) (@ae _ _ _ _ _ _ (af 3) (@ae _ _ _ _ _ _ (af 4) ag (by kernel_rfl)) (by kernel_rfl)) (by kernel_rfl)))) rfl (by decide +kernel) (by decide +kernel) (by decide +kernel) (by decide) rfl (by decide +kernel) (by decide) (λ_ _ _ _=>(kf (by decide) (show(([ "_law_tie" ]:List Str)++([ "_law_ties_here" ]:List Str)).Nodup by decide +kernel) rfl (Or.inl rfl))) (λ_ _ _ _=>(vz (Ni FH (af 0) (af 1) rfl))) (λ_ _ _ _=>(af 0))) (@bf _ _ _ _ _ ag) (aW _)))))))))))
  mU
theorem fj:aF zb ["_law_ring_here","_law_sending","_law_thing"] (ar mN):=⟨rfl,rfl,rfl,by decide +kernel,rfl,by decide +kernel,by decide +kernel⟩
theorem wU(T:Tx K mg ad fd):FnOk P w K mg base CX0 5 (ad 48) (fd 48) ["_law_ring_here","_law_sending","_law_thing"] (spF K 3 kY) :=
 br (k:=4) T.x__law_due.f fj mV (λcdv A outer s H E hr=>(ai (bW (cI (bD (dR qV rfl T.z_isinstance rfl T.z_list (by decide +kernel) (af 2)))) (aq (aD (bf (ae a6 (ae m8 ag))))) aU)
  (ai (az (i:=3) fj.nd rfl (by walk_at "o") (av (eN qN rfl T.z_list (by decide +kernel) (ae (af 1) ag))))
  (ai (fY PassesOwn.never rfl (nX rfl T.z_enumerate (af 2)) (ig rfl (aK (i:=4) fj.nd rfl (by walk_at "o") (aK (i:=5) fj.nd rfl (by walk_at "o") d6))) (ai (bW (cI (bD (aT (nT T) T.x__law_is_slide hr (ae (af 0) (ae (af 3) (ae (af 5) ag)))))) (aq (aD (bf (ae a6 (ae (af 4) ag))))) aU)
  (aq (az (i:=3) fj.nd rfl (by walk_at "o") (av (aT (vb T) T.x__law_slid hr (ae (af 3) (ae (af 5) ag))))))))
  (aq (aD (bf (ae a6 (ae (af 3) ag)))))))))
  uX
theorem fE:aF Jw ["_law_script"] (ar Bv):=⟨rfl,rfl,rfl,by decide +kernel,rfl,by decide +kernel,by decide +kernel⟩
theorem JD(T:Tx K mg ad fd):FnOk P w K mg base CX0 9 (ad 49) (fd 49) ["_law_script"] (spF K 1 fs_law) :=
 br (k:=8) T.x_law.f fE G1 (λcdv A outer s H E hr=>by exact(@ai _ _ _ _ _ (@az _ _ _ 1 _ _ _ fE.nd rfl (by walk_at "o") (@av _ _ _ (aT (u7 T) T.x__law_ring hr (@ae _ _ _ _ _ _ (af 0) (@ae _ _ _ _ _ _ ah (@ae _ _ _ _ _ _ ah (@ae _ _ _ _ _ _ ah ag (by kernel_rfl)) (by kernel_rfl)) (by kernel_rfl)) (by kernel_rfl)))) (by kernel_rfl) (by first | exact .inl rfl | exact .inr rfl)) (@ai _ _ _ _ _ (@az _ _ _ 2 _ _ _ fE.nd rfl (by walk_at "o") (@av _ _ _ (aQ dQ rfl T.z_len (by decide +kernel) (@ae _ _ _ _ _ _ (@ay _ _ _ _ _ _ (af 1) ah (λ_ _=>rfl)) ag (by kernel_rfl)))) (by kernel_rfl) (by first | exact .inl rfl | exact .inr rfl)) (@ai _ _ _ _ _ (@az _ _ _ 3 _ _ _ fE.nd rfl (by walk_at "o") (@av _ _ _ (@bf _ _ _ _ _ (@ae _ _ _ _ _ _ (@aJ _ _ _ _ _ _ (@ae _ _ _ _ _ _ a6 (@ae _ _ _ _ _ _ ah (@ae _ _ _ _ _ _ (@au _ _ _ _ _ _ _ _ eM (af 2) ah) (@ae _ _ _ _ _ _ (@aJ _ _ _ _ _ _ (@ae _ _ _ _ _ _ ah (@ae _ _ _ _ _ _ ah ag (by kernel_rfl)) (by kernel_rfl))) ag (by kernel_rfl)) (by kernel_rfl)) (by kernel_rfl)) (by kernel_rfl))) (@ae _ _ _ _ _ _ (@aJ _ _ _ _ _ _ (@ae _ _ _ _ _ _ a6 (@ae _ _ _ _ _ _ ah (@ae _ _ _ _ _ _ ah (@ae _ _ _ _ _ _ (@aJ _ _ _ _ _ _ (@ae _ _ _ _ _ _ ah (@ae _ _ _ _ _ _ ah ag (by kernel_rfl)) (by kernel_rfl))) ag (by kernel_rfl)) (by kernel_rfl)) (by kernel_rfl)) (by kernel_rfl))) ag (by kernel_rfl)) (by kernel_rfl)))) (by kernel_rfl) (by first | exact .inl rfl | exact .inr rfl)) (@ai _ _ _ _ _ (@az _ _ _ 1 _ _ _ fE.nd rfl (by walk_at "o") (@aJ _ _ _ _ _ _ (@ae _ _ _ _ _ _ (@ay _ _ _ _ _ _ (af 1) ah (λ_ _=>rfl)) (@ae _ _ _ _ _ _ (@av _ _ _ (@au _ _ _ _ _ _ _ _ aZ (iT (sc:=(ar Bv)) (N:=Jw) (Nt:=[ "_law_ask" ]) (Nf:=[]) (fi:=[]) rfl rfl rfl (fG (@ay _ _ _ _ _ _ (af 1) ah (λ_ _=>rfl))) rfl (by decide +kernel) (by decide +kernel) (by decide +kernel) (by decide) rfl (by decide +kernel) (by decide) (λ_ _ _ _=>(kf (by decide) (show(([ "_law_ask" ]:List Str)++([]:List Str)).Nodup by decide +kernel) rfl (Or.inl rfl))) (λ_ _ _ _=>(vz (Ni xf (@ay _ _ _ _ _ _ (af 0) ah (λ_ _=>rfl)) (@aJ _ _ _ _ _ _ (@ae _ _ _ _ _ _ a6 (@ae _ _ _ _ _ _ a6 ag (by kernel_rfl)) (by kernel_rfl))) rfl))) (λ_ _ _ _=>(af 0))) (af 3))) ag (by kernel_rfl)) (by kernel_rfl))) (by kernel_rfl) (by first | exact .inl rfl | exact .inr rfl)) (@ai _ _ _ _ _ (@az _ _ _ 4 _ _ _ fE.nd rfl (by walk_at "o") (@av _ _ _ (aT (sH T) T.x__law_parts hr (@ae _ _ _ _ _ _ (aT (cZ T) T.x__law_begun hr (@ae _ _ _ _ _ _ (af 0) (@ae _ _ _ _ _ _ ah ag (by kernel_rfl)) (by kernel_rfl))) (@ae _ _ _ _ _ _ (af 1) ag (by kernel_rfl)) (by kernel_rfl)))) (by kernel_rfl) (by first | exact .inl rfl | exact .inr rfl)) (@ai _ _ _ _ _ (@az _ _ _ 5 _ _ _ fE.nd rfl (by walk_at "o") (@av _ _ _ (aT (sE T) T.x_slides_for hr (@ae _ _ _ _ _ _ (af 1) (@ae _ _ _ _ _ _ (af 4) ag (by kernel_rfl)) (by kernel_rfl)))) (by kernel_rfl) (by first | exact .inl rfl | exact .inr rfl)) (@ai _ _ _ _ _ (@az _ _ _ 6 _ _ _ fE.nd rfl (by walk_at "o") (@av _ _ _ (aQ (n6 hr) rfl T.z_repr (by decide +kernel) (@ae _ _ _ _ _ _ (@aJ _ _ _ _ _ _ (@ae _ _ _ _ _ _ (af 1) (@ae _ _ _ _ _ _ (af 4) ag (by kernel_rfl)) (by kernel_rfl))) ag (by kernel_rfl)))) (by kernel_rfl) (by first | exact .inl rfl | exact .inr rfl)) (@ai _ _ _ _ _ (@az _ _ _ 7 _ _ _ fE.nd rfl (by walk_at "o") (@av _ _ _ (Ed (mZ T) T.x_slid_by hr Ec (@ae _ _ _ _ _ _ (af 1) (@ae _ _ _ _ _ _ (af 4) (@ae _ _ _ _ _ _ (af 5) ag (by kernel_rfl)) (by kernel_rfl)) (by kernel_rfl)))) (by kernel_rfl) (by first | exact .inl rfl | exact .inr rfl)) (@ai _ _ _ _ _ (fY PassesOwn.never rfl (CA rfl T.z_range ah (aQ (Ai rfl) rfl T.z_max (by decide +kernel) (@ae _ _ _ _ _ _ ah (@ae _ _ _ _ _ _ (@av _ _ _ (aQ (Aj rfl) rfl T.z_min (by decide +kernel) (@ae _ _ _ _ _ _ (@av _ _ _ (aQ dQ rfl T.z_len (by decide +kernel) (@ae _ _ _ _ _ _ (af 0) ag (by kernel_rfl)))) (@ae _ _ _ _ _ _ ah ag (by kernel_rfl)) (by kernel_rfl)))) ag (by kernel_rfl)) (by kernel_rfl)))) (mw (i:=8) fE.nd rfl (by walk_at "o")) (@ai _ _ _ _ _ (@az _ _ _ 9 _ _ _ fE.nd rfl (by walk_at "o") (aT (cZ T) T.x__law_begun hr (@ae _ _ _ _ _ _ (af 0) (@ae _ _ _ _ _ _ (af 8) ag (by kernel_rfl)) (by kernel_rfl))) (by kernel_rfl) (by first | exact .inl rfl | exact .inr rfl)) (@ai _ _ _ _ _ (@az _ _ _ 10 _ _ _ fE.nd rfl (by walk_at "o") (@av _ _ _ (bC (nC T) T.x__law_bent hr 0 9 (a7 9 (@ae _ _ _ _ _ _ (af 5) ag (by kernel_rfl))))) (by kernel_rfl) (by first | exact .inl rfl | exact .inr rfl)) (@ai _ _ _ _ _ (@bW _ _ _ _ _ _ _ _ (Ng.pb (oF (bD (dR qV rfl T.z_isinstance rfl T.z_list (by decide +kernel) (af 10))) (nV (Ni (fH hr.units) (bC (aG T) T.x__law_take hr 0 9 (a7 9 (@ae _ _ _ _ _ _ ah ag (by kernel_rfl)))) ah (aW _))))) (@aq _ _ _ (@az _ _ _ 10 _ _ _ fE.nd rfl (by walk_at "o") (@av _ _ _ (bC (nC T) T.x__law_bent hr 0 9 (a7 9 (@ae _ _ _ _ _ _ (af 10) ag (by kernel_rfl))))) (by kernel_rfl) (by first | exact .inl rfl | exact .inr rfl))) aU) (@ai _ _ _ _ _ (@az _ _ _ 11 _ _ _ fE.nd rfl (by walk_at "o") (@av _ _ _ (aQ (n6 hr) rfl T.z_repr (by decide +kernel) (@ae _ _ _ _ _ _ (af 10) ag (by kernel_rfl)))) (by kernel_rfl) (by first | exact .inl rfl | exact .inr rfl)) (@ai _ _ _ _ _ (@bW _ _ _ _ _ _ _ _ (Ng.pb (eL (Ni (pQ hr.units) (aT (va T) T.x__law_told hr (@ae _ _ _ _ _ _ (af 1) (@ae _ _ _ _ _ _ (af 4) (@ae _ _ _ _ _ _ (af 10) ag (by kernel_rfl)) (by kernel_rfl)) (by kernel_rfl))) (aT (wU T) T.x__law_due hr (@ae _ _ _ _ _ _ (af 1) (@ae _ _ _ _ _ _ (af 4) (@ae _ _ _ _ _ _ (af 10) ag (by kernel_rfl)) (by kernel_rfl)) (by kernel_rfl))) (aW _)) (d5 (Ni Ea (aQ (n6 hr) rfl T.z_repr (by decide +kernel) (@ae _ _ _ _ _ _ (af 10) ag (by kernel_rfl))) (af 11) (aW _))))) (@aq _ _ _ (@aD _ _ _ _ jM)) aU) (@aq _ _ _ (@bW _ _ _ _ _ _ _ _ (Ng.pb (eL (Ni (pQ hr.units) (Ed (mZ T) T.x_slid_by hr Ec (@ae _ _ _ _ _ _ (af 1) (@ae _ _ _ _ _ _ (af 4) (@ae _ _ _ _ _ _ (af 5) ag (by kernel_rfl)) (by kernel_rfl)) (by kernel_rfl))) (af 7) (aW _)) (d5 (Ni Ea (aQ (n6 hr) rfl T.z_repr (by decide +kernel) (@ae _ _ _ _ _ _ (@aJ _ _ _ _ _ _ (@ae _ _ _ _ _ _ (af 1) (@ae _ _ _ _ _ _ (af 4) ag (by kernel_rfl)) (by kernel_rfl))) ag (by kernel_rfl))) (af 6) (aW _))))) (@aq _ _ _ (@aD _ _ _ _ jM)) aU)))))))) (@aq _ _ _ (@aD _ _ _ _ jM))))))))))))
  G3
end
noncomputable def QA(i:Nat):Addr:=([21,191,198,205,212,220,227,234,241,248,255,262,269,274,281,288,293,347,340,319,314,326,333,307,300,368,361,354,375,382,401,389,396,408,415,422,429,464,436,443,504,511,490,483,457,450,471,476,497,516]:List Addr).getD i 0
noncomputable abbrev QB:Value:=(.str "ringloads.divisors" 187)
noncomputable abbrev QC:Value:=(.str "ringloads.names" 417)
noncomputable abbrev QD:Value:=(.str "ringloads.ratios" 448)
noncomputable abbrev QE:Value:=(.str "ringloads.crossing" 494)
noncomputable abbrev QF:Value:=(.str "ringloads.ways" 542)
noncomputable abbrev QG:Value:=(.str "ringloads.slides" 561)
noncomputable abbrev QH:Value:=(.str "law_ringloads_k34_no_slides" 669)
noncomputable def QI(i:Nat):FuncData:=[NL "greatest_shared" dh QB 20,NL "is_whole" mG QC 190,NL "is_number_below" di QC 197,NL "are_two_wholes" d7 QC 204,NL "is_ratio" mI QC 211,NL "lowest" rN QD 219,NL "plus" Bt QD 226,NL "minus" wc QD 233,NL "under" wd QD 240,NL "lesser" rO QD 247,NL "lesser_place" fM QE 254,NL "greater_place" eU QE 261,NL "do_cross" mJ QE 268,NL "parted_in" gH QE 273,NL "first_side_by_side" cF QE 280,NL "is_way" rP QF 287,NL "ties_of" i3 QF 292,NL "part_behind" gI QG 346,NL "slid_once" ki QG 339,NL "share_no_tie" dH QG 318,NL "has_form_of_slide" cQ QG 313,NL "not_sent" mK QG 325,NL "most_slid" km QG 332,NL "is_slide" mL QG 306,NL "slid_by" o9 QG 299,NL "ways_apart" i4 QG 367,NL "greatest_slide" d8 QG 360,NL "slides_for" i5 QG 353,NL "_law_begun" i6 QH 374,NL "_law_take" ko QH 381,NL "_law_names" dU QH 400,NL "_law_low" mM QH 388,NL "_law_amount" gJ QH 395,NL "_law_rooms" i8 QH 407,NL "_law_ends" kq QH 414,NL "_law_ring" kr QH 421,NL "_law_parts" i9 QH 428,NL "_law_is_ratio" eV QH 463,NL "_law_plus" ku QH 435,NL "_law_minus" ja QH 442,NL "_law_stepped" fN QH 503,NL "_law_bent" kx QH 510,NL "_law_told" ky QH 489,NL "_law_slid" kA QH 482,NL "_law_ties" kB QH 456,NL "_law_under" jb QH 449,NL "_law_gone" kC QH 470,NL "_law_is_slide" cW QH 475,NL "_law_due" mN QH 496,NL "law" Bv QH 515].getD i (NL "law" Bv QB 0)
theorem tx{Pm:Params}{h:Heap}{mg:Str->Option Value}(X:(Hd.Kf Pm).In h)(G:h.Ns mainGlobals mg):Tx (Hd.Kf Pm) mg QA QI where
 x_greatest_shared:=FX.mk' X G (a:=21) (c:=20) (md:=QB) (by kernel_rfl) (by kernel_rfl) (by kernel_rfl) (by kernel_rfl) λ_ _ _ _ _ _ u l=>match u,l with | [_,_],_=>rfl
 x_is_whole:=FX.mk' X G (a:=191) (c:=190) (md:=QC) (by kernel_rfl) (by kernel_rfl) (by kernel_rfl) (by kernel_rfl) λ_ _ _ _ _ _ u l=>match u,l with | [_],_=>rfl
 x_is_number_below:=FX.mk' X G (a:=198) (c:=197) (md:=QC) (by kernel_rfl) (by kernel_rfl) (by kernel_rfl) (by kernel_rfl) λ_ _ _ _ _ _ u l=>match u,l with | [_,_],_=>rfl
 x_are_two_wholes:=FX.mk' X G (a:=205) (c:=204) (md:=QC) (by kernel_rfl) (by kernel_rfl) (by kernel_rfl) (by kernel_rfl) λ_ _ _ _ _ _ u l=>match u,l with | [_],_=>rfl
 x_is_ratio:=FX.mk' X G (a:=212) (c:=211) (md:=QC) (by kernel_rfl) (by kernel_rfl) (by kernel_rfl) (by kernel_rfl) λ_ _ _ _ _ _ u l=>match u,l with | [_],_=>rfl
 x_lowest:=FX.mk' X G (a:=220) (c:=219) (md:=QD) (by kernel_rfl) (by kernel_rfl) (by kernel_rfl) (by kernel_rfl) λ_ _ _ _ _ _ u l=>match u,l with | [_,_],_=>rfl
 x_plus:=FX.mk' X G (a:=227) (c:=226) (md:=QD) (by kernel_rfl) (by kernel_rfl) (by kernel_rfl) (by kernel_rfl) λ_ _ _ _ _ _ u l=>match u,l with | [_,_],_=>rfl
 x_minus:=FX.mk' X G (a:=234) (c:=233) (md:=QD) (by kernel_rfl) (by kernel_rfl) (by kernel_rfl) (by kernel_rfl) λ_ _ _ _ _ _ u l=>match u,l with | [_,_],_=>rfl
 x_under:=FX.mk' X G (a:=241) (c:=240) (md:=QD) (by kernel_rfl) (by kernel_rfl) (by kernel_rfl) (by kernel_rfl) λ_ _ _ _ _ _ u l=>match u,l with | [_,_],_=>rfl
 x_lesser:=FX.mk' X G (a:=248) (c:=247) (md:=QD) (by kernel_rfl) (by kernel_rfl) (by kernel_rfl) (by kernel_rfl) λ_ _ _ _ _ _ u l=>match u,l with | [_,_],_=>rfl
 x_lesser_place:=FX.mk' X G (a:=255) (c:=254) (md:=QE) (by kernel_rfl) (by kernel_rfl) (by kernel_rfl) (by kernel_rfl) λ_ _ _ _ _ _ u l=>match u,l with | [_,_],_=>rfl
 x_greater_place:=FX.mk' X G (a:=262) (c:=261) (md:=QE) (by kernel_rfl) (by kernel_rfl) (by kernel_rfl) (by kernel_rfl) λ_ _ _ _ _ _ u l=>match u,l with | [_,_],_=>rfl
 x_do_cross:=FX.mk' X G (a:=269) (c:=268) (md:=QE) (by kernel_rfl) (by kernel_rfl) (by kernel_rfl) (by kernel_rfl) λ_ _ _ _ _ _ u l=>match u,l with | [_,_,_],_=>rfl
 x_parted_in:=FX.mk' X G (a:=274) (c:=273) (md:=QE) (by kernel_rfl) (by kernel_rfl) (by kernel_rfl) (by kernel_rfl) λ_ _ _ _ _ _ u l=>match u,l with | [_,_],_=>rfl
 x_first_side_by_side:=FX.mk' X G (a:=281) (c:=280) (md:=QE) (by kernel_rfl) (by kernel_rfl) (by kernel_rfl) (by kernel_rfl) λ_ _ _ _ _ _ u l=>match u,l with | [_,_],_=>rfl
 x_is_way:=FX.mk' X G (a:=288) (c:=287) (md:=QF) (by kernel_rfl) (by kernel_rfl) (by kernel_rfl) (by kernel_rfl) λ_ _ _ _ _ _ u l=>match u,l with | [_],_=>rfl
 x_ties_of:=FX.mk' X G (a:=293) (c:=292) (md:=QF) (by kernel_rfl) (by kernel_rfl) (by kernel_rfl) (by kernel_rfl) λ_ _ _ _ _ _ u l=>match u,l with | [_,_,_],_=>rfl
 x_part_behind:=FX.mk' X G (a:=347) (c:=346) (md:=QG) (by kernel_rfl) (by kernel_rfl) (by kernel_rfl) (by kernel_rfl) λ_ _ _ _ _ _ u l=>match u,l with | [_,_,_],_=>rfl
 x_slid_once:=FX.mk' X G (a:=340) (c:=339) (md:=QG) (by kernel_rfl) (by kernel_rfl) (by kernel_rfl) (by kernel_rfl) λ_ _ _ _ _ _ u l=>match u,l with | [_,_],_=>rfl
 x_share_no_tie:=FX.mk' X G (a:=319) (c:=318) (md:=QG) (by kernel_rfl) (by kernel_rfl) (by kernel_rfl) (by kernel_rfl) λ_ _ _ _ _ _ u l=>match u,l with | [_,_,_,_,_],_=>rfl
 x_has_form_of_slide:=FX.mk' X G (a:=314) (c:=313) (md:=QG) (by kernel_rfl) (by kernel_rfl) (by kernel_rfl) (by kernel_rfl) λ_ _ _ _ _ _ u l=>match u,l with | [_,_],_=>rfl
 x_not_sent:=FX.mk' X G (a:=326) (c:=325) (md:=QG) (by kernel_rfl) (by kernel_rfl) (by kernel_rfl) (by kernel_rfl) λ_ _ _ _ _ _ u l=>match u,l with | [_,_,_,_],_=>rfl
 x_most_slid:=FX.mk' X G (a:=333) (c:=332) (md:=QG) (by kernel_rfl) (by kernel_rfl) (by kernel_rfl) (by kernel_rfl) λ_ _ _ _ _ _ u l=>match u,l with | [_,_,_],_=>rfl
 x_is_slide:=FX.mk' X G (a:=307) (c:=306) (md:=QG) (by kernel_rfl) (by kernel_rfl) (by kernel_rfl) (by kernel_rfl) λ_ _ _ _ _ _ u l=>match u,l with | [_,_,_],_=>rfl
 x_slid_by:=FX.mk' X G (a:=300) (c:=299) (md:=QG) (by kernel_rfl) (by kernel_rfl) (by kernel_rfl) (by kernel_rfl) λ_ _ _ _ _ _ u l=>match u,l with | [_,_,_],_=>rfl
 x_ways_apart:=FX.mk' X G (a:=368) (c:=367) (md:=QG) (by kernel_rfl) (by kernel_rfl) (by kernel_rfl) (by kernel_rfl) λ_ _ _ _ _ _ u l=>match u,l with | [_,_,_],_=>rfl
 x_greatest_slide:=FX.mk' X G (a:=361) (c:=360) (md:=QG) (by kernel_rfl) (by kernel_rfl) (by kernel_rfl) (by kernel_rfl) λ_ _ _ _ _ _ u l=>match u,l with | [_,_,_,_],_=>rfl
 x_slides_for:=FX.mk' X G (a:=354) (c:=353) (md:=QG) (by kernel_rfl) (by kernel_rfl) (by kernel_rfl) (by kernel_rfl) λ_ _ _ _ _ _ u l=>match u,l with | [_,_],_=>rfl
 x__law_begun:=FX.mk' X G (a:=375) (c:=374) (md:=QH) (by kernel_rfl) (by kernel_rfl) (by kernel_rfl) (by kernel_rfl) λ_ _ _ _ _ _ u l=>match u,l with | [_,_],_=>rfl
 x__law_take:=FX.mk' X G (a:=382) (c:=381) (md:=QH) (by kernel_rfl) (by kernel_rfl) (by kernel_rfl) (by kernel_rfl) λ_ _ _ _ _ _ u l=>match u,l with | [_,_],_=>rfl
 x__law_names:=FX.mk' X G (a:=401) (c:=400) (md:=QH) (by kernel_rfl) (by kernel_rfl) (by kernel_rfl) (by kernel_rfl) λ_ _ _ _ _ _ u l=>match u,l with | [_,_],_=>rfl
 x__law_low:=FX.mk' X G (a:=389) (c:=388) (md:=QH) (by kernel_rfl) (by kernel_rfl) (by kernel_rfl) (by kernel_rfl) λ_ _ _ _ _ _ u l=>match u,l with | [_,_],_=>rfl
 x__law_amount:=FX.mk' X G (a:=396) (c:=395) (md:=QH) (by kernel_rfl) (by kernel_rfl) (by kernel_rfl) (by kernel_rfl) λ_ _ _ _ _ _ u l=>match u,l with | [_,_,_],_=>rfl
 x__law_rooms:=FX.mk' X G (a:=408) (c:=407) (md:=QH) (by kernel_rfl) (by kernel_rfl) (by kernel_rfl) (by kernel_rfl) λ_ _ _ _ _ _ u l=>match u,l with | [_,_,_],_=>rfl
 x__law_ends:=FX.mk' X G (a:=415) (c:=414) (md:=QH) (by kernel_rfl) (by kernel_rfl) (by kernel_rfl) (by kernel_rfl) λ_ _ _ _ _ _ u l=>match u,l with | [_,_,_,_],_=>rfl
 x__law_ring:=FX.mk' X G (a:=422) (c:=421) (md:=QH) (by kernel_rfl) (by kernel_rfl) (by kernel_rfl) (by kernel_rfl) λ_ _ _ _ _ _ u l=>match u,l with | [_,_,_,_],_=>rfl
 x__law_parts:=FX.mk' X G (a:=429) (c:=428) (md:=QH) (by kernel_rfl) (by kernel_rfl) (by kernel_rfl) (by kernel_rfl) λ_ _ _ _ _ _ u l=>match u,l with | [_,_],_=>rfl
 x__law_is_ratio:=FX.mk' X G (a:=464) (c:=463) (md:=QH) (by kernel_rfl) (by kernel_rfl) (by kernel_rfl) (by kernel_rfl) λ_ _ _ _ _ _ u l=>match u,l with | [_],_=>rfl
 x__law_plus:=FX.mk' X G (a:=436) (c:=435) (md:=QH) (by kernel_rfl) (by kernel_rfl) (by kernel_rfl) (by kernel_rfl) λ_ _ _ _ _ _ u l=>match u,l with | [_,_],_=>rfl
 x__law_minus:=FX.mk' X G (a:=443) (c:=442) (md:=QH) (by kernel_rfl) (by kernel_rfl) (by kernel_rfl) (by kernel_rfl) λ_ _ _ _ _ _ u l=>match u,l with | [_,_],_=>rfl
 x__law_stepped:=FX.mk' X G (a:=504) (c:=503) (md:=QH) (by kernel_rfl) (by kernel_rfl) (by kernel_rfl) (by kernel_rfl) λ_ _ _ _ _ _ u l=>match u,l with | [_,_],_=>rfl
 x__law_bent:=FX.mk' X G (a:=511) (c:=510) (md:=QH) (by kernel_rfl) (by kernel_rfl) (by kernel_rfl) (by kernel_rfl) λ_ _ _ _ _ _ u l=>match u,l with | [_,_],_=>rfl
 x__law_told:=FX.mk' X G (a:=490) (c:=489) (md:=QH) (by kernel_rfl) (by kernel_rfl) (by kernel_rfl) (by kernel_rfl) λ_ _ _ _ _ _ u l=>match u,l with | [_,_,_],_=>rfl
 x__law_slid:=FX.mk' X G (a:=483) (c:=482) (md:=QH) (by kernel_rfl) (by kernel_rfl) (by kernel_rfl) (by kernel_rfl) λ_ _ _ _ _ _ u l=>match u,l with | [_,_],_=>rfl
 x__law_ties:=FX.mk' X G (a:=457) (c:=456) (md:=QH) (by kernel_rfl) (by kernel_rfl) (by kernel_rfl) (by kernel_rfl) λ_ _ _ _ _ _ u l=>match u,l with | [_,_,_],_=>rfl
 x__law_under:=FX.mk' X G (a:=450) (c:=449) (md:=QH) (by kernel_rfl) (by kernel_rfl) (by kernel_rfl) (by kernel_rfl) λ_ _ _ _ _ _ u l=>match u,l with | [_,_],_=>rfl
 x__law_gone:=FX.mk' X G (a:=471) (c:=470) (md:=QH) (by kernel_rfl) (by kernel_rfl) (by kernel_rfl) (by kernel_rfl) λ_ _ _ _ _ _ u l=>match u,l with | [_,_,_,_],_=>rfl
 x__law_is_slide:=FX.mk' X G (a:=476) (c:=475) (md:=QH) (by kernel_rfl) (by kernel_rfl) (by kernel_rfl) (by kernel_rfl) λ_ _ _ _ _ _ u l=>match u,l with | [_,_,_],_=>rfl
 x__law_due:=FX.mk' X G (a:=497) (c:=496) (md:=QH) (by kernel_rfl) (by kernel_rfl) (by kernel_rfl) (by kernel_rfl) λ_ _ _ _ _ _ u l=>match u,l with | [_,_,_],_=>rfl
 x_law:=FX.mk' X G (a:=516) (c:=515) (md:=QH) (by kernel_rfl) (by kernel_rfl) (by kernel_rfl) (by kernel_rfl) λ_ _ _ _ _ _ u l=>match u,l with | [_],_=>rfl
 li:=AI.mk' X G (by kernel_rfl) (by kernel_rfl) (by kernel_rfl) (by kernel_rfl) (by kernel_rfl) (by kernel_rfl) (by kernel_rfl) λ_ _ _ _ _ _ u l=>match u,l with | [_,_],_=>rfl
 i_NoSlide:=qd (oc:=.type "function") (od:=none) (osl:=#[]) (by kernel_rfl) (by kernel_rfl) (by kernel_rfl)
 c_NoSlide:=XT.mk' X G (by kernel_rfl) (by kernel_rfl) (by kernel_rfl) ((qd (x:="__init__") (qual:="NoSlide.__init__") (st:=fA) (f:=86) (oc:=.type "function") (od:=none) (osl:=#[]) (by kernel_rfl) (by kernel_rfl) (by kernel_rfl)).binds λ_ _ _ _ _ _ u l=>match u,l with | [_,_],_=>rfl) (by kernel_rfl) (by kernel_rfl)
 h_LoadError:=XH.mk' X G (by kernel_rfl) (by kernel_rfl) (by kernel_rfl) (by kernel_rfl)
 h_NoChange:=XH.mk' X G (by kernel_rfl) (by kernel_rfl) (by kernel_rfl) (by kernel_rfl)
 h_NoName:=XH.mk' X G (by kernel_rfl) (by kernel_rfl) (by kernel_rfl) (by kernel_rfl)
 h_NoNumber:=XH.mk' X G (by kernel_rfl) (by kernel_rfl) (by kernel_rfl) (by kernel_rfl)
 h_NoPlace:=XH.mk' X G (by kernel_rfl) (by kernel_rfl) (by kernel_rfl) (by kernel_rfl)
 h_NoRing:=XH.mk' X G (by kernel_rfl) (by kernel_rfl) (by kernel_rfl) (by kernel_rfl)
 h_NoSlide:=XH.mk' X G (by kernel_rfl) (by kernel_rfl) (by kernel_rfl) (by kernel_rfl)
 h_NoString:=XH.mk' X G (by kernel_rfl) (by kernel_rfl) (by kernel_rfl) (by kernel_rfl)
 h_NoText:=XH.mk' X G (by kernel_rfl) (by kernel_rfl) (by kernel_rfl) (by kernel_rfl)
 h_NoTree:=XH.mk' X G (by kernel_rfl) (by kernel_rfl) (by kernel_rfl) (by kernel_rfl)
 z_ValueError:=PySem.W.mg_none_of X G (by kernel_rfl)
 z_abs:=PySem.W.mg_none_of X G (by kernel_rfl)
 z_any:=PySem.W.mg_none_of X G (by kernel_rfl)
 z_bool:=PySem.W.mg_none_of X G (by kernel_rfl)
 z_enumerate:=PySem.W.mg_none_of X G (by kernel_rfl)
 z_int:=PySem.W.mg_none_of X G (by kernel_rfl)
 z_isinstance:=PySem.W.mg_none_of X G (by kernel_rfl)
 z_len:=PySem.W.mg_none_of X G (by kernel_rfl)
 z_list:=PySem.W.mg_none_of X G (by kernel_rfl)
 z_max:=PySem.W.mg_none_of X G (by kernel_rfl)
 z_min:=PySem.W.mg_none_of X G (by kernel_rfl)
 z_range:=PySem.W.mg_none_of X G (by kernel_rfl)
 z_repr:=PySem.W.mg_none_of X G (by kernel_rfl)
 z_str:=PySem.W.mg_none_of X G (by kernel_rfl)
 z_tuple:=PySem.W.mg_none_of X G (by kernel_rfl)
 g_BACK:=xg (PySem.W.mg_of X G (v:=(.str "back" 546)) (by kernel_rfl))
 g_NOUGHT:=CF (PySem.W.mg_of X G (v:=.ref 213) (by kernel_rfl)) (show(Hd.Kf Pm).lookup 213=some (Obj.mk (.type "tuple") none (.seq #[(.int 0 450),(.int 1 451)] 0) #[]) by kernel_rfl) ⟨_,_,[L2.V.int 0,L2.V.int 1],_,rfl,rfl,rfl,by decide,(.cons ⟨_,rfl⟩ (.cons ⟨_,rfl⟩ .nil)),λK H=>(.cons (.int _) (.cons (.int _) .nil))⟩
 g_ON:=xg (PySem.W.mg_of X G (v:=(.str "on" 544)) (by kernel_rfl))
theorem walkF(w:World)(mg:Str→Option Value)(fa:Addr)(h:Heap)(X:(Hd.Kf w.params).In h)(G:h.Ns mainGlobals mg) (hmg:mg "law"=some (.ref fa)) :
  ∃ fd:FuncData,(∀(s:Shared)(u:Value),BindsTo s fd ⟨[u],[]⟩ [("_law_script",u)])∧∀ base:Heap,(Hd.Kf w.params).In base→base.Ns mainGlobals mg→FnOk PySem.Challenge.pw_ringloads_k34_no_slides w (Hd.Kf w.params) mg base CX0 9 fa fd ["_law_script"] (spF (Hd.Kf w.params) 1 fs_law):=by
 have T:=tx X G
 have e:=hmg.symm.trans T.x_law.m
 cases e
 exact⟨_,fun s v=>.of_eq rfl,fun base _ _=>JD T⟩
theorem tabR(w:World):∀x∈L2.lamNames,PySem.W.tabIn (Hd.Kf w.params) x=none∨((PyProof.Rows.recsOf Hd.q).find? λe=>e.name == x).isSome=true:=by
 intro x hx;simp only[L2.lamNames,List.mem_cons,List.not_mem_nil,or_false]at hx;rcases hx with rfl|rfl|rfl
 · exact .inl (by kernel_rfl)
 · exact .inl (by kernel_rfl)
 · exact .inl (by kernel_rfl)
theorem walk{l:PySem.W.OpenLaw}{q:Program}{loose:List Str}{XP:(Str->Option Value)->Heap->Prop}{YP:World->Heap->Prop}{d:DefRec}{K:Params->PySem.W.Frag}(hn:l.most=some 63)(hq:PyProof.Rows.importsNone q=true)(hdf:d.params.defaults=[])
  (hY:∀(w:World)(h:Heap),YP w h->(K w.params).In h) (hto:∀w:World,L2.tabsOk (K w.params)=true) (hrc:∀(w:World),∀x∈L2.lamNames,PySem.W.tabIn (K w.params) x=none∨((PyProof.Rows.recsOf q).find? λe=>e.name == x).isSome=true)
  (F:∀(w:World)(mg:Str->Option Value)(fa:Addr)(h:Heap),(K w.params).In h->h.Ns mainGlobals mg->mg d.name=some (.ref fa) ->
   ∃ fd:FuncData,(∀(s:Shared)(u:Value),BindsTo s fd ⟨[u],[]⟩ [("_law_script",u)])/\∀ base:Heap,(K w.params).In base->base.Ns mainGlobals mg->FnOk l.prog w (K w.params) mg base CX0 9 fa fd ["_law_script"] (spF (K w.params) 1 fs_law)) :
  PySem.W.WalkO q loose XP YP l.row.toRowW d [] (λf vs=>PySem.call f vs) :=
 L2.walk_of (n:=63) (k:=9) (x:="_law_script") (CX:=λ_=>CX0) (sp:=λw=>spF (K w.params) 1 fs_law) hn hq (by decide) hdf ⟨rfl,by decide,by decide,rfl⟩ hY hto hrc F (λ_ H a ns hl hO hS=>Ao hl hO hS (BM hl)) λ_ _ _ _ _ z=>z
end My
open PySem PySem.W PyProof.Rows
noncomputable abbrev PySem.W.Fast.tw8843092178083041253:PySem.Program:=PySem.Challenge.pw_ringloads_k34_no_slides
theorem PySem.W.Fast.te8843092178083041253:PySem.Challenge.pw_ringloads_k34_no_slides=PySem.W.Fast.tw8843092178083041253:=rfl
set_option maxRecDepth 100000 in
theorem PySem.Challenge.cw_ringloads_k34_no_slides_holds : PySem.Challenge.rw_ringloads_k34_no_slides.Holds := by
 w_on;o_law
 refine PySem.W.holds_open (q:=Hd.q) (loose:=Hd.loose) (Xt:=Hd.Xt) (XP:=XL Hd.q []) (Yf:=Hook.obs Hd.Hk) (Ya:=Hook.val Hd.Hk) (YP:=Hook.says Hd.Hk) (N:=_) Hd.left (Hook.of Hd.Hk) (Hook.keeps Hd.Hk) (fun s e=>xl_of s (Bool.and_eq_true_iff.mp e).1) XL.keeps (by rfl) (by rfl) (by rfl) (fun s e=>recFacts_of (Bool.and_eq_true_iff.mp e).2) (by rfl) (by assumption) (by decide +kernel) ⟨rfl,rfl,rfl,rfl,rfl,by decide +kernel⟩ ?hw ?hc
 case hw=>w_witness2
 case hc=>exact My.walk (l:=PySem.Challenge.rw_ringloads_k34_no_slides) (K:=Hd.Kf) rfl (by decide +kernel) rfl (fun w h Y=>PySem.W.kIn_of Y) (fun w=>by kernel_rfl) My.tabR My.walkF