import PyProof.Rows.All
import Wide.All
import OpenK.AllK
import Wide.FinOn
import Lean
import PyProof.EqAt
import PyProof.EqKinds
import PyProof.TupleCall
import PyProof.ExcArgs
import KE.KSortKey
import KE.KIsAll
import PyProof.ExcInit
import PyProof.StationsW
import PyProof.NsDelKeeps
import PyProof.RulesAs
import PyProof.PassesOwn
import PyProof.ExcBaseAll.ValueError
import PyProof.InstStoreFacts
import PyProof.Rows.EqDataRows
import PyProof.ReprRoads
import PyProof.Rows.Range3
import PyProof.ConsumeWalk
import PyProof.FString5
import PyProof.ReprLen
import PyProof.Rows.TupAdd
import PyProof.Rows.RuleIs
import PyProof.ListNew
import KE.KRevIter
import PyProof.Rows.SeqMore2
import PyProof.ListRange
import KE.KEqDict
import PyProof.NeKinds
import PyProof.CallStr
import PyProof.ListMulAny
import PyProof.Rows.SetFrom
import PyProof.SetRoads
import PySem.Challenge.RW_ringloads_k33_whole_slides_by_halves
set_option Elab.async false
set_option linter.all false
set_option maxRecDepth 100000
set_option maxHeartbeats 0
namespace L2
open PySem PySem.Spec PyProof.Rows
abbrev Key:=Sum Int Str
def uM:Key→Value→Bool
 |.inl k,v=>Value.isInt k v
 |.inr x,v=>Value.isStrOf x v
def keyH(w:World):Key→Int
 |.inl k=>hashInt k
 |.inr x=>hashStr w x
theorem bB:∀{k:Key}{v:Value},uM k v=true→(∃i t,k=Sum.inl i∧v=Value.int i t)∨(∃x t,k=Sum.inr x∧v=Value.str x t)
 | .inl i,v,h=>by
  obtain⟨t,e⟩:=Value.isInt_shape (k:=i) (v:=v) h
  exact .inl ⟨i,t,rfl,e⟩
 | .inr x,v,h=>by
  obtain⟨t,e⟩:=Value.isStrOf_shape (x:=x) (v:=v) h
  exact .inr ⟨x,t,rfl,e⟩
theorem vD(i:Int)(t:Tok):uM (.inl i) (.int i t)=true:=by simp[uM,Value.isInt]
theorem vE(x:Str)(t:Tok):uM (.inr x) (.str x t)=true:=by simp[uM,Value.isStrOf]
theorem CQ(a b:Int):decide ((Sum.inl a:Key)=Sum.inl b)=(a == b):=by
 by_cases e:a=b
 ·
  subst e;simp
 ·
  have h:¬(Sum.inl a:Key)=Sum.inl b:=fun q=>e (Sum.inl.inj q)
  rw[decide_eq_false h]
  exact(beq_eq_false_iff_ne.mpr e).symm
theorem CS(a b:Str):decide ((Sum.inr a:Key)=Sum.inr b)=decide (a=b):=by
 by_cases e:a=b
 ·
  subst e;simp
 ·
  have h:¬(Sum.inr a:Key)=Sum.inr b:=fun q=>e (Sum.inr.inj q)
  rw[decide_eq_false h,decide_eq_false e]
theorem CT(a:Int)(b:Str):decide ((Sum.inl a:Key)=Sum.inr b)=false:=decide_eq_false (fun q=>nomatch q)
theorem CU(a:Str)(b:Int):decide ((Sum.inr a:Key)=Sum.inl b)=false:=decide_eq_false (fun q=>nomatch q)
def ke(prog:Program)(w:World):PySem.KeyKind prog w Key where
 is:=uM
 hash:=keyH w
 inj:=fun v a b ha hb=>by
  rcases bB ha with⟨i,t,rfl,rfl⟩|⟨x,t,rfl,rfl⟩
  ·
   rcases bB hb with⟨j,u,rfl,e⟩|⟨y,u,rfl,e⟩
   ·
    injection e with e1 _;rw[e1]
   ·
    exact nomatch e
  ·
   rcases bB hb with⟨j,u,rfl,e⟩|⟨y,u,rfl,e⟩
   ·
    exact nomatch e
   ·
    injection e with e1 _;rw[e1]
 byValue:=fun k v h=>by
  rcases bB h with⟨i,t,rfl,rfl⟩|⟨x,t,rfl,rfl⟩<;>rfl
 pyHash:=fun hv h=>by
  rcases bB hv with⟨i,t,rfl,rfl⟩|⟨x,t,rfl,rfl⟩
  ·
   exact wpAny_pyHash_int h
  ·
   exact wpAny_pyHash_str h
 eqBool:=fun hu hv h=>by
  rcases bB hu with⟨i,t,rfl,rfl⟩|⟨x,t,rfl,rfl⟩
  ·
   rcases bB hv with⟨j,u,rfl,rfl⟩|⟨y,u,rfl,rfl⟩
   ·
    rw[CQ]at h;exact wpAny_eqBool_int h
   ·
    rw[CT]at h;exact SeqAt.EqAt.int_str i t y u _ _ _ _ h
  ·
   rcases bB hv with⟨j,u,rfl,rfl⟩|⟨y,u,rfl,rfl⟩
   ·
    rw[CU]at h;exact SeqAt.EqAt.str_int x t j u _ _ _ _ h
   ·
    rw[CS]at h;exact wpAny_eqBool_str h
 «strs»:=fun k x t v h=>by
  rcases bB h with⟨i,u,rfl,e⟩|⟨y,u,rfl,e⟩
  ·
   exact nomatch e
  ·
   injection e with e1 _
   subst e1
   cases v<;>rfl
theorem rj(prog:Program)(w:World)(i:Int)(t:Tok):(ke prog w).is (.inl i) (.int i t)=true:=vD i t
theorem rk(prog:Program)(w:World)(x:Str)(t:Tok):(ke prog w).is (.inr x) (.str x t)=true:=vE x t
inductive V where
 |non|bl (b:Bool)|int (i:Int)|str (x:Str)|byt (b:Array UInt8)|flt (b:UInt64)|ref (a:Addr)|ty (n:String)
 deriving DecidableEq
def RelV:V→Value→Prop
 |.non,u=>u=Value.none
 |.bl b,u=>u=Value.bool b
 |.int i,u=>∃t,u=Value.int i t
 |.str x,u=>∃t,u=Value.str x t
 |.byt b,u=>∃t,u=Value.bytes b t
 |.flt b,u=>∃t,u=Value.float b t
 |.ref a,u=>u=Value.ref a
 |.ty n,u=>u=Value.type n
abbrev Vals:List V→List Value→Prop:=Paired RelV
theorem Vals.length{xs:List V}{us:List Value}(r:Vals xs us):xs.length=us.length:=Paired.length r
theorem Vals.get:∀{xs:List V}{us:List Value}{i:Nat}{x:V},Vals xs us→xs[i]?=some x→∃u,us[i]?=some u∧RelV x u
 |_,_,_,_,.nil,e=>by simp at e
 |_,_,0,_,.cons r _,e=>by simp at e;subst e;exact⟨_,rfl,r⟩
 | _,_,i+1,x,.cons _ t,e=>by
  obtain⟨u,h1,h2⟩:=Vals.get (i:=i) (x:=x) t (by simpa using e)
  exact⟨u,by simpa using h1,h2⟩
theorem Vals.set{x:V}{u:Value}(r:RelV x u):∀{xs:List V}{us:List Value}(i:Nat),Vals xs us→Vals (xs.set i x) (us.set i u)
 |_,_,_,.nil=>.nil
 |_,_,0,.cons _ t=>.cons r t
 |_,_,i+1,.cons q t=>.cons q (Vals.set r i t)
theorem Vals.append:∀{xs ys:List V}{us ws:List Value},Vals xs us→Vals ys ws→Vals (xs++ys) (us++ws)
 |_,_,_,_,.nil,s=>s
 |_,_,_,_,.cons r t,s=>.cons r (Vals.append t s)
theorem Vals.take:∀{xs:List V}{us:List Value}(n:Nat),Vals xs us→Vals (xs.take n) (us.take n)
 |_,_,0,_=>.nil
 |_,_,_+1,.nil=>.nil
 |_,_,n+1,.cons r t=>.cons r (Vals.take n t)
theorem Vals.drop:∀{xs:List V}{us:List Value}(n:Nat),Vals xs us→Vals (xs.drop n) (us.drop n)
 |_,_,0,r=>r
 |_,_,_+1,.nil=>.nil
 |_,_,n+1,.cons _ t=>Vals.drop n t
def RelO:Option V→Option Value→Prop
 |some v,some u=>RelV v u
 |none,none=>True
 |_,_=>False
def KV{κ:Type}:List (κ×V)→List (κ×Value)→Prop:=Paired fun (p:κ×V) (q:κ×Value)=>p.1=q.1∧RelV p.2 q.2
def kV:Key→V
 |.inl i=>.int i
 |.inr x=>.str x
inductive HO where
 |lst (xs:List V)
 |tup (xs:List V)
 |dK (kvs:List (Key×V))|dT (kvs:List (List Key×V))
 |set (S:Int→Bool) (n:Nat)
 |ins (C dx:Addr) (fs:List (Str×V))
 |own (x:Addr)
 |xd (fs:List (Str×V))
 |met (f x:Addr)
 |rng (lo hi:Int)
 |frz (o:Obj) (u:HO)
 |tbl (q:Str)
 |ext (φ:Heap→Prop)
abbrev Hp:=Addr→Option HO
def upd(H:Hp)(a:Addr)(o:HO):Hp:=fun b=>if b=a then some o else H b
theorem a7{H:Hp}{a:Addr}{o:HO}:upd H a o a=some o:=by unfold upd;rw[if_pos rfl]
theorem ay{H:Hp}{a b:Addr}{o:HO}(h:b≠a):upd H a o b=H b:=by unfold upd;rw[if_neg h]
theorem aR{H:Hp}{a b:Addr}{o:HO}(h:H a=some o)(h':H b=none):a≠b:=by
 intro e;subst e;rw[h]at h';cases h'
def pH(oc:Obj)(q:Str):Prop:=∃vs t,oc.data=.fields vs∧vs[1]?=some (.str q t)
section
variable(P:Program)(w:World)
def c7(H:Hp)(h:Heap)(a:Addr):HO→Prop
 |.lst xs=>xs.length≤sizeLine∧∃(its:List Value)(n:Nat),Vals xs its∧h.get? a=some {cls:=.type "list",data:=.seq its.toArray n}
 |.tup xs=>xs.length≤sizeLine∧∃its:List Value,Vals xs its∧IsTup h a its.toArray
 |.dK kvs=>kvs.length≤sizeLine∧(a == sysModules)=false∧∃vs,KV kvs vs∧h.DictOf (ke P w) a vs
 | .dT kvs=>kvs.length≤sizeLine∧(a == sysModules)=false∧∃xs:List (List Key×Addr×Value),
   Paired (fun (p:List Key×V) (q:List Key×Addr×Value)=>p.1=q.1∧H q.2.1=some (.tup (p.1.map kV))∧RelV p.2 q.2.2) kvs xs ∧
   ∃o es ep,h.get? a=some o∧o.ExactDict∧o.data=.dict es ep∧es.toList=xs.map (entryOfKey (tupleKind (ke P w)))∧(xs.map (·.1)).Nodup
 |.set S n=>h.SetOf (intKind P w) a S n
 | .ins C dx fs=>H dx=some (.own a)∧fs.length≤1000∧dx≠a∧h.get? a=some (PySem.W.instObj C dx) ∧
   ∃mA,h.Ns1 dx mA∧(∀f,RelO (fs.lookup f) (mA f))∧PySem.Within mA (fs.map (·.1))
 |.own _=>∃o,h.get? a=some o
 |.xd fs=>∃mA,h.Ns1 a mA∧∀f,RelO (fs.lookup f) (mA f)
 |.rng lo hi=>∃ t u v,h.get? a=some {cls:=.type "range",data:=.fields #[.int lo t,.int hi u,.int 1 v] }
 |.frz o u=>h.get? a=some o∧c7 H h a u
 |.tbl q=>∃ps:Array Value,h.get? a=some {cls:=.none,data:=.fields ps}∧TriplesOk ps.toList∧∀pos cv,codeAmong pos ps.toList=some cv→∃c' oc,cv=.ref c'∧H c'=some (.frz oc (.own c'))∧pH oc q
 |.met f x=>h.get? a=some (PySem.W.methodObj (.ref f) (.ref x))
 |.ext φ=>φ h∧(∃o,h.get? a=some o)∧∀h1 h2:Heap,φ h1→(∀o,h1.get? a=some o→h2.get? a=some o)→φ h2
def HOk(H:Hp)(h:Heap):Prop:=∀a o,H a=some o→c7 P w H h a o
end
section
variable{P:Program}{w:World}{H H':Hp}{h h':Heap}{a:Addr}{o:HO}
theorem c7.lt(x:c7 P w H h a o):a<h.objs.size:=by
 cases o with
 |lst xs=>obtain⟨_,_,_,_,e⟩:=x;exact Heap.lt_size e
 |tup xs=>obtain⟨_,_,_,p⟩:=x;exact p.lt
 |dK kvs=>obtain⟨_,_,_,_,o,_,_,e,_⟩:=x;exact Heap.lt_size e
 |dT kvs=>obtain⟨_,_,_,_,o,_,_,e,_⟩:=x;exact Heap.lt_size e
 |set S n=>obtain⟨o,_,_,_,e,_⟩:=x;exact Heap.lt_size e
 |ins C dx fs=>obtain⟨_,_,_,e,_⟩:=x;exact Heap.lt_size e
 |own y=>obtain⟨_,e⟩:=x;exact Heap.lt_size e
 |xd fs=>obtain⟨_,⟨_,_,_,e,_⟩,_⟩:=x;exact Heap.lt_size e
 |rng lo hi=>obtain⟨_,_,_,e⟩:=x;exact Heap.lt_size e
 |frz ob u=>obtain⟨e,_⟩:=x;exact Heap.lt_size e
 |tbl q=>obtain⟨_,e,_⟩:=x;exact Heap.lt_size e
 |met f y=>exact Heap.lt_size (show h.get? a=some _ from x)
 |ext φ=>obtain⟨_,⟨_,e⟩,_⟩:=x;exact Heap.lt_size e
theorem Paired.mapP{α β:Type}{F G:α→β→Prop}:∀{l₁:List α}{l₂:List β},Paired F l₁ l₂→(∀a b,F a b→G a b)→Paired G l₁ l₂
 |_,_,.nil,_=>.nil
 |_,_,.cons r t,f=>.cons (f _ _ r) (Paired.mapP t f)
theorem c7.stay(x:c7 P w H h a o)(k:∀b u,(b=a∨H b=some (.own a))→h.get? b=some u→h'.get? b=some u)
  (ho:∀b,H b=some (.own a)→H' b=some (.own a)) (ht:∀b xs,H b=some (.tup xs)→H' b=some (.tup xs)) (hf:∀b o q,pH o q→H b=some (.frz o (.own b))→H' b=some (.frz o (.own b))):c7 P w H' h' a o:=by
 induction o with
 |lst xs=>obtain⟨z,its,n,r,e⟩:=x;exact⟨z,its,n,r,k _ _ (.inl rfl) e⟩
 |tup xs=>obtain⟨z,its,r,ob,e,c⟩:=x;exact⟨z,its,r,ob,k _ _ (.inl rfl) e,c⟩
 |dK kvs=>obtain⟨z,y,vs,r,ob,es,ep,e,c⟩:=x;exact⟨z,y,vs,r,ob,es,ep,k _ _ (.inl rfl) e,c⟩
 | dT kvs =>
  obtain⟨z,y,xs,r,ob,es,ep,e,c⟩:=x
  exact⟨z,y,xs,Paired.mapP r fun p q z=>⟨z.1,ht _ _ z.2.1,z.2.2⟩,ob,es,ep,k _ _ (.inl rfl) e,c⟩
 |set S n=>obtain⟨ob,es,ep,t,e,c⟩:=x;exact⟨ob,es,ep,t,k _ _ (.inl rfl) e,c⟩
 | ins C dx fs =>
  obtain⟨d,z,ne,e,mA,⟨od,es,ep,e2,c⟩,r⟩:=x
  exact⟨ho _ d,z,ne,k _ _ (.inl rfl) e,mA,⟨od,es,ep,k _ _ (.inr d) e2,c⟩,r⟩
 |own y=>obtain⟨ob,e⟩:=x;exact⟨ob,k _ _ (.inl rfl) e⟩
 |xd fs=>obtain⟨mA,⟨od,es,ep,e,c⟩,r⟩:=x;exact⟨mA,⟨od,es,ep,k _ _ (.inl rfl) e,c⟩,r⟩
 |rng lo hi=>obtain⟨t,u,v,e⟩:=x;exact⟨t,u,v,k _ _ (.inl rfl) e⟩
 |frz ob u ih=>obtain⟨e,q⟩:=x;exact⟨k _ _ (.inl rfl) e,ih q⟩
 | tbl q =>
  obtain⟨ps,e,tr,m⟩:=x
  exact⟨ps,k a _ (.inl rfl) e,tr,fun pos cv z=>let ⟨c',oc,a1,a2,a3⟩:=m pos cv z;⟨c',oc,a1,hf _ _ _ a3 a2,a3⟩⟩
 | met f y =>
  have e:h.get? a=some (PySem.W.methodObj (.ref f) (.ref y)):=x
  show h'.get? a=some (PySem.W.methodObj (.ref f) (.ref y))
  exact k a _ (.inl rfl) e
 |ext φ=>obtain⟨p,⟨o,e⟩,st⟩:=x;exact⟨st _ _ p fun o q=>k _ _ (.inl rfl) q,⟨o,k _ _ (.inl rfl) e⟩,st⟩
theorem HOk.lt(x:HOk P w H h)(e:H a=some o):a<h.objs.size:=(x a o e).lt
theorem HOk.fresh(x:HOk P w H h)(e:h.objs.size≤a):H a=none:=by
 cases q:H a with
 |none=>rfl
 |some u=>exact absurd (Nat.lt_of_lt_of_le (x.lt q) e) (Nat.lt_irrefl _)
theorem HOk.kept(x:HOk P w H h)(k:∀b u,h.get? b=some u→h'.get? b=some u):HOk P w H h':=fun a o e =>
 (x a o e).stay (fun b u _ q=>k b u q) (fun _ q=>q) (fun _ _ q=>q) fun _ _ _ _ q=>q
theorem HOk.laid(x:HOk P w H h)(k:∀b u,h.get? b=some u→h'.get? b=some u)(hp:h.objs.size≤a)(new:c7 P w (upd H a o) h' a o):HOk P w (upd H a o) h':=fun b u e=>by
 have hn:=x.fresh hp
 by_cases hb:b=a
 ·
  subst hb;rw[a7]at e;cases e;exact new
 ·
  rw[ay hb]at e
  exact(x b u e).stay (fun c v _ q=>k c v q) (fun c q=>by rw[ay (aR q hn)];exact q) (fun c xs q=>by rw[ay (aR q hn)];exact q) fun c ob _ _ q=>by rw[ay (aR q hn)];exact q
end
def Rd(H:Hp)(a:Addr)(u:HO):Prop:=H a=some u∨∃o,H a=some (.frz o u)
theorem Rd.of{H:Hp}{a:Addr}{u:HO}(h:H a=some u):Rd H a u:=.inl h
theorem Rd.ok{P:Program}{w:World}{H:Hp}{h:Heap}{a:Addr}{u:HO}(r:Rd H a u)(x:HOk P w H h):c7 P w H h a u:=by
 rcases r with r|⟨o,r⟩
 ·
  exact x a u r
 ·
  obtain⟨_,q⟩:=x a _ r
  exact q
def Mut:Option HO→Prop
 |some (.lst _)=>True
 |some (.dK _)=>True
 |some (.dT _)=>True
 |some (.set _ _)=>True
 |some (.ins _ _ _)=>True
 |some (.ext _)=>True
 |_=>False
section
variable{P:Program}{w:World}{H:Hp}{h h':Heap}{x e:Addr}{o':HO}
theorem HOk.write(ok:HOk P w H h)(mu:Mut (H x))(he:e=x∨H e=some (.own x))(k:∀b u,b≠e→h.get? b=some u→h'.get? b=some u)(heo:∃u,h'.get? e=some u)
  (new:c7 P w (upd H x o') h' x o'):HOk P w (upd H x o') h':=fun b u q=>by
 have nown:∀c y,H c=some (.own y)→c≠x:=fun c y r z=>by subst z;rw[r]at mu;exact mu
 have ntup:∀c xs,H c=some (.tup xs)→c≠x:=fun c xs r z=>by subst z;rw[r]at mu;exact mu
 have nfrz:∀c o u,H c=some (.frz o u)→c≠x:=fun c o u r z=>by subst z;rw[r]at mu;exact mu
 by_cases hb:b=x
 ·
  subst hb;rw[a7]at q;cases q;exact new
 ·
  rw[ay hb]at q
  by_cases hbe:b=e
  ·
   have q':H b=some (.own x):=by
    rcases he with z|z
    ·
     exact absurd (hbe.trans z) hb
    ·
     rw[hbe];exact z
   rw[q]at q';cases q'
   obtain⟨v,hv⟩:=heo
   exact⟨v,by rw[hbe];exact hv⟩
  ·
   refine(ok b u q).stay (fun c v hc r=>k c v ?_ r) (fun c r=>by rw[ay (nown c b r)];exact r) (fun c xs r=>by rw[ay (ntup c xs r)];exact r) fun c ob _ _ r=>by rw[ay (nfrz c ob _ r)];exact r
   rcases hc with rfl|hc
   ·
    exact hbe
   ·
    rintro rfl
    rcases he with z|z
    ·
     exact nown c b hc z
    ·
     rw[hc]at z;cases z;exact hb rfl
end
structure Un (fs ex:List Addr) (H H':Hp) (h h':Heap):Prop where
 keep:∀b o,h.get? b=some o→H b=none→b∉fs→b∉ex→h'.get? b=some o
 slot:∀b o,h.get? b=some o→H b=none→b∈fs→b∉ex→∃sl,h'.get? b=some {o with slots:=sl}
 free:∀b o,h.get? b=some o→H b=none→b∉ex→H' b=none
 there:∀b o,h.get? b=some o→b∉ex→∃o',h'.get? b=some o'
 tups:∀b xs,H b=some (.tup xs)→H' b=some (.tup xs)
 frzs:∀b o u,H b=some (.frz o u)→H' b=some (.frz o u)
 tbls:∀b q,H b=some (.tbl q)→H' b=some (.tbl q)
section
variable{fs fs' ex ex':List Addr}{H H1:Hp}{h h1 h':Heap}{a x e:Addr}{o:HO}
theorem Un.any(u:Un fs ex H H1 h h1){b:Addr}{ob:Obj}(q:h.get? b=some ob)(n:H b=none)(hx:b∉ex):∃sl,h1.get? b=some {ob with slots:=sl}:=by
 by_cases hb:b∈fs
 ·
  exact u.slot b ob q n hb hx
 ·
  exact⟨ob.slots,u.keep b ob q n hb hx⟩
theorem Un.kept(k:∀b u,h.get? b=some u→h'.get? b=some u):Un fs ex H H h h' :=
 ⟨fun b ob q _ _ _=>k b ob q,fun b ob q _ _ _=>⟨ob.slots,k b ob q⟩,fun _ _ _ n _=>n,fun b ob q _=>⟨ob,k b ob q⟩,fun _ _ q=>q,fun _ _ _ q=>q,fun _ _ q=>q⟩
theorem Un.refl:Un fs ex H H h h:=Un.kept fun _ _ q=>q
theorem Un.laid(k:∀b u,h.get? b=some u→h'.get? b=some u)(hp:h.objs.size≤a)(hn:H a=none):Un fs ex H (upd H a o) h h' where
 keep:=fun b u q _ _ _=>k b u q
 slot:=fun b u q _ _ _=>⟨u.slots,k b u q⟩
 free:=fun b u q n _=>by rw[ay (Nat.ne_of_lt (Nat.lt_of_lt_of_le (Heap.lt_size q) hp))];exact n
 there:=fun b u q _=>⟨u,k b u q⟩
 tups:=fun b xs q=>by rw[ay (aR q hn)];exact q
 frzs:=fun b u xs q=>by rw[ay (aR q hn)];exact q
 tbls:=fun b ps q=>by rw[ay (aR q hn)];exact q
theorem Un.write(mu:Mut (H x))(he:e=x∨H e=some (.own x))(k:∀b u,b≠e→h.get? b=some u→h'.get? b=some u)(heo:∃u,h'.get? e=some u):Un fs ex H (upd H x o) h h':=by
 have hx:∀b,H b=none→b≠x:=fun b n z=>by subst z;rw[n]at mu;exact mu
 have hb:∀b,H b=none→b≠e:=fun b n z=>by
  subst z
  rcases he with r|r
  ·
   exact hx b n r
  ·
   rw[n]at r;cases r
 have hm:∀b u,H b=some u→¬Mut (some u)→b≠x:=fun b u q nm z=>by subst z;rw[q]at mu;exact nm mu
 refine⟨fun b u q n _ _=>k b u (hb b n) q,fun b u q n _ _=>⟨u.slots,k b u (hb b n) q⟩,fun b u q n _=>by rw[ay (hx b n)];exact n,fun b u q _=>?_,
  fun b xs q=>by rw[ay (hm b _ q fun z=>z)];exact q,fun b u xs q=>by rw[ay (hm b _ q fun z=>z)];exact q,fun b ps q=>by rw[ay (hm b _ q fun z=>z)];exact q⟩
 by_cases hbe:b=e
 ·
  subst hbe;exact heo
 ·
  exact⟨u,k b u hbe q⟩
theorem Un.mono(u:Un fs ex H H1 h h1)(hs:∀b∈fs,b∈fs')(hx:∀b∈ex,b∈ex'):Un fs' ex' H H1 h h1 :=
 ⟨fun b ob q n hb he=>u.keep b ob q n (fun z=>hb (hs b z)) fun z=>he (hx b z),fun _ _ q n _ he=>u.any q n fun z=>he (hx _ z),fun b ob q n he=>u.free b ob q n fun z=>he (hx b z),fun b ob q he=>u.there b ob q fun z=>he (hx b z),u.tups,u.frzs,u.tbls⟩
end
def trk(h:Heap)(H:Hp):List Addr:=(List.range h.objs.size).filter fun a=>(H a).isSome
def hidT(h:Heap)(H:Hp):Heap:=PySem.W.hideAll h (trk h H)
theorem vF(h:Heap)(H:Hp):(hidT h H).objs.size=h.objs.size:=PySem.W.hideAll_size _ _
theorem yG{h:Heap}{H:Hp}{b:Addr}{o:Obj}(e:h.get? b=some o)(n:H b=none):(hidT h H).get? b=some o :=
 PySem.W.hideAll_get _ e fun hm=>by
  have q:(H b).isSome=true:=(List.mem_filter.mp hm).2
  rw[n]at q;simp at q
theorem AZ{h:Heap}{H:Hp}{b:Addr}{o:Obj}(e:(hidT h H).get? b=some o):h.get? b=some o∧H b=none:=by
 have e':h.get? b=some o:=PySem.W.of_hideAll (trk h H) e
 refine⟨e',?_⟩
 cases q:H b with
 |none=>rfl
 | some x =>
  have hm:b∈trk h H:=List.mem_filter.mpr ⟨List.mem_range.mpr (Heap.lt_size e'),by simp[q]⟩
  have z:(hidT h H).get? b=none:=PySem.W.hideAll_none (trk h H) hm
  rw[z]at e;cases e
def A0(g h:Heap)(L:Addr):List (Addr×Obj):=(List.range h.objs.size).filterMap fun a=>if a=L∨(g.get? a).isSome=true then none else(h.get? a).map fun o=>(a,o)
def rest(g h:Heap)(L d:Addr):List (Addr×Obj):=(A0 g h L).filter fun p=>decide (p.1≠d)
def CV(mg:Str→Option Value)(h:Heap):Prop:=∃ bm ob,mg "__builtins__"=some (.ref bm)∧bm≠builtinsNs∧h.get? bm=some ob∧ob.cls=.type "module"∧ob.dict=some builtinsNs∧ob.data=.plain
def lamNames:List Str:=["look_at_asks","by_lesser_place","look_at_string"]
def lamQ(x:Str):Str:=(x++".<locals>.")++"<lambda>"
def Tbs(K:PySem.W.Frag)(H:Hp):Prop:=∀x∈lamNames,∀c P,PySem.W.tabIn K x=some (c,P)→H P=some (.tbl (lamQ x))
theorem Tbs.un{K:PySem.W.Frag}{fs ex:List Addr}{H H':Hp}{h h':Heap}(t:Tbs K H)(u:Un fs ex H H' h h'):Tbs K H':=fun x hx c P e=>u.tbls _ _ (t x hx c P e)
structure Mod (K:PySem.W.Frag) (mg:Str→Option Value) (base:Heap):Prop where
 kin:K.In base
 glob:base.Ns mainGlobals mg
 blt:∃ mb,base.Ns builtinsNs mb∧∀ x:Str,x≠"__name__"→mb x=bootBuiltins x
 nolimit:base.NoLimit
 sysm:∃mm,base.Ns sysModules mm
 bmn:CV mg base
 cds:∀x∈lamNames,∀c P,PySem.W.tabIn K x=some (c,P)→PySem.W.CodeHd base c P
/-- the context: a def's body (or a comprehension's A1) running. base: fixed through the whole law;s₀,H₀: the entry;outer: the frames whose slots others may change (a def's callers);stack: all frames that run;
  ex: iterators that were made ahead of the entry and are walked here (a comprehension's);fn: the names whose cells were made at the entry (a def: all;a comprehension's A1: its own);calm: not vG an except suite;pn: pins that every state bears;xe: what is wanted of an exception that leaves the code -/
structure Cx where
 prog:Program
 w:World
 K:PySem.W.Frag
 mg:Str→Option Value
 base:Heap
 A:Around
 N:List Str
 s₀:Shared
 H₀:Hp
 env:Env
 outer:List Env
 stack:List Env
 ex:List Addr
 fn:Str→Bool
 calm:Bool
 pn:List (Addr×Obj)
 xe:Value→Shared→Prop
def frs(l:List Env):List Addr:=l.filterMap (·.frame)
abbrev Cx.fs(X:Cx):List Addr:=frs X.outer
def Vis(sc:Scope)(x:Str):Prop:=sc.names.lookup x=some .local∨sc.names.lookup x=some .cell∨sc.names.lookup x=some .free
def Loc(sc:Scope)(x:Str):Prop:=sc.names.lookup x=some .local∨sc.names.lookup x=some .cell
def Look(env:Env)(h:Heap)(m:Str→Option Value)(x:Str)(u:Value):Prop :=
 (env.kindOf x=some .local∧m x=some u)∨((env.kindOf x=some .cell∨env.kindOf x=some .free)∧∃c,env.cells.lookup x=some c∧h.IsCell c (some u))
structure Cx.Ok (X:Cx):Prop where
 mod:Mod X.K X.mg X.base
 kind:X.env.scope.kind=.function
 glob:X.env.globals=mainGlobals
 blt:X.env.builtins=builtinsNs
 above:X.s₀.heap.objs.size≤X.env.locals
 inj:∀x y c,X.env.cells.lookup x=some c→X.env.cells.lookup y=some c→x=y
 has:∀x,(X.env.kindOf x=some .cell∨X.env.kindOf x=some .free)→∃c,X.env.cells.lookup x=some c
 cab:∀x c,X.fn x=true→X.env.cells.lookup x=some c→X.s₀.heap.objs.size≤c
 hd:X.calm=true→X.A.handled=none
 frames:X.A.frames=some X.stack
 stk:X.stack=X.outer∨(X.stack=X.env::X.outer∧X.env.frame=some X.env.locals)
 exf:∀b∈X.ex,b≠X.env.locals∧∀x c,X.env.cells.lookup x=some c→c≠b
 bs:∀b o,X.base.get? b=some o→X.s₀.heap.get? b=some o∧X.H₀ b=none
 bsz:X.base.objs.size≤X.s₀.heap.objs.size
 noex:∀b o,X.base.get? b=some o→b∉X.ex
 exfs:∀b∈X.ex,b∉X.fs
 funs:X.s₀.heap.FunFrames X.base X.outer
 frf:∀b∈X.fs,X.H₀ b=none
 tbs:Tbs X.K X.H₀
structure Inv (X:Cx) (pins:List (Addr×Obj)) (σ:List (Option V)) (H:Hp) (s:Shared):Prop where
 ok:X.Ok
 os:s.os=X.s₀.os
 bare:AllBare s.gens
 base:Un X.fs X.ex X.H₀ H X.s₀.heap s.heap
 loc:∃m,s.heap.Ns X.env.locals m∧∀(i:Nat)(x:Str)(v:V),X.N[i]?=some x→σ[i]?=some (some v)→Vis X.env.scope x→∃u,RelV v u∧Look X.env s.heap m x u
 cell:∀x c,X.env.cells.lookup x=some c→∃v,s.heap.IsCell c v
 free:H X.env.locals=none
 freeC:∀x c,X.env.cells.lookup x=some c→H c=none∨(X.fn x=false∧∃o,H c=some (.frz o (.own c)))
 pin:∀p∈X.pn++pins,s.heap.get? p.1=some p.2∧H p.1=none∧p.1≠X.env.locals∧p.1∉X.fs∧∀v,p.2.data≠.cell v
 hok:HOk X.prog X.w H s.heap
 len:σ.length=X.N.length
section
variable{X:Cx}{pins:List (Addr×Obj)}{σ:List (Option V)}{H H':Hp}{s:Shared}{h':Heap}
theorem Cx.Ok.nofr(ok:X.Ok){b:Addr}{o:Obj}(e:X.base.get? b=some o):b∉X.fs:=fun hb=>by
 have:=(ok.funs.mem hb).1
 rw[e]at this;cases this
theorem Inv.bs(I:Inv X pins σ H s):∀b o,X.base.get? b=some o→s.heap.get? b=some o∧H b=none:=fun b o e =>
 ⟨I.base.keep b o (I.ok.bs b o e).1 (I.ok.bs b o e).2 (I.ok.nofr e) (I.ok.noex b o e),I.base.free b o (I.ok.bs b o e).1 (I.ok.bs b o e).2 (I.ok.noex b o e)⟩
theorem Inv.bk(I:Inv X pins σ H s):∀b o,X.base.get? b=some o→s.heap.get? b=some o:=fun b o e=>(I.bs b o e).1
theorem Inv.tbs(I:Inv X pins σ H s):Tbs X.K H:=I.ok.tbs.un I.base
theorem Inv.mod(I:Inv X pins σ H s):Mod X.K X.mg X.base:=I.ok.mod
theorem Inv.kIn(I:Inv X pins σ H s):X.K.In s.heap:=I.ok.mod.kin.keeps I.bk
theorem Inv.fr(I:Inv X pins σ H s):∃m,Fr X.base X.env.locals s.heap m :=
 let ⟨m,hn,_⟩:=I.loc
 ⟨m,hn,I.bk,Nat.le_trans I.ok.bsz I.ok.above⟩
theorem Inv.lt(I:Inv X pins σ H s):X.env.locals<s.heap.objs.size:=let ⟨_,hn,_⟩:=I.loc;hn.lt
theorem Inv.sz(I:Inv X pins σ H s):X.s₀.heap.objs.size≤s.heap.objs.size:=Nat.le_trans I.ok.above (Nat.le_of_lt I.lt)
theorem Inv.nofs(I:Inv X pins σ H s){a:Addr}(h:s.heap.objs.size≤a):a∉X.fs:=fun hb=>by
 obtain⟨_,o,ho,_⟩:=I.ok.funs.mem hb
 exact absurd (Nat.lt_of_lt_of_le (Heap.lt_size ho) (Nat.le_trans I.sz h)) (Nat.lt_irrefl _)
theorem Inv.cne(I:Inv X pins σ H s):∀x c,X.env.cells.lookup x=some c→c≠X.env.locals:=fun x c e z=>by
 obtain⟨v,o,ho,hd⟩:=I.cell x c e
 obtain⟨m,⟨o',es,ep,ho',hd',_⟩,_⟩:=I.loc
 rw[z,ho']at ho;cases ho;rw[hd']at hd;cases hd
theorem Inv.funs(I:Inv X pins σ H s):s.heap.FunFrames X.base X.outer:=by
 have all:∀(l:List Env),(∀b∈frs l,b∈X.fs)→X.s₀.heap.FunFrames X.base l→s.heap.FunFrames X.base l:=by
  intro l
  induction l with
  |nil=>intro _ _;trivial
  | cons env r ih =>
   intro hs hl
   obtain⟨hk,⟨L,o,hf,hn,ho,hd⟩,hr⟩:=hl
   have hL:L∈X.fs:=hs L (by unfold frs;rw[List.filterMap_cons,hf];exact List.mem_cons_self)
   obtain⟨sl,e⟩:=I.base.slot L o ho (I.ok.frf L hL) hL fun z=>I.ok.exfs L z hL
   exact⟨hk,⟨L,_,hf,hn,e,hd⟩,ih (fun b hb=>hs b (by unfold frs;rw[List.filterMap_cons,hf];exact List.mem_cons_of_mem _ hb)) hr⟩
 exact all X.outer (fun _ hb=>hb) I.ok.funs
theorem Inv.stack(I:Inv X pins σ H s):s.heap.FunFrames X.base X.stack:=by
 rcases I.ok.stk with e|⟨e,hf⟩
 ·
  rw[e];exact I.funs
 ·
  rw[e]
  obtain⟨m,hn,_⟩:=I.loc
  refine .cons (by rw[I.ok.kind];decide) hf hn ?_ I.funs
  exact Heap.get?_none_of_le (Nat.le_trans I.ok.bsz I.ok.above)
theorem Inv.stkSub(I:Inv X pins σ H s):∀b∈frs X.stack,b∈X.env.locals::X.fs:=fun b hb=>by
 rcases I.ok.stk with e|⟨e,hf⟩
 ·
  rw[e]at hb;exact List.mem_cons_of_mem _ hb
 ·
  rw[e]at hb
  unfold frs at hb
  rw[List.filterMap_cons,hf]at hb
  exact hb
theorem Inv.stkFree(I:Inv X pins σ H s):∀b∈frs X.stack,H b=none:=fun b hb=>by
 rcases List.mem_cons.mp (I.stkSub b hb)with e|hb
 ·
  rw[e];exact I.free
 ·
  obtain⟨_,o,ho,_⟩:=I.ok.funs.mem hb
  exact I.base.free b o ho (I.ok.frf b hb) fun z=>I.ok.exfs b z hb
theorem Inv.step{g':Array GenState}{t':Nat}{d':Drawn}{ch:List Addr}(I:Inv X pins σ H s)
  (hch:∀b∈ch,(b∈X.ex∨X.s₀.heap.objs.size≤b)∧b≠X.env.locals∧(∀x c,X.env.cells.lookup x=some c→c≠b)∧∀p∈X.pn++pins,p.1≠b)
  (keep:∀b o,b≠X.env.locals→b∉X.fs→b∉ch→s.heap.get? b=some o→H b=none→h'.get? b=some o)
  (slot:∀b o,b≠X.env.locals→b∈X.fs→b∉ch→s.heap.get? b=some o→H b=none→∃sl,h'.get? b=some {o with slots:=sl}) (free:∀b o,b∉ch→s.heap.get? b=some o→H b=none→H' b=none)
  (there:∀b o,b∉ch→s.heap.get? b=some o→∃o',h'.get? b=some o')
  (tups:∀b xs,H b=some (.tup xs)→H' b=some (.tup xs)) (frzs:∀b o u,H b=some (.frz o u)→H' b=some (.frz o u)) (tbls:∀b q,H b=some (.tbl q)→H' b=some (.tbl q))
  (ns:∀m,s.heap.Ns X.env.locals m→h'.Ns X.env.locals m) (hok:HOk X.prog X.w H' h') (hg:AllBare g') :
  Inv X pins σ H' {s with heap:=h',gens:=g',drawn:=d',toks:=t' }:=by
 have neL:∀b o,X.s₀.heap.get? b=some o→b≠X.env.locals:=fun b o e=>Nat.ne_of_lt (Nat.lt_of_lt_of_le (Heap.lt_size e) I.ok.above)
 have neC:∀b o,X.s₀.heap.get? b=some o→b∉X.ex→b∉ch:=fun b o e hx hb=>by
  rcases(hch b hb).1 with z|z
  ·
   exact hx z
  ·
   exact absurd (Nat.lt_of_lt_of_le (Heap.lt_size e) z) (Nat.lt_irrefl _)
 have cellK:∀x c,X.env.cells.lookup x=some c→∀v,s.heap.IsCell c v→h'.IsCell c v:=fun x c e v ⟨o,ho,hd⟩=>by
  have nch:c∉ch:=fun z=>(hch c z).2.2.1 x c e rfl
  rcases I.freeC x c e with hn|⟨_,o2,hz⟩
  ·
   by_cases hc:c∈X.fs
   ·
    obtain⟨sl,q⟩:=slot c o (I.cne x c e) hc nch ho hn
    exact⟨_,q,hd⟩
   ·
    exact⟨o,keep c o (I.cne x c e) hc nch ho hn,hd⟩
  ·
   have e1:=(I.hok c _ hz).1
   rw[ho]at e1;cases e1
   exact⟨o,(hok c _ (frzs c _ _ hz)).1,hd⟩
 refine⟨I.ok,I.os,hg,⟨fun b o e n hb hx=>?_,fun b o e n hb hx=>?_,fun b o e n hx=>?_,fun b o e hx=>?_,fun b xs e=>tups b xs (I.base.tups b xs e),fun b o xs e=>frzs b o xs (I.base.frzs b o xs e),fun b ps e=>?_⟩,?_,fun x c e=>?_,?_,fun x c e=>?_,fun p hp=>?_,hok,I.len⟩
 ·
  exact keep b o (neL b o e) hb (neC b o e hx) (I.base.keep b o e n hb hx) (I.base.free b o e n hx)
 ·
  obtain⟨sl,e1⟩:=I.base.slot b o e n hb hx
  obtain⟨sl',e2⟩:=slot b _ (neL b o e) hb (neC b o e hx) e1 (I.base.free b o e n hx)
  exact⟨sl',e2⟩
 ·
  obtain⟨o',e1⟩:=I.base.there b o e hx
  exact free b o' (neC b o e hx) e1 (I.base.free b o e n hx)
 ·
  obtain⟨o',e1⟩:=I.base.there b o e hx
  exact there b o' (neC b o e hx) e1
 ·
  exact tbls b ps (I.base.tbls b ps e)
 ·
  obtain⟨m,hn,hl⟩:=I.loc
  refine⟨m,ns m hn,fun i x v e1 e2 e3=>?_⟩
  obtain⟨u,r,l⟩:=hl i x v e1 e2 e3
  refine⟨u,r,?_⟩
  rcases l with l|⟨k,c,e,z⟩
  ·
   exact .inl l
  ·
   exact .inr ⟨k,c,e,cellK x c e _ z⟩
 ·
  obtain⟨v,z⟩:=I.cell x c e
  exact⟨v,cellK x c e v z⟩
 ·
  obtain⟨m,⟨o,_,_,ho,_⟩,_⟩:=I.loc
  exact free _ o (fun z=>(hch _ z).2.1 rfl) ho I.free
 ·
  obtain⟨v,o,ho,hd⟩:=I.cell x c e
  rcases I.freeC x c e with hn|⟨hf,o2,hz⟩
  ·
   exact .inl (free c o (fun z=>(hch c z).2.2.1 x c e rfl) ho hn)
  ·
   exact .inr ⟨hf,o2,frzs c _ _ hz⟩
 ·
  obtain⟨e,n,ne,nf,d⟩:=I.pin p hp
  have nch:p.1∉ch:=fun z=>(hch p.1 z).2.2.2 p hp rfl
  exact⟨keep p.1 p.2 ne nf nch e n,free p.1 p.2 nch e n,ne,nf,d⟩
theorem Inv.un{t':Nat}(I:Inv X pins σ H s)(u:Un X.fs [] H H' s.heap h')(hok:HOk X.prog X.w H' h'):Inv X pins σ H' {s with heap:=h',toks:=t' }:=by
 obtain⟨m,⟨o,es,ep,ho,r⟩,_⟩:=id I.loc
 obtain⟨sl,hL⟩:=u.any ho I.free (by simp)
 exact I.step (g':=s.gens) (d':=s.drawn) (ch:=[]) (fun _ z=>nomatch z) (fun b o _ hb _ e n=>u.keep b o e n hb (by simp)) (fun b o _ hb _ e n=>u.slot b o e n hb (by simp)) (fun b o _ e n=>u.free b o e n (by simp)) (fun b o _ e=>u.there b o e (by simp)) u.tups u.frzs u.tbls (fun m' hm=>by
  obtain⟨o',es',ep',ho',r'⟩:=hm
  rw[ho]at ho';cases ho'
  exact⟨_,es',ep',hL,r'⟩) hok I.bare
theorem Inv.call{g':Array GenState}{t':Nat}{d':Drawn}{ch:List Addr}(I:Inv X pins σ H s)(u:Un (frs X.stack) ch H H' s.heap h')(hok:HOk X.prog X.w H' h')(hg:AllBare g')
  (hch:∀b∈ch,(b∈X.ex∨X.s₀.heap.objs.size≤b)∧b≠X.env.locals∧(∀x c,X.env.cells.lookup x=some c→c≠b)∧∀p∈X.pn++pins,p.1≠b) :
  Inv X pins σ H' {s with heap:=h',gens:=g',drawn:=d',toks:=t' }:=by
 obtain⟨m,⟨o,es,ep,ho,r⟩,_⟩:=id I.loc
 obtain⟨sl,hL⟩:=u.any ho I.free fun z=>(hch _ z).2.1 rfl
 exact I.step (ch:=ch) hch (fun b o hL hb hc e n=>u.keep b o e n (fun z=>(List.mem_cons.mp (I.stkSub b z)).elim hL hb) hc) (fun b o _ _ hc e n=>u.any e n hc) (fun b o hc e n=>u.free b o e n hc) (fun b o hc e=>u.there b o e hc) u.tups u.frzs u.tbls (fun m' hm=>by
  obtain⟨o',es',ep',ho',r'⟩:=hm
  rw[ho]at ho';cases ho'
  exact⟨_,es',ep',hL,r'⟩) hok hg
theorem Inv.turned{t':Nat}{it:Addr}(I:Inv X pins σ H s)(k:∀b o,b≠it→s.heap.get? b=some o→h'.get? b=some o)(hn:H it=none)(hL:it≠X.env.locals)
  (h1:it∈X.ex∨X.s₀.heap.objs.size≤it) (h2:∀x c,X.env.cells.lookup x=some c→c≠it) (h3:∀p∈X.pn++pins,p.1≠it):Inv X pins σ H {s with heap:=h',toks:=t' }:=by
 have nit:∀b u,H b=some u→b≠it:=fun b u e z=>by rw[z,hn]at e;cases e
 refine I.step (g':=s.gens) (d':=s.drawn) (ch:=[it]) (fun b hb=>?_) (fun b o _ _ hc e _=>k b o (fun z=>hc (by simp[z])) e) (fun b o _ _ hc e _=>⟨o.slots,k b o (fun z=>hc (by simp[z])) e⟩) (fun _ _ _ _ n=>n)
  (fun b o hc e=>⟨o,k b o (fun z=>hc (by simp[z])) e⟩) (fun _ _ e=>e) (fun _ _ _ e=>e) (fun _ _ e=>e) (fun m hm=>?_) (fun b u e=>?_) I.bare
 ·
  have e:b=it:=by simpa using hb
  subst e
  exact⟨h1,hL,h2,h3⟩
 ·
  obtain⟨o,es,ep,ho,r⟩:=hm
  exact⟨o,es,ep,k _ o (Ne.symm hL) ho,r⟩
 ·
  refine(I.hok b u e).stay (fun c v hc q=>k c v ?_ q) (fun _ q=>q) (fun _ _ q=>q) fun _ _ _ _ q=>q
  rcases hc with z|z
  ·
   rw[z];exact nit b u e
  ·
   exact nit c _ z
theorem Inv.tok(I:Inv X pins σ H s)(t:Nat):Inv X pins σ H {s with toks:=t}:=I.un (h':=s.heap) (t':=t) Un.refl I.hok
theorem Inv.kept{t':Nat}(I:Inv X pins σ H s)(k:∀b u,s.heap.get? b=some u→h'.get? b=some u):Inv X pins σ H {s with heap:=h',toks:=t' }:=I.un (Un.kept k) (I.hok.kept k)
theorem Inv.laid{a:Addr}{o:HO}{t':Nat}(I:Inv X pins σ H s)(k:∀b u,s.heap.get? b=some u→h'.get? b=some u)(hp:s.heap.objs.size≤a)(new:c7 X.prog X.w (upd H a o) h' a o) :
  Inv X pins σ (upd H a o) {s with heap:=h',toks:=t' }:=I.un (Un.laid k hp (I.hok.fresh hp)) (I.hok.laid k hp new)
theorem Inv.write{x e:Addr}{o:HO}{t':Nat}(I:Inv X pins σ H s)(mu:Mut (H x))(he:e=x∨H e=some (.own x))(k:∀b u,b≠e→s.heap.get? b=some u→h'.get? b=some u)(heo:∃u,h'.get? e=some u)
  (new:c7 X.prog X.w (upd H x o) h' x o):Inv X pins σ (upd H x o) {s with heap:=h',toks:=t' }:=I.un (Un.write mu he k heo) (I.hok.write mu he k heo new)
theorem Inv.pins_of{pins':List (Addr×Obj)}(I:Inv X pins σ H s)(h:∀p∈pins',s.heap.get? p.1=some p.2∧H p.1=none∧p.1≠X.env.locals∧p.1∉X.fs∧∀v,p.2.data≠.cell v):Inv X pins' σ H s :=
 ⟨I.ok,I.os,I.bare,I.base,I.loc,I.cell,I.free,I.freeC,fun p hp=>(List.mem_append.mp hp).elim (fun z=>I.pin p (List.mem_append_left _ z)) (h p),I.hok,I.len⟩
theorem tF{N:List Str}(hN:N.Nodup){i j:Nat}{x:Str}(a:N[i]?=some x)(b:N[j]?=some x):i=j:=by
 obtain⟨h1,e1⟩:=List.getElem?_eq_some_iff.mp a
 obtain⟨h2,e2⟩:=List.getElem?_eq_some_iff.mp b
 exact(List.getElem_inj hN).mp (e1.trans e2.symm)
theorem vH{M:Model}{A:Around}{E:Value→Shared→Prop}{i:Nat}{x:Str}{v:V}{u:Value}{Q:Unit→Shared→Prop}(I:Inv X pins σ H s)(hN:X.N.Nodup)(hi:X.N[i]?=some x)(hx:Loc X.env.scope x)(r:RelV v u)
  (h:∀s',Inv X pins (σ.set i (some v)) H s'→(∃a,Heap.SameBut a s.heap s'.heap∧(a=X.env.locals∨X.env.cells.lookup x=some a))→Q () s') (hf:X.fn x=true∨X.env.scope.names.lookup x=some .local:=by first|exact .inl rfl|exact .inr rfl|assumption):wpAny M A (storeName X.env x u) Q E s:=by
 obtain⟨m,hn,hl⟩:=id I.loc
 have hcls:(X.env.scope.kind == .class ||(X.env.scope.kind == .module && X.env.locals != X.env.globals))=false:=by rw[I.ok.kind];rfl
 have hiσ:i<σ.length:=by rw[I.len];exact(List.getElem?_eq_some_iff.mp hi).1
 have cne:=I.cne
 have tracked:∀{a:Addr}{h':Heap},(∃o,s.heap.get? a=some o∧H a=none)→Heap.SameBut a s.heap h'→HOk X.prog X.w H h':=fun {a h'} ha hs b ob e=>by
  obtain⟨_,_,hfree⟩:=ha
  refine(I.hok b ob e).stay (fun c w' hc q=>(hs.2 c ?_).trans q) (fun _ q=>q) (fun _ _ q=>q) fun _ _ _ _ q=>q
  rintro rfl
  rcases hc with rfl|hc
  ·
   rw[hfree]at e;cases e
  ·
   rw[hfree]at hc;cases hc
 rcases hx with hk|hk
 ·
  refine wpAny_storeName_local hk hn (fun h' hn' hs=>?_) hcls
  obtain⟨oL,_,_,hoL,_⟩:=id hn
  refine h _ ⟨I.ok,I.os,I.bare,⟨fun b o e n hb hx=>?_,fun b o e n hb hx=>?_,I.base.free,fun b o e hx=>?_,I.base.tups,I.base.frzs,I.base.tbls⟩,⟨_,hn',fun j y v' e1 e2 e3=>?_⟩,fun y c e=>?_,I.free,I.freeC,fun p hp=>?_,tracked ⟨oL,hoL,I.free⟩ hs,by simpa using I.len⟩ ⟨_,hs,.inl rfl⟩
  ·
   exact(hs.2 b (Nat.ne_of_lt (Nat.lt_of_lt_of_le (Heap.lt_size e) I.ok.above))).trans (I.base.keep b o e n hb hx)
  ·
   obtain⟨sl,e1⟩:=I.base.slot b o e n hb hx
   exact⟨sl,(hs.2 b (Nat.ne_of_lt (Nat.lt_of_lt_of_le (Heap.lt_size e) I.ok.above))).trans e1⟩
  ·
   obtain⟨o',e1⟩:=I.base.there b o e hx
   exact⟨o',(hs.2 b (Nat.ne_of_lt (Nat.lt_of_lt_of_le (Heap.lt_size e) I.ok.above))).trans e1⟩
  ·
   by_cases hj:j=i
   ·
    subst hj
    rw[hi]at e1;cases e1
    rw[List.getElem?_set_self hiσ]at e2
    cases e2
    exact⟨u,r,.inl ⟨hk,by simp⟩⟩
   ·
    rw[List.getElem?_set_ne (Ne.symm hj)]at e2
    obtain⟨u',r',q⟩:=hl j y v' e1 e2 e3
    refine⟨u',r',?_⟩
    rcases q with⟨k,e⟩|⟨k,c,e,z⟩
    ·
     refine .inl ⟨k,?_⟩
     have:y≠x:=fun e=>hj (tF hN e1 (e ▸ hi))
     simp[this,e]
    ·
     exact .inr ⟨k,c,e,z.sameBut hs (cne y c e)⟩
  ·
   obtain⟨w',z⟩:=I.cell y c e
   exact⟨w',z.sameBut hs (cne y c e)⟩
  ·
   obtain⟨e,n,ne,nf,d⟩:=I.pin p hp
   exact⟨(hs.2 p.1 ne).trans e,n,ne,nf,d⟩
 ·
  have hfn:X.fn x=true:=by
   rcases hf with z|z
   ·
    exact z
   ·
    rw[z]at hk;cases hk
  obtain⟨c,hc⟩:=I.ok.has x (.inl hk)
  obtain⟨w',z⟩:=I.cell x c hc
  refine wpAny_storeName_cell I.ok.kind hk hc z (fun h' hc' hs=>?_)
  obtain⟨oc,hoc,hocd⟩:=id z
  refine h {s with heap:=h' } ⟨I.ok,I.os,I.bare,⟨fun b o e n hb hx=>?_,fun b o e n hb hx=>?_,I.base.free,fun b o e hx=>?_,I.base.tups,I.base.frzs,I.base.tbls⟩,⟨m,hn.sameBut hs (Ne.symm (cne x c hc)),fun j y v' e1 e2 e3=>?_⟩,fun y c' e=>?_,I.free,I.freeC,fun p hp=>?_,tracked ⟨oc,hoc,(I.freeC x c hc).resolve_right fun z=>by rw[hfn]at z;exact absurd z.1 (by decide)⟩ hs,by simpa using I.len⟩ ⟨c,hs,.inr hc⟩
  ·
   exact(hs.2 b (Nat.ne_of_lt (Nat.lt_of_lt_of_le (Heap.lt_size e) (I.ok.cab x c hfn hc)))).trans (I.base.keep b o e n hb hx)
  ·
   obtain⟨sl,e1⟩:=I.base.slot b o e n hb hx
   exact⟨sl,(hs.2 b (Nat.ne_of_lt (Nat.lt_of_lt_of_le (Heap.lt_size e) (I.ok.cab x c hfn hc)))).trans e1⟩
  ·
   obtain⟨o',e1⟩:=I.base.there b o e hx
   exact⟨o',(hs.2 b (Nat.ne_of_lt (Nat.lt_of_lt_of_le (Heap.lt_size e) (I.ok.cab x c hfn hc)))).trans e1⟩
  ·
   by_cases hj:j=i
   ·
    subst hj
    rw[hi]at e1;cases e1
    rw[List.getElem?_set_self hiσ]at e2
    cases e2
    exact⟨u,r,.inr ⟨.inl hk,c,hc,hc'⟩⟩
   ·
    rw[List.getElem?_set_ne (Ne.symm hj)]at e2
    obtain⟨u',r',q⟩:=hl j y v' e1 e2 e3
    refine⟨u',r',?_⟩
    rcases q with q|⟨k,c',e,z'⟩
    ·
     exact .inl q
    ·
     refine .inr ⟨k,c',e,z'.sameBut hs ?_⟩
     rintro rfl
     exact hj (tF hN e1 (I.ok.inj _ _ _ e hc ▸ hi))
  ·
   by_cases hcc:c'=c
   ·
    subst hcc;exact⟨_,hc'⟩
   ·
    obtain⟨w2,z2⟩:=I.cell y c' e
    exact⟨w2,z2.sameBut hs hcc⟩
  ·
   obtain⟨e,n,ne,nf,d⟩:=I.pin p hp
   refine⟨(hs.2 p.1 ?_).trans e,n,ne,nf,d⟩
   intro q
   rw[q,hoc]at e
   have q':oc=p.2:=Option.some.inj e
   exact d w' (by rw[← q'];exact hocd)
theorem jt{M:Model}{A:Around}{E:Value→Shared→Prop}{i:Nat}{x:Str}{v:V}{u:Value}{Q:Unit→Shared→Prop}(I:Inv X pins σ H s)(hN:X.N.Nodup)(hi:X.N[i]?=some x)(hx:Loc X.env.scope x)(r:RelV v u)
  (h:∀s',Inv X pins (σ.set i (some v)) H s'→Q () s') (hf:X.fn x=true∨X.env.scope.names.lookup x=some .local:=by first|exact .inl rfl|exact .inr rfl|assumption):wpAny M A (storeName X.env x u) Q E s :=
 vH I hN hi hx r (fun s' I' _=>h s' I') hf
theorem Inv.call'{s':Shared}{ch:List Addr}(I:Inv X pins σ H s)(ho:s'.os=s.os)(u:Un (frs X.stack) ch H H' s.heap s'.heap)(hok:HOk X.prog X.w H' s'.heap)(hg:AllBare s'.gens)
  (hch:∀b∈ch,(b∈X.ex∨X.s₀.heap.objs.size≤b)∧b≠X.env.locals∧(∀x c,X.env.cells.lookup x=some c→c≠b)∧∀p∈X.pn++pins,p.1≠b):Inv X pins σ H' s':=by
 obtain⟨h',g',d',t',o'⟩:=s'
 have e:o'=s.os:=ho
 subst e
 exact I.call (g':=g') (t':=t') (d':=d') u hok hg hch
end
abbrev XK:=Value→Option Addr→Hp→Prop
abbrev St:=List (Option V)
abbrev VK:=V→Hp→Prop
abbrev TE:=St→Hp→VK→Prop
abbrev TT:=St→Hp→(Bool→Hp→Prop)→Prop
abbrev TA:=St→Hp→(List V→Hp→Prop)→Prop
structure Ends where
 nx:St→Hp→Prop
 rt:VK
 bk:St→Hp→Prop:=fun _ _=>False
 ct:St→Hp→Prop:=fun _ _=>False
abbrev TS:=Ends→St→Hp→Prop
def EP(X:Cx)(pins:List (Addr×Obj))(σ:St)(Q:VK)(u:Value)(s':Shared):Prop:=∃v H',Inv X pins σ H' s'∧RelV v u∧Q v H'
def TP(X:Cx)(pins:List (Addr×Obj))(σ:St)(Q:Bool→Hp→Prop)(b:Bool)(s':Shared):Prop:=∃H',Inv X pins σ H' s'∧Q b H'
def AP(X:Cx)(pins:List (Addr×Obj))(σ:St)(Q:List V→Hp→Prop)(us:List Value)(s':Shared):Prop:=∃vs H',Inv X pins σ H' s'∧Vals vs us∧Q vs H'
def SP(X:Cx)(pins:List (Addr×Obj))(D:Ends)(f:Flow)(s':Shared):Prop :=
 match f with
 |.next=>∃σ' H',Inv X pins σ' H' s'∧D.nx σ' H'
 |.brk=>∃σ' H',Inv X pins σ' H' s'∧D.bk σ' H'
 |.cont=>∃σ' H',Inv X pins σ' H' s'∧D.ct σ' H'
 |.ret u=>∃v σ' H',Inv X pins σ' H' s'∧RelV v u∧D.rt v H'
def PE(X:Cx)(e:Expr)(t:TE):Prop :=
 ∀(pins:List (Addr×Obj))(s:Shared)(σ:St)(H:Hp)(Q:VK),Inv X pins σ H s→t σ H Q→wpAny (model X.prog X.w) X.A (eval e X.env) (EP X pins σ Q) X.xe s
def PT(X:Cx)(e:Expr)(t:TT):Prop :=
 ∀(pins:List (Addr×Obj))(s:Shared)(σ:St)(H:Hp)(Q:Bool→Hp→Prop),Inv X pins σ H s→t σ H Q→wpAny (model X.prog X.w) X.A (isTrue e X.env (eval e X.env)) (TP X pins σ Q) X.xe s
def PA(X:Cx)(es:List Expr)(t:TA):Prop :=
 ∀(pos:Pos)(pins:List (Addr×Obj))(s:Shared)(σ:St)(H:Hp)(Q:List V→Hp→Prop),Inv X pins σ H s→t σ H Q→wpAny (model X.prog X.w) X.A (spliced (backTo pos (starEach es X.env))) (AP X pins σ Q) X.xe s
def PS(X:Cx)(st:Stmt)(t:TS):Prop :=
 ∀(pins:List (Addr×Obj))(s:Shared)(σ:St)(H:Hp)(D:Ends),Inv X pins σ H s→t D σ H→wpAny (model X.prog X.w) X.A (exec st X.env) (SP X pins D) X.xe s
def PSs(X:Cx)(st:List Stmt)(t:TS):Prop :=
 ∀(pins:List (Addr×Obj))(s:Shared)(σ:St)(H:Hp)(D:Ends),Inv X pins σ H s→t D σ H→wpAny (model X.prog X.w) X.A (execs st X.env) (SP X pins D) X.xe s
theorem thn{α:Type}{t:Sem α}{Q Q':α→Shared→Prop}{M:Model}{A:Around}{E:Value→Shared→Prop}{s:Shared}(h:wpAny M A t Q E s)(hQ:∀a s,Q a s→Q' a s):wpAny M A t Q' E s:=wpAny_mono h hQ fun _ _ x=>x
section
variable{X:Cx}
theorem bin{a b:Expr}{ta tb:TE}(ha:PE X a ta)(hb:PE X b tb){pins:List (Addr×Obj)}{s:Shared}{σ:St}{H:Hp}{R:V→V→Hp→Prop}(I:Inv X pins σ H s)(h:ta σ H fun x H1=>tb σ H1 fun y H2=>R x y H2)
  {α:Type} {Q:α→Shared→Prop} {f:Value→Value→Sem α}
  (hf:∀v u s2 x y H2,Inv X pins σ H2 s2→RelV x v→RelV y u→R x y H2→wpAny (model X.prog X.w) X.A (f v u) Q X.xe s2) :
  wpAny (model X.prog X.w) X.A (eval a X.env) (fun v s₁=>wpAny (model X.prog X.w) X.A (eval b X.env) (fun u s₂=>wpAny (model X.prog X.w) X.A (f v u) Q X.xe s₂) X.xe s₁) X.xe s:=by
 refine thn (ha pins s σ H _ I h) fun v s1 ⟨x,H1,I1,r1,q1⟩=>?_
 refine thn (hb pins s1 σ H1 _ I1 q1) fun u s2 ⟨y,H2,I2,r2,q2⟩=>?_
 exact hf v u s2 x y H2 I2 r1 r2 q2
def tVar(i:Nat):TE:=fun σ H Q=>∃v,σ[i]?=some (some v)∧Q v H
def tC(v:V):TE:=fun _ H Q=>Q v H
theorem fO{i:Nat}{x:Str}{pos:Pos}(hN:X.N[i]?=some x)(hv:Vis X.env.scope x) (hd:(x == ("__debug__" : Str))=false:=by decide) (hcd:(x == ("__classdict__" : Str))=false:=by decide):PE X (.Name x pos) (tVar i):=by
 intro pins s σ H Q I h
 obtain⟨v,e,h⟩:=h
 obtain⟨m,hn,hl⟩:=I.loc
 obtain⟨u,r,l⟩:=hl i x v hN e hv
 have fin:EP X pins σ Q u s:=⟨v,H,I,r,h⟩
 rcases l with⟨hk,hm⟩|⟨hk,c,hc,hcell⟩
 ·
  exact wpAny_Name (wpAny_loadName_local I.ok.kind hk hn hm fin) hd
 ·
  rcases hk with hk|hk
  ·
   exact wpAny_Name (wpAny_loadName_cell I.ok.kind hk hc hcell fin) hd
  ·
   exact wpAny_Name (wpAny_loadName_free I.ok.kind hk hc hcell fin hcd) hd
theorem CW {i j pos}:PE X (.Constant (.int i) j pos) (tC (.int i)):=fun _ _ _ H _ I h=>wpAny_Constant_int ⟨.int i,H,I.tok _,⟨_,rfl⟩,h⟩
theorem Em {b j pos}:PE X (.Constant (.bool b) j pos) (tC (.bl b)):=fun _ _ _ H _ I h=>Constant_bool ⟨.bl b,H,I,rfl,h⟩
theorem CY {j pos}:PE X (.Constant .none j pos) (tC .non):=fun _ _ _ H _ I h=>Constant_none ⟨.non,H,I,rfl,h⟩
theorem vI {x j pos}:PE X (.Constant (.str x) j pos) (tC (.str x)):=fun _ _ _ H _ I h=>Calls.Constant_str ⟨.str x,H,I.tok _,⟨_,rfl⟩,h⟩
def Gl(X:Cx)(x:Str):Prop:=X.env.kindOf x=some .globalImplicit
theorem fV{E:Value→Shared→Prop}{pins:List (Addr×Obj)}{s:Shared}{σ:St}{H:Hp}{x:Str}{u:Value}{pos:Pos}{Q:Value→Shared→Prop}(I:Inv X pins σ H s)(hg:Gl X x)(hm:X.mg x=some u)(h:Q u s)
  (hd:(x == ("__debug__" : Str))=false:=by decide):wpAny (model X.prog X.w) X.A (eval (.Name x pos) X.env) Q E s :=
 Calls.Name_function_global I.ok.kind hg (Calls.loadGlobal_global (by rw[I.ok.glob];exact I.mod.glob.keeps I.bk) hm h) hd
theorem ij{E:Value→Shared→Prop}{pins:List (Addr×Obj)}{s:Shared}{σ:St}{H:Hp}{x:Str}{u:Value}{pos:Pos}{Q:Value→Shared→Prop}(I:Inv X pins σ H s)(hg:Gl X x)(hm:X.mg x=none)(hv:bootBuiltins x=some u)(h:Q u s)
  (hn:x≠"__name__":=by decide) (hd:(x == ("__debug__" : Str))=false:=by decide):wpAny (model X.prog X.w) X.A (eval (.Name x pos) X.env) Q E s:=by
 obtain⟨mb,h1,h2⟩:=I.mod.blt
 exact Calls.Name_function_global I.ok.kind hg (Calls.loadGlobal_builtin (by rw[I.ok.glob];exact I.mod.glob.keeps I.bk) hm (by rw[I.ok.blt];exact h1.keeps I.bk) ((h2 x hn).trans hv) h) hd
theorem A2{x:Str}{v:V}{u:Value}{pos:Pos}(hg:Gl X x)(hm:X.mg x=some u)(r:RelV v u) (hd:(x == ("__debug__" : Str))=false:=by decide):PE X (.Name x pos) (tC v) :=
 fun _ _ _ H _ I h=>fV I hg hm ⟨v,H,I,r,h⟩ hd
theorem A3{x:Str}{v:V}{u:Value}{pos:Pos}(hg:Gl X x)(hm:X.mg x=none)(hv:bootBuiltins x=some u)(r:RelV v u) (hn:x≠"__name__":=by decide) (hd:(x == ("__debug__" : Str))=false:=by decide):PE X (.Name x pos) (tC v) :=
 fun _ _ _ H _ I h=>ij I hg hm hv ⟨v,H,I,r,h⟩ hn hd
variable{a b:Expr}{ta tb:TE}{pos:Pos}
def tB(t:TE):TT:=fun σ H Q=>t σ H fun x H1=>∃c,x=.bl c∧Q c H1
end
def SqL(K:PySem.W.Frag)(H:Hp)(a:Addr)(xs:List V):Prop :=
 Rd H a (.lst xs) ∨
  ∃(o:Obj)(its:Array Value)(n:Nat),K.lookup a=some o∧o.cls=.type "list"∧o.dict=none∧o.data=.seq its n∧its.size≤sizeLine∧Vals xs its.toList
def SqT(K:PySem.W.Frag)(H:Hp)(a:Addr)(xs:List V):Prop :=
 Rd H a (.tup xs) ∨
  ∃(o:Obj)(its:Array Value)(n:Nat),K.lookup a=some o∧o.cls=.type "tuple"∧o.data=.seq its n∧its.size≤sizeLine∧Vals xs its.toList
def absV:Value→Option V
 |.none=>some .non
 |.bool b=>some (.bl b)
 |.int i _=>some (.int i)
 |.str x _=>some (.str x)
 |.bytes b _=>some (.byt b)
 |.float b _=>some (.flt b)
 |.ref a=>some (.ref a)
 |.type n=>some (.ty n)
 |_=>none
theorem RelV.abs{x:V}{u:Value}(r:RelV x u):absV u=some x:=by
 cases x with
 |non=>cases r;rfl
 |bl _=>cases r;rfl
 |int _=>obtain⟨t,rfl⟩:=r;rfl
 |str _=>obtain⟨t,rfl⟩:=r;rfl
 |byt _=>obtain⟨t,rfl⟩:=r;rfl
 |flt _=>obtain⟨t,rfl⟩:=r;rfl
 |ref _=>cases r;rfl
 |ty _=>cases r;rfl
theorem RelV.inj{x y:V}{u:Value}(r:RelV x u)(q:RelV y u):x=y:=Option.some.inj (r.abs.symm.trans q.abs)
theorem Vals.inj:∀{xs ys:List V}{us:List Value},Vals xs us→Vals ys us→xs=ys
 |_,_,_,.nil,.nil=>rfl
 |_,_,_,.cons r t,.cons r' t'=>by rw[r.inj r',Vals.inj t t']
section
variable{X:Cx}{pins:List (Addr×Obj)}{σ:St}{H:Hp}{s:Shared}{a:Addr}{xs ys:List V}
theorem SqL.of{K:PySem.W.Frag}(h:H a=some (.lst xs)):SqL K H a xs:=.inl (.inl h)
theorem SqT.of{K:PySem.W.Frag}(h:H a=some (.tup xs)):SqT K H a xs:=.inl (.inl h)
theorem Inv.list(I:Inv X pins σ H s)(h:SqL X.K H a xs):∃its:List Value,Vals xs its∧PlainL s.heap a its.toArray∧xs.length≤sizeLine:=by
 rcases h with h|⟨o,its,n,hk,hc,hd,hs,hz,r⟩
 ·
  obtain⟨z,its,n,r,e⟩:=h.ok I.hok
  exact⟨its,r,⟨_,n,e,rfl,rfl,rfl⟩,z⟩
 ·
  refine⟨its.toList,r,⟨o,n,I.kIn a o hk,hc,hd,by simpa using hs⟩,?_⟩
  have e:=r.length
  simp only[Array.length_toList]at e
  omega
theorem Inv.tuple(I:Inv X pins σ H s)(h:SqT X.K H a xs):∃its:List Value,Vals xs its∧IsTup s.heap a its.toArray∧xs.length≤sizeLine:=by
 rcases h with h|⟨o,its,n,hk,hc,hs,hz,r⟩
 ·
  obtain⟨z,its,r,p⟩:=h.ok I.hok
  exact⟨its,r,p,z⟩
 ·
  refine⟨its.toList,r,⟨o,I.kIn a o hk,hc,n,by simpa using hs⟩,?_⟩
  have e:=r.length
  simp only[Array.length_toList]at e
  omega
theorem Inv.list_inj(I:Inv X pins σ H s)(h:SqL X.K H a xs)(h':SqL X.K H a ys):xs=ys:=by
 obtain⟨its,r,⟨o,n,e,_,_,d⟩,_⟩:=I.list h
 obtain⟨its',r',⟨o',n',e',_,_,d'⟩,_⟩:=I.list h'
 rw[e]at e';cases e'
 rw[d]at d'
 injection d' with d1 _
 have:its=its':=by simpa using congrArg Array.toList d1
 subst this
 exact r.inj r'
theorem Inv.tuple_inj(I:Inv X pins σ H s)(h:SqT X.K H a xs)(h':SqT X.K H a ys):xs=ys:=by
 obtain⟨its,r,⟨o,e,_,n,d⟩,_⟩:=I.tuple h
 obtain⟨its',r',⟨o',e',_,n',d'⟩,_⟩:=I.tuple h'
 rw[e]at e';cases e'
 rw[d]at d'
 injection d' with d1 _
 have:its=its':=by simpa using congrArg Array.toList d1
 subst this
 exact r.inj r'
end
abbrev Cx.wish(X:Cx)(E:Value→Shared→Prop):Cx:={X with xe:=E}
abbrev Cx.nox(X:Cx):Cx:=X.wish fun _ _=>False
theorem Cx.Ok.wish{X:Cx}(ok:X.Ok)(E:Value→Shared→Prop):(X.wish E).Ok :=
 ⟨ok.mod,ok.kind,ok.glob,ok.blt,ok.above,ok.inj,ok.has,ok.cab,ok.hd,ok.frames,ok.stk,ok.exf,ok.bs,ok.bsz,ok.noex,ok.exfs,ok.funs,ok.frf,ok.tbs⟩
theorem Cx.Ok.unwish{X:Cx}{E:Value→Shared→Prop}(ok:(X.wish E).Ok):X.Ok :=
 ⟨ok.mod,ok.kind,ok.glob,ok.blt,ok.above,ok.inj,ok.has,ok.cab,ok.hd,ok.frames,ok.stk,ok.exf,ok.bs,ok.bsz,ok.noex,ok.exfs,ok.funs,ok.frf,ok.tbs⟩
section
variable{X:Cx}{pins:List (Addr×Obj)}{σ:St}{H:Hp}{s:Shared}{E:Value→Shared→Prop}
theorem Inv.wish(I:Inv X pins σ H s)(E:Value→Shared→Prop):Inv (X.wish E) pins σ H s:=⟨I.ok.wish E,I.os,I.bare,I.base,I.loc,I.cell,I.free,I.freeC,I.pin,I.hok,I.len⟩
theorem Inv.unwish(I:Inv (X.wish E) pins σ H s):Inv X pins σ H s:=⟨I.ok.unwish,I.os,I.bare,I.base,I.loc,I.cell,I.free,I.freeC,I.pin,I.hok,I.len⟩
theorem SP.unwish{D:Ends}{f:Flow}{s':Shared}(h:SP (X.wish E) pins D f s'):SP X pins D f s':=by
 cases f with
 |next=>obtain⟨σ',H',I,q⟩:=h;exact⟨σ',H',I.unwish,q⟩
 |brk=>obtain⟨σ',H',I,q⟩:=h;exact⟨σ',H',I.unwish,q⟩
 |cont=>obtain⟨σ',H',I,q⟩:=h;exact⟨σ',H',I.unwish,q⟩
 |ret u=>obtain⟨v,σ',H',I,r,q⟩:=h;exact⟨v,σ',H',I.unwish,r,q⟩
theorem PSs.nox{st:List Stmt}{t:TS}(h:PSs X.nox st t):PSs X st t:=fun pins s σ H D I hw =>
 wpAny_mono (h pins s σ H D (I.wish _) hw) (fun _ _ q=>q.unwish) fun _ _ z=>False.elim z
end
section
variable{X:Cx}{st:Stmt}{rest:List Stmt}{t u:TS}{e:Expr}{te:TE}{pos:Pos}
def tSeq(t u:TS):TS:=fun D σ H=>t {D with nx:=u D} σ H
theorem yH(h1:PS X st t)(h2:PSs X rest u):PSs X (st::rest) (tSeq t u):=by
 intro pins s σ H D I h
 refine wpAny_execs_cons (thn (h1 pins s σ H {D with nx:=u D} I h) fun f s1 q=>?_)
 cases f with
 | next =>
  obtain⟨σ',H',I',q⟩:=q
  exact h2 pins s1 σ' H' D I' q
 |ret v=>exact q
 |brk=>exact q
 |cont=>exact q
theorem vJ(h1:PS X st t):PSs X [st] t:=by
 intro pins s σ H D I h
 refine wpAny_execs_cons (thn (h1 pins s σ H D I h) fun f s1 q=>?_)
 cases f with
 |next=>exact wpAny_execs_nil q
 |ret v=>exact q
 |brk=>exact q
 |cont=>exact q
theorem Inv.quiet{pins:List (Addr×Obj)}{σ:St}{H:Hp}{s:Shared}(I:Inv X pins σ H s):interactive X.env=false:=by simp[interactive,I.ok.kind]
def A4(te:TE):TS:=fun D σ H=>te σ H fun _ H1=>D.nx σ H1
theorem vK(he:PE X e te)(hs:swapsWith e none pos.line X.env=pure false:=by rfl):PS X (.Expr e pos) (A4 te):=by
 intro pins s σ H D I h
 exact wpAny_Expr_any (thn (he pins s σ H _ I h) fun v s1 ⟨x,H1,I1,r1,q1⟩=>⟨σ,H1,I1,q1⟩) I.quiet hs
end
abbrev TG:=V→St→Hp→(St→Hp→Prop)→Prop
abbrev TGs:=List V→St→Hp→(St→Hp→Prop)→Prop
def PG(X:Cx)(target:Expr)(t:TG):Prop :=
 ∀(pins:List (Addr×Obj))(s:Shared)(σ:St)(H:Hp)(v:V)(u:Value)(Q:St→Hp→Prop),Inv X pins σ H s→RelV v u→t v σ H Q →
  wpAny (model X.prog X.w) X.A (assign target X.env u) (fun _ s'=>∃σ' H',Inv X pins σ' H' s'∧Q σ' H') X.xe s
def PGs(X:Cx)(ts:List Expr)(t:TGs):Prop :=
 ∀(pins:List (Addr×Obj))(s:Shared)(σ:St)(H:Hp)(vs:List V)(us:List Value)(Q:St→Hp→Prop),Inv X pins σ H s→Vals vs us→t vs σ H Q →
  wpAny (model X.prog X.w) X.A (assignInOrder ((assignEach ts X.env).map (·.2)) us) (fun _ s'=>∃σ' H',Inv X pins σ' H' s'∧Q σ' H') X.xe s
abbrev TSet:=V→V→V→Hp→(Hp→Prop)→Prop
def PSet(X:Cx)(t:TSet):Prop :=
 ∀(pins:List (Addr×Obj))(s:Shared)(σ:St)(H:Hp)(o i v:V)(ov iv u:Value)(Q:Hp→Prop),Inv X pins σ H s→RelV o ov→RelV i iv→RelV v u→t o i v H Q →
  wpAny (model X.prog X.w) X.A (setItem ov iv u) (fun _ s'=>∃H',Inv X pins σ H' s'∧Q H') X.xe s
section
variable{X:Cx}{pos:Pos}
def En(i:Nat):TG:=fun v σ H Q=>Q (σ.set i (some v)) H
theorem nW{i:Nat}{x:Str}(hN:X.N.Nodup)(hi:X.N[i]?=some x)(hx:Loc X.env.scope x)(hf:X.fn x=true∨X.env.scope.names.lookup x=some .local:=by first|exact .inl rfl|exact .inr rfl|assumption):PG X (.Name x pos) (En i):=by
 intro pins s σ H v u Q I r h
 exact wpAny_assign_Name (jt I hN hi hx r (fun s' I'=>⟨_,H,I',h⟩) hf)
def gNil:TGs:=fun vs σ H Q=>vs=[]∧Q σ H
def Eo(t:TG)(u:TGs):TGs:=fun vs σ H Q=>∃v r,vs=v::r∧t v σ H fun σ' H'=>u r σ' H' Q
theorem vL:PGs X [] gNil:=by
 intro pins s σ H vs us Q I r h
 obtain⟨e,h⟩:=h
 subst e
 cases r
 exact assignInOrder_nil ⟨σ,H,I,h⟩
theorem tG{e:Expr}{es:List Expr}{t:TG}{u:TGs}(h1:PG X e t)(h2:PGs X es u)
  (hs:(assignEach (e::es) X.env).map (·.2)=assign e X.env::(assignEach es X.env).map (·.2):=by rfl):PGs X (e::es) (Eo t u):=by
 intro pins s σ H vs us Q I r h
 obtain⟨v,vr,e1,h⟩:=h
 subst e1
 cases r with
 | cons r rr =>
  rw[hs]
  refine assignInOrder_cons (thn (h1 pins s σ H _ _ _ I r h) fun _ s1 ⟨σ1,H1,I1,q1⟩=>?_)
  exact h2 pins s1 σ1 H1 _ _ Q I1 rr q1
def gTup(K:PySem.W.Frag)(n:Nat)(t:TGs):TG:=fun v σ H Q=>∃a xs,v=.ref a∧SqT K H a xs∧xs.length=n∧t xs σ H Q
theorem AC{es:List Expr}{k:Nat}{t:TGs}{n:Nat}(hc:X.calm=true)(h:PGs X es t)
  (hn:(assignEach es X.env).length=n:=by rfl) (hst:(assignEach es X.env).findIdx? (·.1)=none:=by rfl):PG X (.Tuple es k pos) (gTup X.K n t):=by
 intro pins s σ H v u Q I r hw
 obtain⟨a,xs,e1,hq,hl,hw⟩:=hw
 subst e1
 cases r
 obtain⟨its,rv,ht,hz⟩:=I.tuple hq
 refine assign_Tuple_tuple (I.ok.hd hc) ht (by simp[hn,← hl,rv.length]) hst fun h' hx=>?_
 have I1:Inv X pins σ H {s with heap:=h' }:=I.kept (t':=s.toks) fun b o e=>hx b o (Nat.ne_of_lt (Heap.lt_size e)) e
 exact h pins _ σ H xs _ Q I1 (by simpa using rv) hw
def gSub(to ti:TE)(t:TSet):TG:=fun v σ H Q=>to σ H fun o H1=>ti σ H1 fun i H2=>t o i v H2 fun H3=>Q σ H3
theorem CZ{o i:Expr}{to ti:TE}{t:TSet}(ho:PE X o to)(hi:PE X i ti)(hs:PSet X t)
  (ha:∀v,assign (.Subscript o i pos) X.env v=(do
   let ov ← holding [v] (eval o X.env)
   let iv ← holding [v,ov] (eval i X.env)
   standAt pos
   holding [v,ov,iv] (setItem ov iv v)
   release [v,ov,iv] []):=by intro _;rfl):PG X (.Subscript o i pos) (gSub to ti t):=by
 intro pins s σ H v u Q I r h
 rw[ha]
 refine wpAny_bind (wpAny_holding (thn (ho pins s σ H _ I h) fun ov s1 ⟨x,H1,I1,r1,q1⟩=>?_))
 refine wpAny_bind (wpAny_holding (thn (hi pins s1 σ H1 _ I1 q1) fun iv s2 ⟨y,H2,I2,r2,q2⟩=>?_))
 refine wpAny_bind (wpAny_standAt (wpAny_bind (wpAny_holding (thn (hs pins s2 σ H2 x y v ov iv u _ I2 r1 r2 r q2) fun _ s3 ⟨H3,I3,q3⟩=>?_))))
 exact wpAny_release ⟨σ,H3,I3,q3⟩
def tAsg(te:TE)(g:TG):TS:=fun D σ H=>te σ H fun x H1=>g x σ H1 D.nx
theorem C0{tg e:Expr}{te:TE}{g:TG}(he:PE X e te)(hg:PG X tg g)(hs:swapsWithSole [tg] e pos.line X.env=pure false:=by rfl)(hw:swappedStores [tg] e X.env=pure none:=by rfl)
  (h1:(assignEach [tg] X.env).map (·.2)=[assign tg X.env]:=by rfl):PS X (.Assign [tg] e pos) (tAsg te g):=by
 intro pins s σ H D I h
 refine wpAny_Assign_stores (thn (he pins s σ H _ I h) fun v s1 ⟨x,H1,I1,r1,q1⟩=>?_) hs hw
 rw[h1]
 exact thn (hg pins s1 σ H1 x v _ I1 r1 q1) fun _ s2 q=>q
def tPar(i j:Nat)(ta:TA):TS:=fun D σ H=>ta σ H fun vs H1=>∃v w,vs=[v,w]∧D.nx ((σ.set i (some v)).set j (some w)) H1
theorem C1{i j:Nat}{x y:Str}{a b:Expr}{ta:TA}{px py pt:Pos} {kt k2 pt2} (hc:X.calm=true) (hN:X.N.Nodup) (hi:X.N[i]?=some x) (hj:X.N[j]?=some y) (hij:i≠j)
  (hx:X.env.scope.names.lookup x=some .local) (hy:X.env.scope.names.lookup y=some .local) (ha:PA X [a,b] ta)
  (hw:swappedStores [.Tuple [.Name x px,.Name y py] kt pt] (.Tuple [a,b] k2 pt2) X.env=pure (some [x,y]))
  (hs:swapsWithSole [.Tuple [.Name x px,.Name y py] kt pt] (.Tuple [a,b] k2 pt2) pos.line X.env=pure false:=by rfl) :
  PS X (.Assign [.Tuple [.Name x px,.Name y py] kt pt] (.Tuple [a,b] k2 pt2) pos) (tPar i j ta):=by
 intro pins s σ H D I h
 rw[exec_Assign_arm]
 refine wpAny_bind (wpAny_standAt ?_)
 rw[hs]
 refine wpAny_bind (wpAny_pure ?_)
 rw[if_neg (by decide)]
 refine wpAny_bind (Tuple_ (thn (ha _ pins s σ H _ I h) fun us s1 ⟨vs,H1,I1,r1,q1⟩=>?_))
 obtain⟨v,w,e1,q1⟩:=q1
 subst e1
 obtain⟨u1,u2,rfl,rv,rw'⟩:∃u1 u2,us=[u1,u2]∧RelV v u1∧RelV w u2:=by
  cases r1 with
  | cons p q =>
   cases q with
   | cons p' q' =>
    cases q'
    exact⟨_,_,rfl,p,p'⟩
 refine wpAny_newObj_type ?_ (by show 2≤sizeLine;decide)
 have I2:Inv X pins σ H1 {s1 with heap:=s1.heap.push {cls:=.type "tuple",data:=.seq [u1,u2].toArray} }:=I1.kept (t':=s1.toks) fun b o e=>Heap.get?_push_of_some _ e
 rw[hw]
 refine wpAny_bind (wpAny_pure ?_)
 show wpAny (model X.prog X.w) X.A (do rule "assign.swapped-stores"; let items ← unpackItems (.ref s1.heap.objs.size) 2 none; assignInOrder [fun v=>bindName X.env y v,fun v=>bindName X.env x v] items.reverse; pure Flow.next) _ _ _
 refine wpAny_bind (wpAny_rule (wpAny_bind (unpackItems_tuple (items:=#[u1,u2]) (I.ok.hd hc) (IsTup.new s1.heap _) fun h' hx'=>?_)))
 have I3:=I2.kept (h':=h') (t':=s1.toks) fun b o e=>hx' b o (Nat.ne_of_lt (Heap.lt_size e)) e
 show wpAny _ _ (assignInOrder [fun v=>bindName X.env y v,fun v=>bindName X.env x v] [u2,u1] >>= fun _=>pure Flow.next) _ _ _
 refine wpAny_bind (assignInOrder_cons (wpAny_bindName (jt I3 hN hj (.inl hy) rw' (fun s2 I4=>?_) (.inr hy))))
 refine assignInOrder_cons (wpAny_bindName (jt I4 hN hi (.inl hx) rv (fun s3 I5=>assignInOrder_nil (wpAny_pure ?_)) (.inr hx)))
 rw[List.set_comm _ _ (Ne.symm hij)]at I5
 exact⟨_,H1,I5,q1⟩
end
section
variable{X:Cx}{pos:Pos}
def C2(c:TT)(tb:TS):TS:=fun D σ H=>∃W:Nat→St→Hp→Prop,(∃m,W m σ H)∧∀m σ H,W m σ H →
 c σ H fun b H1=>if b=true then ∃N:St→Hp→Prop,(∀σ' H',N σ' H'→∃m',m' < m∧W m' σ' H')∧tb {D with nx:=N,ct:=N,bk:=D.nx} σ H1 else D.nx σ H1
theorem yI{c:Expr}{body:List Stmt}{tc:TT}{tb:TS}(hp:PassesOwn (model X.prog X.w) X.A X.env X.xe)(hc:PT X c tc)(hb:PSs X body tb):PS X (.While c body [] pos) (C2 tc tb):=by
 intro pins s σ H D I h
 obtain⟨W,⟨m0,w0⟩,turn⟩:=h
 refine wpAny_While (codeAny_whileLoop (fun n s'=>∃σ' H',Inv X pins σ' H' s'∧W n σ' H') ?_ m0 ⟨σ,H,I,w0⟩)
 rintro n s1 ⟨σ1,H1,I1,w1⟩
 refine wpAny_passesOwn hp (thn (hc pins s1 σ1 H1 _ I1 (turn n σ1 H1 w1)) fun b s2 ⟨H2,I2,q2⟩=>?_)
 cases b with
 | true =>
  obtain⟨N,hN,q2⟩:=q2
  rw[if_pos rfl]
  refine wpAny_passesOwn hp (thn (hb pins s2 σ1 H2 _ I2 q2) fun f s3 q3=>?_)
  cases f with
  | next =>
   obtain⟨σ3,H3,I3,n3⟩:=q3
   obtain⟨m',hm,w3⟩:=hN σ3 H3 n3
   exact⟨m',hm,σ3,H3,I3,w3⟩
  | cont =>
   obtain⟨σ3,H3,I3,n3⟩:=q3
   obtain⟨m',hm,w3⟩:=hN σ3 H3 n3
   exact⟨m',hm,σ3,H3,I3,w3⟩
  |brk=>exact q3
  |ret v=>exact q3
 | false =>
  rw[if_neg Bool.false_ne_true]
  exact wpAny_execs_nil ⟨σ1,H2,I2,q2⟩
end
structure It where
 go:Nat→Hp→Prop
 yld:Nat→Hp→V→Hp→Prop
 stop:Nat→Hp→Prop
def FpOk(X:Cx)(pins:List (Addr×Obj))(H:Hp)(b:Addr):Prop :=
 H b=none∧b≠X.env.locals∧b∉X.fs∧(b∈X.ex∨X.s₀.heap.objs.size≤b)∧(∀x c,X.env.cells.lookup x=some c→c≠b)∧∀p∈X.pn++pins,p.1≠b
theorem Inv.fpOk{X:Cx}{pins:List (Addr×Obj)}{σ:St}{H H':Hp}{s:Shared}{b:Addr}(I:Inv X pins σ H s)(hb:s.heap.objs.size≤b)(hn:H' b=none):FpOk X pins H' b:=by
 refine⟨hn,Nat.ne_of_gt (Nat.lt_of_lt_of_le I.lt hb),I.nofs hb,.inr (Nat.le_trans I.sz hb),fun x c e z=>?_,fun p hp z=>?_⟩
 ·
  obtain⟨v,q⟩:=I.cell x c e
  exact absurd (Nat.lt_of_lt_of_le q.lt (by rw[z];exact hb)) (Nat.lt_irrefl _)
 ·
  exact absurd (Nat.lt_of_lt_of_le (Heap.lt_size (I.pin p hp).1) (by rw[z];exact hb)) (Nat.lt_irrefl _)
structure Turn (P:Program) (w:World) (K:PySem.W.Frag) (tg:Expr) (J:It) (fp:List Addr) (it:Addr) (tn:Nat→Heap→Prop):Prop where
 mem:it∈fp
 obj:∀i h,tn i h→∀b∈fp,∃o,h.get? b=some o∧∀v,o.data≠.cell v
 keep:∀i h h',tn i h→(∀b∈fp,∀o,h.get? b=some o→h'.get? b=some o)→tn i h'
 item:∀(X:Cx),X.prog=P→X.w=w→X.K=K→X.calm=true→∀(i:Nat)(pins:List (Addr×Obj))(s:Shared)(σ:St)(H:Hp)(E:Value→Shared→Prop),Inv X pins σ H s→(∀b∈fp,FpOk X pins H b)→tn i s.heap→J.go i H →
  wpAny (model P w) X.A (pyNext (.ref it)) (fun r s1=>∃u,r=some u ∧
   wpAny (model P w) X.A (letOwnedTupleGo tg (.ref it) u) (fun _ s2=>∃x H',Inv X pins σ H' s2∧RelV x u∧J.yld i H x H'∧tn (i+1) s2.heap∧∀b∈fp,H' b=none) E s1) E s
 done:∀(X:Cx),X.prog=P→X.w=w→X.K=K→X.calm=true→∀(i:Nat)(pins:List (Addr×Obj))(s:Shared)(σ:St)(H:Hp)(E:Value→Shared→Prop),Inv X pins σ H s→(∀b∈fp,FpOk X pins H b)→tn i s.heap→J.stop i H →
  wpAny (model P w) X.A (pyNext (.ref it)) (fun r s1=>r=none∧Inv X pins σ H s1) E s
 self:∀(A:Around)(i:Nat)(s:Shared)(Q:Value→Shared→Prop)(E:Value→Shared→Prop),tn i s.heap→Q (.ref it) s→wpAny (model P w) A (pyIter (.ref it)) Q E s
abbrev TI:=St→Hp→(It→Hp→Prop)→Prop
def PIE(X:Cx)(pins:List (Addr×Obj))(σ:St)(tg:Expr)(R:It→Hp→Prop)(itv:Value)(s2:Shared):Prop :=
 ∃(it:Addr)(fp:List Addr)(tn:Nat→Heap→Prop)(J:It)(H':Hp),itv=.ref it∧Inv X pins σ H' s2∧Turn X.prog X.w X.K tg J fp it tn∧tn 0 s2.heap∧(∀b∈fp,FpOk X pins H' b)∧R J H'
def PI(X:Cx)(tg iter:Expr)(wi:TI):Prop :=
 ∀(pins:List (Addr×Obj))(s:Shared)(σ:St)(H:Hp)(R:It→Hp→Prop),Inv X pins σ H s→wi σ H R →
  wpAny (model X.prog X.w) X.A (eval iter X.env) (fun v s1=>wpAny (model X.prog X.w) X.A (pyIter v) (PIE X pins σ tg R) X.xe s1) X.xe s
theorem A5 {M : Model} {A : Around} {E : Value → Shared → Prop} {s : Shared} {tg : Expr} {it : Addr} {u : Value} {o : Obj} {n : String} {vs : Array Value} {Q : Unit → Shared → Prop} (ho : s.heap.get? it = some o) (hc : o.cls = .type n) (hd : o.data = .fields vs)
    (hn : ["enumerate", "zip", "dict_itemiterator", "dict_reverseitemiterator", "odict_iterator", "itertools.zip_longest", "itertools.pairwise"].contains n = false) (hQ : Q () s) : wpAny M A (letOwnedTupleGo tg (.ref it) u) Q E s := by
  unfold letOwnedTupleGo
  cases tg<;>first
    |exact wpAny_pure hQ
    | (cases u<;>first
        |exact wpAny_pure hQ
        | (refine wpAny_bind (wpAny_load ho ?_)
           rw[hc, hd]
           show wpAny M A (if(["enumerate", "zip", "dict_itemiterator", "dict_reverseitemiterator", "odict_iterator", "itertools.zip_longest", "itertools.pairwise"].contains n && vs[0]? == some (rawInt _)) = true then _ else _) Q E s
           rw[if_neg (by intro h;rw[hn, Bool.false_and]at h;cases h)]
           exact wpAny_pure hQ))
def Itl(K:PySem.W.Frag)(a:Addr):It :=
 ⟨fun i H=>∃xs x,SqL K H a xs∧xs[i]?=some x,fun i H x H'=>H'=H∧∀xs,SqL K H a xs→xs[i]?=some x,fun i H=>∃xs,SqL K H a xs∧xs.length≤i⟩
def Itt(K:PySem.W.Frag)(a:Addr):It :=
 ⟨fun i H=>∃xs x,SqT K H a xs∧xs[i]?=some x,fun i H x H'=>H'=H∧∀xs,SqT K H a xs→xs[i]?=some x,fun i H=>∃xs,SqT K H a xs∧xs.length≤i⟩
def Itr(lo:Int)(n:Nat):It:=⟨fun i _=>i<n,fun i H x H'=>H'=H∧x=.int (lo+i),fun i _=>n≤i⟩
theorem vM{P:Program}{w:World}{K:PySem.W.Frag}{tg:Expr}(a it:Addr):Turn P w K tg (Itl K a) [it] it (fun i h=>h.IsListIter it a i) where
 mem:=by simp
 obj:=fun i h st b hb=>by
  have e:b=it:=by simpa using hb
  subst e
  obtain⟨o,e,c,d⟩:=st
  exact⟨o,e,fun v z=>by rw[d]at z;cases z⟩
 keep:=fun i h h' st k=>st.at fun o e=>k it (by simp) o e
 item:=by
  intro X hP hw hK hc i pins s σ H E I hf st hg
  subst hP hw hK
  obtain⟨xs,x,hq,hx⟩:=hg
  obtain⟨its,rv,p,hz⟩:=I.list hq
  obtain⟨u,hu,ru⟩:=rv.get hx
  obtain⟨f0,f1,f2,f3,f4,f5⟩:=hf it (by simp)
  refine wpAny_pyNext_list_item st p.isList (x:=u) (by simpa using hu) fun h' st' sb=>?_
  have I1:Inv X pins σ H {s with heap:=h' }:=I.turned (t':=s.toks) (fun b o hb e=>(sb.2 b hb).trans e) f0 f1 f3 f4 f5
  obtain⟨o,e,c,d⟩:=id st'
  exact⟨u,rfl,A5 (s:={s with heap:=h' }) e c d (by decide) ⟨x,H,I1,ru,⟨rfl,fun ys hy=>by rw[I.list_inj hy hq];exact hx⟩,st',fun b hb=>(hf b hb).1⟩⟩
 done:=by
  intro X hP hw hK hc i pins s σ H E I hf st hg
  subst hP hw hK
  obtain⟨xs,hq,hx⟩:=hg
  obtain⟨its,rv,p,hz⟩:=I.list hq
  obtain⟨f0,f1,f2,f3,f4,f5⟩:=hf it (by simp)
  have hl:=rv.length
  exact wpAny_pyNext_list_end (I.ok.hd hc) st p.isList (by simp;omega) fun h' eb=>⟨rfl,I.turned (t':=s.toks) (fun b o hb e=>eb b o hb e) f0 f1 f3 f4 f5⟩
 self:=fun _ _ _ _ _ st h=>wpAny_pyIter_listiter st h
theorem uN{P:Program}{w:World}{K:PySem.W.Frag}{tg:Expr}(a it:Addr):Turn P w K tg (Itt K a) [it] it (fun i h=>h.IsTupleIter it a i) where
 mem:=by simp
 obj:=fun i h st b hb=>by
  have e:b=it:=by simpa using hb
  subst e
  obtain⟨o,e,c,d⟩:=st
  exact⟨o,e,fun v z=>by rw[d]at z;cases z⟩
 keep:=fun i h h' st k=>st.at fun o e=>k it (by simp) o e
 item:=by
  intro X hP hw hK hc i pins s σ H E I hf st hg
  subst hP hw hK
  obtain⟨xs,x,hq,hx⟩:=hg
  obtain⟨its,rv,p,hz⟩:=I.tuple hq
  obtain⟨u,hu,ru⟩:=rv.get hx
  obtain⟨f0,f1,f2,f3,f4,f5⟩:=hf it (by simp)
  refine wpAny_pyNext_tuple_item st (show s.heap.IsTuple a its.toArray from p) (x:=u) (by simpa using hu) fun h' st' sb=>?_
  have I1:Inv X pins σ H {s with heap:=h' }:=I.turned (t':=s.toks) (fun b o hb e=>(sb.2 b hb).trans e) f0 f1 f3 f4 f5
  obtain⟨o,e,c,d⟩:=id st'
  exact⟨u,rfl,A5 (s:={s with heap:=h' }) e c d (by decide) ⟨x,H,I1,ru,⟨rfl,fun ys hy=>by rw[I.tuple_inj hy hq];exact hx⟩,st',fun b hb=>(hf b hb).1⟩⟩
 done:=by
  intro X hP hw hK hc i pins s σ H E I hf st hg
  subst hP hw hK
  obtain⟨xs,hq,hx⟩:=hg
  obtain⟨its,rv,p,hz⟩:=I.tuple hq
  obtain⟨f0,f1,f2,f3,f4,f5⟩:=hf it (by simp)
  have hl:=rv.length
  exact wpAny_pyNext_tuple_end (I.ok.hd hc) st (show s.heap.IsTuple a its.toArray from p) (by simp;omega) fun h' eb=>⟨rfl,I.turned (t':=s.toks) (fun b o hb e=>eb b o hb e) f0 f1 f3 f4 f5⟩
 self:=fun _ _ _ _ _ st h=>wpAny_pyIter_tupleiter st h
theorem uO{P:Program}{w:World}{K:PySem.W.Frag}{tg:Expr}(it:Addr)(lo:Int)(n:Nat):Turn P w K tg (Itr lo n) [it] it (fun i h=>IsRangeIter h it (lo+(i:Nat)*1) ((n:Int)-(i:Nat)) 1) where
 mem:=by simp
 obj:=fun i h st b hb=>by
  have e:b=it:=by simpa using hb
  subst e
  exact⟨_,st,fun v z=>by
   have z':Data.fields _=Data.cell v:=z
   cases z'⟩
 keep:=fun i h h' st k=>k it (by simp) _ st
 item:=by
  intro X hP hw hK hc i pins s σ H E I hf st hg
  subst hP hw hK
  obtain⟨f0,f1,f2,f3,f4,f5⟩:=hf it (by simp)
  have W:=Walks.range (prog:=X.prog) (w:=X.w) (I.ok.hd hc) it lo 1 n
  refine W.item i s _ _ hg st fun v h' tk hv st' kk=>?_
  obtain⟨t,rfl⟩:=hv
  have I1:Inv X pins σ H {s with heap:=h',toks:=tk}:=I.turned (fun b o hb e=>kk b o (by simpa using hb) e) f0 f1 f3 f4 f5
  refine⟨_,rfl,A5 (s:={s with heap:=h',toks:=tk}) (n:="range_iterator") st' rfl rfl (by decide) ⟨.int (lo+i),H,I1,⟨t,?_⟩,⟨rfl,rfl⟩,st',fun b hb=>(hf b hb).1⟩⟩
  rw[Int.mul_one]
 done:=by
  intro X hP hw hK hc i pins s σ H E I hf st hg
  subst hP hw hK
  obtain⟨f0,f1,f2,f3,f4,f5⟩:=hf it (by simp)
  exact wpAny_pyNext_range_end (I.ok.hd hc) st (by have:n≤i:=hg;omega) fun h' eb=>⟨rfl,I.turned (t':=s.toks) (fun b o hb e=>eb b o hb e) f0 f1 f3 f4 f5⟩
 self:=fun _ _ _ _ _ st h=>wpAny_pyIter_rangeiter st h
section
variable{X:Cx}{tg:Expr}
theorem tH{pins:List (Addr×Obj)}{σ:St}{H:Hp}{s:Shared}{R:It→Hp→Prop}{E:Value→Shared→Prop}{lo hi:Int}{t u v:Tok}{tk:Nat}(I:Inv X pins σ H s)(h1 : -(2^62)≤lo)(h2:lo<2^62)(h3 : -(2^62)≤hi)(h4:hi<2^62)
  (q:R (Itr lo (hi-lo).toNat) H):wpAny (model X.prog X.w) X.A (pyIter (.ref s.heap.objs.size)) (PIE X pins σ tg R) E {s with heap:=s.heap.push {cls:=.type "range",data:=.fields #[.int lo t,.int hi u,.int 1 v] },toks:=tk}:=by
 refine wpAny_pyIter_range (IsRange.new ..) (small_one h1 h2 h3 h4) ?_
 have I1:Inv X pins σ H {s with heap:=s.heap.push {cls:=.type "range",data:=.fields #[.int lo t,.int hi u,.int 1 v] },toks:=tk}:=I.kept fun b o e=>Heap.get?_push_of_some _ e
 refine⟨(s.heap.push {cls:=.type "range",data:=.fields #[.int lo t,.int hi u,.int 1 v] }).objs.size,[(s.heap.push {cls:=.type "range",data:=.fields #[.int lo t,.int hi u,.int 1 v] }).objs.size],_,_,H,rfl,
  I1.kept (t':=tk) fun b o e=>Heap.get?_push_of_some _ e,uO _ lo (hi-lo).toNat,?_,fun b hb=>?_,q⟩
 ·
  have e1:lo+((0:Nat):Int)*1=lo:=by simp
  have e2:(((hi-lo).toNat:Nat):Int)-((0:Nat):Int)=Builtin.Range.rangeSize lo hi 1:=by rw[rangeSize_one];split<;>omega
  show IsRangeIter _ _ (lo+((0:Nat):Int)*1) ((((hi-lo).toNat:Nat):Int)-((0:Nat):Int)) 1
  rw[e1,e2]
  exact Heap.get?_push_size _ rfl
 ·
  have e:b=(s.heap.push {cls:=.type "range",data:=.fields #[.int lo t,.int hi u,.int 1 v] }).objs.size:=by simpa using hb
  subst e
  exact I1.fpOk (Nat.le_refl _) (I1.hok.fresh (Nat.le_refl _))
def Ep(ta:TA):TI:=fun σ H R=>ta σ H fun vs H1=>∃j:Int,vs=[.int j]∧-(2^62)≤j∧j<2^62∧R (Itr 0 j.toNat) H1
def Er(ta:TA):TI:=fun σ H R=>ta σ H fun vs H1=>∃i j:Int,vs=[.int i,.int j]∧(-(2^62)≤i∧i<2^62∧-(2^62)≤j∧j<2^62)∧R (Itr i (j-i).toNat) H1
theorem vN{a:Expr}{ta:TA}{p pos:Pos} (hg:Gl X "range") (hm:X.mg "range"=none) (ha:PA X [a] ta) (hs:starEach [a] X.env=[(false,eval a X.env)]:=by rfl):PI X tg (.Call (.Name "range" p) [a] [] pos) (Ep ta):=by
 intro pins s σ H R I h
 refine Call_ (ij I hg hm boot_range (PyProof.Rows.callWith_type1 (thn (ha pos pins s σ H _ I h) fun us s1 ⟨vs,H1,I1,r1,q1⟩=>?_) hs rfl))
 obtain⟨j,e,q1,q2,q⟩:=q1
 subst e
 cases r1 with
 | cons r rr =>
  cases rr
  obtain⟨t,rfl⟩:=r
  exact call_range_1 (tH I1 (by omega) (by omega) q1 q2 (by simpa using q))
theorem vO{a b:Expr}{ta:TA}{p pos:Pos} (hg:Gl X "range") (hm:X.mg "range"=none) (ha:PA X [a,b] ta) (hs:starEach [a,b] X.env=[(false,eval a X.env),(false,eval b X.env)]:=by rfl) (hs2:starEach [b] X.env=[(false,eval b X.env)]:=by rfl) :
  PI X tg (.Call (.Name "range" p) [a,b] [] pos) (Er ta):=by
 intro pins s σ H R I h
 refine Call_ (ij I hg hm boot_range (PyProof.Rows.callWith_type1 (thn (ha pos pins s σ H _ I h) fun us s1 ⟨vs,H1,I1,r1,q1⟩=>?_) (by rw[hs,hs2]) (by rw[hs2];rfl)))
 obtain⟨i,j,e,⟨q1,q2,q3,q4⟩,q⟩:=q1
 subst e
 cases r1 with
 | cons r rr =>
  cases rr with
  | cons r' rr =>
   cases rr
   obtain⟨t,rfl⟩:=r
   obtain⟨t',rfl⟩:=r'
   exact call_range_2 (tH I1 q1 q2 q3 q4 q)
def pJ(fp:List Addr)(h:Heap):List (Addr×Obj):=fp.filterMap fun b=>(h.get? b).map fun o=>(b,o)
theorem g6{fp:List Addr}{h:Heap}{b:Addr}{o:Obj}(hb:b∈fp)(e:h.get? b=some o):(b,o)∈pJ fp h:=List.mem_filterMap.mpr ⟨b,hb,by rw[e];rfl⟩
theorem vP{fp:List Addr}{h:Heap}{p:Addr×Obj}(hp:p∈pJ fp h):p.1∈fp∧h.get? p.1=some p.2:=by
 obtain⟨b,hb,e⟩:=List.mem_filterMap.mp hp
 cases q:h.get? b with
 |none=>rw[q]at e;cases e
 | some o =>
  rw[q]at e
  have e':(b,o)=p:=Option.some.inj e
  subst e'
  exact⟨hb,q⟩
theorem Inv.pinned{pins:List (Addr×Obj)}{σ:St}{H:Hp}{s:Shared}{fp:List Addr}(I:Inv X pins σ H s)(hf:∀b∈fp,FpOk X pins H b)(ho:∀b∈fp,∃o,s.heap.get? b=some o∧∀v,o.data≠.cell v):Inv X (pins++pJ fp s.heap) σ H s :=
 I.pins_of fun p hp=>(List.mem_append.mp hp).elim (fun z=>I.pin p (List.mem_append_right _ z)) fun z=>by
  obtain⟨hb,e⟩:=vP z
  obtain⟨f0,f1,f2,_⟩:=hf p.1 hb
  obtain⟨o,e',d⟩:=ho p.1 hb
  rw[e]at e';cases e'
  exact⟨e,f0,f1,f2,d⟩
theorem Inv.unpinned{pins pl:List (Addr×Obj)}{σ:St}{H:Hp}{s:Shared}(I:Inv X (pins++pl) σ H s):Inv X pins σ H s:=I.pins_of fun p hp=>I.pin p (List.mem_append_right _ (List.mem_append_left _ hp))
end
abbrev R2:=V→V→Hp→VK→Prop
def OpR(X:Cx)(f:Value→Value→Sem Value)(r:R2):Prop :=
 ∀(pins:List (Addr×Obj))(s:Shared)(σ:St)(H:Hp)(x y:V)(v u:Value)(Q:VK),Inv X pins σ H s→RelV x v→RelV y u→r x y H Q →
  wpAny (model X.prog X.w) X.A (f v u) (EP X pins σ Q) X.xe s
def UnR(X:Cx)(f:Value→Sem Value)(r:V→Hp→VK→Prop):Prop :=
 ∀(pins:List (Addr×Obj))(s:Shared)(σ:St)(H:Hp)(x:V)(v:Value)(Q:VK),Inv X pins σ H s→RelV x v→r x H Q →
  wpAny (model X.prog X.w) X.A (f v) (EP X pins σ Q) X.xe s
def iU(X:Cx)(f:Value)(r:List V→Hp→VK→Prop):Prop :=
 ∀(pins:List (Addr×Obj))(s:Shared)(σ:St)(H:Hp)(xs:List V)(us:List Value)(Q:VK),Inv X pins σ H s→Vals xs us→r xs H Q →
  wpAny (model X.prog X.w) X.A (call f us) (EP X pins σ Q) X.xe s
def tOp(r:R2)(ta tb:TE):TE:=fun σ H Q=>ta σ H fun x H1=>tb σ H1 fun y H2=>r x y H2 Q
def rI(C:Int→Int→Prop)(g:Int→Int→V):R2:=fun x y H Q=>∃i j,x=.int i∧y=.int j∧C i j∧Q (g i j) H
def rI0(g:Int→Int→V):R2:=fun x y H Q=>∃i j,x=.int i∧y=.int j∧Q (g i j) H
def rU(g:Int→V):V→Hp→VK→Prop:=fun x H Q=>∃i,x=.int i∧Q (g i) H
section
variable{X:Cx}{a b:Expr}{ta tb:TE}
theorem binT(ha:PE X a ta)(hb:PE X b tb){pins:List (Addr×Obj)}{s:Shared}{σ:St}{H:Hp}{R:V→V→Hp→Prop}(I:Inv X pins σ H s)
  (h:ta σ H fun x H1=>tb σ H1 fun y H2=>R x y H2) {Q:Value→Shared→Prop} {f:Value→Value→Sem Value}
  (hf:∀v u s2 x y H2,Inv X pins σ H2 s2→RelV x v→RelV y u→R x y H2→wpAny (model X.prog X.w) X.A (f v u) Q X.xe s2) :
  wpAny (model X.prog X.w) X.A (eval a X.env) (fun v s₁=>wpAny (model X.prog X.w) X.A (eval b X.env) (fun u s₂=>wpAny (model X.prog X.w) X.A (f v u) Q X.xe s₂) X.xe s₁) X.xe s:=by
 refine thn (ha pins s σ H _ I h) fun v s1 ⟨x,H1,I1,r1,q1⟩=>?_
 refine thn (hb pins s1 σ H1 _ I1 q1) fun u s2 ⟨y,H2,I2,r2,q2⟩=>?_
 exact hf v u s2 x y H2 I2 r1 r2 q2
theorem opI{f:Value→Value→Sem Value}{C:Int→Int→Prop}{g:Int→Int→Int}
  (rule:∀(i j:Int)(t u:Tok)(s:Shared)(Q:Value→Shared→Prop)(E:Value→Shared→Prop),C i j→Q (.int (g i j) s.toks) {s with toks:=s.toks+1}→wpAny (model X.prog X.w) X.A (f (.int i t) (.int j u)) Q E s) :
  OpR X f (rI C fun i j=>.int (g i j)):=by
 intro pins s σ H x y v u Q I rx ry h
 obtain⟨i,j,rfl,rfl,hc,q⟩:=h
 obtain⟨t,rfl⟩:=rx
 obtain⟨t',rfl⟩:=ry
 exact rule i j t t' s _ _ hc ⟨.int (g i j),H,I.tok _,⟨_,rfl⟩,q⟩
theorem opI0{f:Value→Value→Sem Value}{g:Int→Int→Int}
  (rule:∀(i j:Int)(t u:Tok)(s:Shared)(Q:Value→Shared→Prop)(E:Value→Shared→Prop),Q (.int (g i j) s.toks) {s with toks:=s.toks+1}→wpAny (model X.prog X.w) X.A (f (.int i t) (.int j u)) Q E s) :
  OpR X f (rI0 fun i j=>.int (g i j)):=by
 intro pins s σ H x y v u Q I rx ry h
 obtain⟨i,j,rfl,rfl,q⟩:=h
 obtain⟨t,rfl⟩:=rx
 obtain⟨t',rfl⟩:=ry
 exact rule i j t t' s _ _ ⟨.int (g i j),H,I.tok _,⟨_,rfl⟩,q⟩
theorem opB0{f:Value→Value→Sem Value}{g:Int→Int→Bool}
  (rule:∀(i j:Int)(t u:Tok)(s:Shared)(Q:Value→Shared→Prop)(E:Value→Shared→Prop),Q (.bool (g i j)) s→wpAny (model X.prog X.w) X.A (f (.int i t) (.int j u)) Q E s) :
  OpR X f (rI0 fun i j=>.bl (g i j)):=by
 intro pins s σ H x y v u Q I rx ry h
 obtain⟨i,j,rfl,rfl,q⟩:=h
 obtain⟨t,rfl⟩:=rx
 obtain⟨t',rfl⟩:=ry
 exact rule i j t t' s _ _ ⟨.bl (g i j),H,I,rfl,q⟩
def CPow(i j:Int):Prop:=0≤j∧j≤1000000∧i.natAbs<2^64
def CMul(i j:Int):Prop:=(-(2^64)<i∧i<2^64)∨(-(2^64)<j∧j<2^64)
theorem CMul.ok{i j:Int}(h:CMul i j):IntMulOk i j:=by
 rcases h with⟨h1,h2⟩|⟨h1,h2⟩
 ·
  exact .of_left (intBits_le_64 h1 h2)
 ·
  exact .of_right (intBits_le_64 h1 h2)
theorem C3:OpR X (binaryOp .Add) (rI0 fun i j=>.int (i+j)):=opI0 fun _ _ _ _ _ _ _ q=>add_int q
theorem C4:OpR X (binaryOp .Sub) (rI0 fun i j=>.int (i-j)):=opI0 fun _ _ _ _ _ _ _ q=>sub_int q
theorem A6:OpR X (binaryOp .Mod) (rI (fun _ j=>j≠0) fun i j=>.int (i.fmod j)):=opI fun _ _ _ _ _ _ _ hc q=>mod_int' hc q
theorem C5:OpR X (binaryOp .Pow) (rI CPow fun i j=>.int (i^j.toNat)):=opI fun _ _ _ _ _ _ _ hc q=>pow_int_small hc.1 hc.2.1 hc.2.2 q
theorem unI{f:Value→Sem Value}{g:Int→Int}
  (rule:∀(i:Int)(t:Tok)(s:Shared)(Q:Value→Shared→Prop)(E:Value→Shared→Prop),Q (.int (g i) s.toks) {s with toks:=s.toks+1}→wpAny (model X.prog X.w) X.A (f (.int i t)) Q E s) :
  UnR X f (rU fun i=>.int (g i)):=by
 intro pins s σ H x v Q I rx h
 obtain⟨i,rfl,q⟩:=h
 obtain⟨t,rfl⟩:=rx
 exact rule i t s _ _ ⟨.int (g i),H,I.tok _,⟨_,rfl⟩,q⟩
theorem C6:UnR X (unaryOp .USub) (rU fun i=>.int (-i)):=unI fun _ _ _ _ _ q=>neg_int q
end
section
variable{X:Cx}{a b c:Expr}{ta tb tc:TE}{pos:Pos}
theorem AD{pins:List (Addr×Obj)}{σ:St}{H:Hp}{s:Shared}{Q:VK}{k k':Bool}(I:Inv X pins σ H s)(q:Q (.bl k) H)(e:k=k'):EP X pins σ Q (.bool k') s:=by
 subst e
 exact⟨.bl k,H,I,rfl,q⟩
theorem C7:OpR X (compareOp .Lt) (rI0 fun i j=>.bl (decide (i<j))):=opB0 fun _ _ _ _ _ _ _ q=>lt_int q
theorem Es:OpR X (compareOp .LtE) (rI0 fun i j=>.bl (decide (i≤j))):=opB0 fun _ _ _ _ _ _ _ q=>le_int q
theorem Et:OpR X (compareOp .Gt) (rI0 fun i j=>.bl (decide (j<i))):=opB0 fun _ _ _ _ _ _ _ q=>gt_int q
theorem Eu:OpR X (compareOp .GtE) (rI0 fun i j=>.bl (decide (j≤i))):=opB0 fun _ _ _ _ _ _ _ q=>ge_int q
theorem C8:OpR X (compareOp .Is) (fun x y H Q=>y=.non∧Q (.bl (decide (x=.non))) H):=by
 intro pins s σ H x y v u Q I rx ry h
 obtain⟨rfl,q⟩:=h
 cases ry
 refine is_none_gen (AD I q ?_)
 cases x<;>first
  |(cases rx;rfl)
  |(obtain⟨t,rfl⟩:=rx;rfl)
theorem A7:OpR X (compareOp .IsNot) (fun x y H Q=>y=.non∧Q (.bl (!decide (x=.non))) H):=by
 intro pins s σ H x y v u Q I rx ry h
 obtain⟨rfl,q⟩:=h
 cases ry
 refine isnot_none_gen (AD I q ?_)
 cases x<;>first
  |(cases rx;rfl)
  |(obtain⟨t,rfl⟩:=rx;rfl)
theorem aZ(b:Expr){op:CmpOp}(h:op≠.In:=by decide)(h2:op≠.NotIn:=by decide):behindInMarks op b=false:=by
 have e1:(op == CmpOp.In)=false:=by cases op<;>first|rfl|exact absurd rfl h
 have e2:(op == CmpOp.NotIn)=false:=by cases op<;>first|rfl|exact absurd rfl h2
 cases b<;>simp[behindInMarks,e1,e2]
def AE(r r':R2)(ta tb tc:TE):TE:=fun σ H Q=>ta σ H fun x H1=>tb σ H1 fun y H2=>r x y H2 fun z H3=>∃k,z=.bl k ∧
 (if k=true then tc σ H3 fun w' H4=>r' y w' H4 Q else Q (.bl false) H3)
theorem yJ{op op':CmpOp}{r r':R2}(ho:OpR X (compareOp op) r)(ho':OpR X (compareOp op') r')(ha:PE X a ta)(hb:PE X b tb)(hc:PE X c tc)
  (hm:lastMarks [op,op'] [b,c]=false:=by with_unfolding_all rfl):PE X (.Compare a [op,op'] [b,c] pos) (AE r r' ta tb tc):=by
 intro pins s σ H Q I h
 refine Compare_chain (thn (ha pins s σ H _ I h) fun v s1 ⟨x,H1,I1,r1,q1⟩=>chain_link (thn (hb pins s1 σ H1 _ I1 q1) fun u s2 ⟨y,H2,I2,r2,q2⟩ =>
  thn (ho pins s2 σ H2 x y v u _ I2 r1 r2 q2) fun d s3 ⟨z,H3,I3,r3,k,e,q3⟩=>?_)) hm
 subst e
 cases r3
 refine wpAny_truthy_bool ?_
 cases k with
 |false=>exact ite_ff ⟨.bl false,H3,I3,rfl,q3⟩
 |true=>exact ite_tt (chain_last (thn (hc pins s3 σ H3 _ I3 q3) fun w' s4 ⟨z',H4,I4,r4,q4⟩=>ho' pins s4 σ H4 y z' u w' Q I4 r2 r4 q4))
theorem nr:(sizeLine:Nat)<2^63:=by rw[sizeLine_eq];decide
theorem uP:OpR X (binaryOp .Add) (fun x y H Q=>∃i j,x=.str i∧y=.str j∧i.length+j.length≤sizeLine∧Q (.str (i++j)) H):=by
 intro pins s σ H x y v u Q I rx ry h
 obtain⟨i,j,rfl,rfl,hz,q⟩:=h
 obtain⟨t,rfl⟩:=rx
 obtain⟨t',rfl⟩:=ry
 exact add_str (fun t' tk=>⟨.str (i++j),H,I.tok _,⟨_,rfl⟩,q⟩) hz
theorem rl{x:V}{us:List Value}(r:Vals [x] us):∃u,us=[u]∧RelV x u:=by
 cases r with
 |cons r1 r2=>cases r2;exact⟨_,rfl,r1⟩
theorem yK{x y:V}{us:List Value}(r:Vals [x,y] us):∃u w',us=[u,w']∧RelV x u∧RelV y w':=by
 cases r with
 | cons r1 r2 =>
  cases r2 with
  |cons r3 r4=>cases r4;exact⟨_,_,rfl,r1,r3⟩
theorem yL:iU X (.builtin "abs") (fun xs H Q=>∃ i,xs=[.int i]∧Q (.int (if i < 0 then -i else i)) H):=by
 intro pins s σ H xs us Q I r h
 obtain⟨i,rfl,q⟩:=h
 obtain⟨u,rfl,t,rfl⟩:=rl r
 exact call_abs_int fun u tk=>⟨.int (if i<0 then -i else i),H,I.tok _,⟨_,rfl⟩,q⟩
theorem vQ(hc:X.calm=true):iU X (.builtin "max") (fun xs H Q=>∃ i j,xs=[.int i,.int j]∧Q (.int (if j > i then j else i)) H):=by
 intro pins s σ H xs us Q I r h
 obtain⟨i,j,rfl,q⟩:=h
 obtain⟨u,w',rfl,⟨t,rfl⟩,⟨t',rfl⟩⟩:=yK r
 refine max_two_ints (I.ok.hd hc) fun h' tk k=>⟨_,H,I.kept k,?_,q⟩
 by_cases hj:j > i
 ·
  rw[if_pos hj,if_pos hj];exact⟨_,rfl⟩
 ·
  rw[if_neg hj,if_neg hj];exact⟨_,rfl⟩
theorem vR(hc:X.calm=true):iU X (.builtin "min") (fun xs H Q=>∃ i j,xs=[.int i,.int j]∧Q (.int (if j < i then j else i)) H):=by
 intro pins s σ H xs us Q I r h
 obtain⟨i,j,rfl,q⟩:=h
 obtain⟨u,w',rfl,⟨t,rfl⟩,⟨t',rfl⟩⟩:=yK r
 refine min_two_ints (I.ok.hd hc) fun h' tk k=>⟨_,H,I.kept k,?_,q⟩
 by_cases hj:j<i
 ·
  rw[if_pos hj,if_pos hj];exact⟨_,rfl⟩
 ·
  rw[if_neg hj,if_neg hj];exact⟨_,rfl⟩
theorem vS:iU X (.type "int") (fun xs H Q=>(∃ i,xs=[.int i]∧Q (.int i) H)∨∃ k,xs=[.bl k]∧Q (.int (if k then 1 else 0)) H):=by
 intro pins s σ H xs us Q I r h
 rcases h with⟨i,rfl,q⟩|⟨k,rfl,q⟩
 ·
  obtain⟨u,rfl,t,rfl⟩:=rl r
  exact call_int_int ⟨.int i,H,I,⟨_,rfl⟩,q⟩
 ·
  obtain⟨u,rfl,r1⟩:=rl r
  cases r1
  exact call_int_bool ⟨.int (if k then 1 else 0),H,I.tok _,⟨_,rfl⟩,q⟩
end
structure Room (k:Nat) (A:Around):Prop where
 hd:A.handled=none
 dp:A.depth+3*k+5<recursionLimit
 un:A.units+16*k+200<cLine
 gd:A.guards=some []
theorem Room.mono{j k:Nat}{A:Around}(r:Room k A)(h:j≤k):Room j A:=⟨r.hd,by have:=r.dp;omega,by have:=r.un;omega,r.gd⟩
theorem Room.deeper{k:Nat}{A:Around}(r:Room (k+1) A)(env:Env):Room k (A.deeper env) :=
 ⟨r.hd,by have:=r.dp;show A.depth+1+3*k+5<_;omega,by have:=r.un;show A.units+3+16*k+200<_;omega,r.gd⟩
theorem uQ{A:Around}{C:Addr}{us:List Value}{kw:List (Str×Value)}:(A.under (.builtin "type.__call__" ⟨.ref C::us,kw⟩)).depth=A.depth+1:=by
 first|rfl|simp[Around.under,Code.weight,Code.isCreation,Code.isGuard,Code.isCaller,Code.frames,Code.isFrame,guardIds]
theorem uR{A:Around}{C:Addr}{us:List Value}{kw:List (Str×Value)}:(A.under (.builtin "type.__call__" ⟨.ref C::us,kw⟩)).units=A.units+1:=by
 first|rfl|simp[Around.under,Code.cUnits,Code.frames,Code.isFrame]
theorem Room.make{k:Nat}{A:Around}(r:Room (k+1) A)(C:Addr)(us:List Value)(kw:List (Str×Value)):Room k (A.under (.builtin "type.__call__" ⟨.ref C::us,kw⟩)) :=
 ⟨r.hd,by have:=r.dp;rw[uQ];omega,by have:=r.un;rw[uR];omega,by rw[← r.gd];first|rfl|simp[Around.under,Code.guards,Code.isGuard,pushGuards,guardIds]⟩
theorem Room.depth{k:Nat}{A:Around}(r:Room k A):A.depth<recursionLimit:=by have:=r.dp;omega
theorem Room.units{k:Nat}{A:Around}(r:Room k A):A.units+64<cLine:=by have:=r.un;omega
def tNil:TA:=fun _ H Q=>Q [] H
def vT(ta:TE)(tr:TA):TA:=fun σ H Q=>ta σ H fun x H1=>tr σ H1 fun xs H2=>Q (x::xs) H2
section
variable{X:Cx}{e:Expr}{es:List Expr}{te:TE}{t:TA}{pos:Pos}
theorem ik:PA X [] tNil:=fun _ _ _ _ H Q I h=>Calls.spliced_nil ⟨[],H,I,.nil,h⟩
theorem cb(ha:PE X e te)(hr:PA X es t)(hs:starEach (e::es) X.env=(false,eval e X.env)::starEach es X.env:=by rfl):PA X (e::es) (vT te t):=by
 intro pos pins s σ H Q I h
 rw[hs]
 show wpAny _ _ (spliced ((false,eval e X.env)::backTo pos (starEach es X.env))) _ _ s
 refine Calls.spliced_cons (thn (ha pins s σ H _ I h) fun u s1 ⟨x,H1,I1,r1,q1⟩=>?_)
 exact thn (hr pos pins s1 σ H1 _ I1 q1) fun us s2 ⟨xs,H2,I2,r2,q2⟩=>⟨x::xs,H2,I2,.cons r1 r2,q2⟩
end
abbrev Sp:=List V→Hp→VK→XK→Prop
abbrev CXT:=List Env→Hp→Shared→XK→Value→Shared→Prop
structure Env0 (P:Program) (w:World) (K:PySem.W.Frag) (mg:Str→Option Value) (base:Heap) (A:Around) (outer:List Env) (s:Shared) (H:Hp):Prop where
 frames:A.frames=some outer
 mod:Mod K mg base
 bs:∀b o,base.get? b=some o→s.heap.get? b=some o∧H b=none
 bsz:base.objs.size≤s.heap.objs.size
 funs:s.heap.FunFrames base outer
 frf:∀b∈frs outer,H b=none
 hok:HOk P w H s.heap
 bare:AllBare s.gens
 tbs:Tbs K H
def CE(outer:List Env)(P:Program)(w:World)(H:Hp)(s:Shared)(Q:VK)(u:Value)(s':Shared):Prop :=
 ∃v H',s'.os=s.os∧AllBare s'.gens∧Un (frs outer) [] H H' s.heap s'.heap∧HOk P w H' s'.heap∧RelV v u∧Q v H'
def CR(CX:CXT)(outer:List Env)(P:Program)(w:World)(H:Hp)(s:Shared)(Q:VK)(E:XK)(r:Result)(s':Shared):Prop :=
 match r with
 |.ok (.ret u)=>CE outer P w H s Q u s'
 |.ok _=>False
 |.error e=>CX outer H s E e s'
structure FnOk (P:Program) (w:World) (K:PySem.W.Frag) (mg:Str→Option Value) (base:Heap) (CX:CXT) (k:Nat) (f:Addr) (fd:FuncData) (ps:List Str) (sp:Sp):Prop where
 len:∀vs H Q E,sp vs H Q E→vs.length=ps.length
 run:∀(A:Around)(outer:List Env)(s:Shared)(H:Hp)(args:Args)(us:List Value)(vs:List V)(Q:VK)(E:XK),Room k A→Env0 P w K mg base A outer s H→BindsTo s fd args (ps.zip us)→Vals vs us→sp vs H Q E →
  codeAny (model P w) A (.call (.ref f) args) (CR CX outer P w H s Q E) s
theorem FnOk.mono{P:Program}{w:World}{K:PySem.W.Frag}{mg:Str→Option Value}{base:Heap}{CX:CXT}{j k:Nat}{f:Addr}{fd:FuncData}{ps:List Str}{sp:Sp}(F:FnOk P w K mg base CX j f fd ps sp)(h:j≤k) :
  FnOk P w K mg base CX k f fd ps sp:=⟨F.len,fun A outer s H args us vs Q E hr=>F.run A outer s H args us vs Q E (hr.mono h)⟩
theorem Env0.make{P:Program}{w:World}{K:PySem.W.Frag}{mg:Str→Option Value}{base:Heap}{A:Around}{outer:List Env}{s:Shared}{H:Hp}(e:Env0 P w K mg base A outer s H)(C:Addr)(us:List Value)(kw:List (Str×Value)) :
  Env0 P w K mg base (A.under (.builtin "type.__call__" ⟨.ref C::us,kw⟩)) outer s H:=⟨by first | exact e.frames | (simpa[Around.under,Code.envs,Code.isFrame,pushEnvs]using e.frames),e.mod,e.bs,e.bsz,e.funs,e.frf,e.hok,e.bare,e.tbs⟩
section
variable{X:Cx}{pins:List (Addr×Obj)}{σ:St}{H:Hp}{s s':Shared}
theorem Inv.env0(I:Inv X pins σ H s):Env0 X.prog X.w X.K X.mg X.base X.A X.stack s H :=
 ⟨I.ok.frames,I.ok.mod,I.bs,Nat.le_trans I.ok.bsz I.sz,I.stack,I.stkFree,I.hok,I.bare,I.tbs⟩
theorem Inv.after{Q:VK}{u:Value}(I:Inv X pins σ H s)(h:CE X.stack X.prog X.w H s Q u s'):EP X pins σ Q u s':=by
 obtain⟨v,H',os,bare,un,hok,r,q⟩:=h
 obtain⟨hh,g,d,t,os'⟩:=s'
 obtain rfl:os'=s.os:=os
 exact⟨v,H',I.call (h':=hh) (g':=g) (d':=d) (t':=t) (ch:=[]) un hok bare (fun b z=>absurd z (by simp)),r,q⟩
end
def kf(K:PySem.W.Frag)(fd:FuncData)(ps:List Str)(ds:List Value):Prop :=
 ∀(s:Shared)(us:List Value),K.In s.heap→(us++ds).length=ps.length→BindsTo s fd ⟨us,[]⟩ (ps.zip (us++ds))
theorem kf.all{K:PySem.W.Frag}{fd:FuncData}{ps:List Str}(h:∀us:List Value,us.length=ps.length→bindArgs fd ⟨us,[]⟩=pure (ps.zip us)):kf K fd ps []:=fun s us _ hl=>by
 rw[List.append_nil]at hl ⊢
 exact .of_eq (h us hl)
def tI(CX:CXT)(X:Cx)(E:XK):Prop:=∀(pins:List (Addr×Obj))(σ:St)(H:Hp)(s:Shared)(e:Value)(s':Shared),Inv X pins σ H s→CX X.stack H s E e s'→X.xe e s'
section
variable{X:Cx}{CX:CXT}{k:Nat}{f:Addr}{fd:FuncData}{ps:List Str}{sp:Sp}{dvs:List V}{ds:List Value}{E:XK}{e:Expr}
theorem vU{pins:List (Addr×Obj)}{σ:St}{H:Hp}{s:Shared}{Q:VK}{us:List Value}{vs:List V}(F:FnOk X.prog X.w X.K X.mg X.base CX k f fd ps sp)(hr:Room k X.A)(hb:kf X.K fd ps ds)(hd:Vals dvs ds)(hx:tI CX X E)
  (I:Inv X pins σ H s) (r:Vals vs us) (h:sp (vs++dvs) H Q E):wpAny (model X.prog X.w) X.A (call (.ref f) us) (EP X pins σ Q) X.xe s:=by
 have r2:Vals (vs++dvs) (us++ds):=r.append hd
 have hl:(us++ds).length=ps.length:=by rw[← r2.length];exact F.len _ _ _ _ h
 refine wpAny_call (codeAny_mono (F.run X.A X.stack s H ⟨us,[]⟩ (us++ds) (vs++dvs) Q E hr I.env0 (hb s us I.kIn hl) r2 h) fun r s' hq=>?_)
 cases r with
 |error e=>exact hx pins σ H s e s' I hq
 | ok fl =>
  cases fl with
  |ret u=>exact I.after hq
  |next=>exact False.elim hq
  |brk=>exact False.elim hq
  |cont=>exact False.elim hq
end
structure aC (N P:List Str) (sc:Scope):Prop where
 kind:sc.kind=.function
 co:sc.isCoroutine=false
 gen:sc.isGenerator=false
 nd:N.Nodup
 pre:N.take P.length=P
 par:∀x∈P,sc.names.lookup x=some .local∨sc.names.lookup x=some .cell
 nofree:∀y∈sc.names,y.2≠.free
theorem pK{kindOf:Str→Option NameKind}{x:Str}:∀{binds:List (Str×Value)}{m:Str→Option Value},(∀v,(x,v)∉binds)→bindL kindOf binds m x=m x
 |[],_,_=>rfl
 | (n,v)::r,m,h=>by
  unfold bindL
  rw[pK fun w hw=>h w (List.mem_cons_of_mem _ hw)]
  split
  ·
   have:x≠n:=by rintro rfl;exact h v List.mem_cons_self
   simp[this]
  ·
   rfl
theorem pL{kindOf:Str→Option NameKind}{x:Str}:∀{binds:List (Str×Value)}{m:Str→Option Value},(∀v,(x,v)∉binds)→bindC kindOf binds m x=m x
 |[],_,_=>rfl
 | (n,v)::r,m,h=>by
  unfold bindC
  rw[pL fun w hw=>h w (List.mem_cons_of_mem _ hw)]
  split
  ·
   rfl
  ·
   have:x≠n:=by rintro rfl;exact h v List.mem_cons_self
   simp[this]
theorem pM{kindOf:Str→Option NameKind}{x:Str}{v:Value}:∀{P:List Str}{vs:List Value}{i:Nat}{m:Str→Option Value},P.Nodup→P[i]?=some x→vs[i]?=some v→kindOf x=some .local →
  bindL kindOf (P.zip vs) m x=some v
 |[],_,_,_,_,h,_,_=>by simp at h
 |_::_,[],_,_,_,_,h,_=>by simp at h
 | p::P,w::vs,0,m,nd,h1,h2,hk=>by
  simp at h1 h2;subst h1;subst h2
  show bindL kindOf ((p,w)::P.zip vs) m p=_
  unfold bindL
  rw[pK fun v hv=>(List.nodup_cons.mp nd).1 (List.of_mem_zip hv).1,if_pos hk]
  simp
 | p::P,w::vs,i+1,m,nd,h1,h2,hk=>by
  show bindL kindOf ((p,w)::P.zip vs) m x=_
  unfold bindL
  exact pM (i:=i) (List.nodup_cons.mp nd).2 (by simpa using h1) (by simpa using h2) hk
theorem pN{kindOf:Str→Option NameKind}{x:Str}{v:Value}:∀{P:List Str}{vs:List Value}{i:Nat}{m:Str→Option Value},P.Nodup→P[i]?=some x→vs[i]?=some v→kindOf x≠some .local →
  bindC kindOf (P.zip vs) m x=some v
 |[],_,_,_,_,h,_,_=>by simp at h
 |_::_,[],_,_,_,_,h,_=>by simp at h
 | p::P,w::vs,0,m,nd,h1,h2,hk=>by
  simp at h1 h2;subst h1;subst h2
  show bindC kindOf ((p,w)::P.zip vs) m p=_
  unfold bindC
  rw[pL fun v hv=>(List.nodup_cons.mp nd).1 (List.of_mem_zip hv).1,if_neg hk]
  simp
 | p::P,w::vs,i+1,m,nd,h1,h2,hk=>by
  show bindC kindOf ((p,w)::P.zip vs) m x=_
  unfold bindC
  exact pN (i:=i) (List.nodup_cons.mp nd).2 (by simpa using h1) (by simpa using h2) hk
def ll(N:List Str)(vs:List V):St:=vs.map some++List.replicate (N.length-vs.length) none
def cxOf(CX:CXT)(P:Program)(w:World)(K:PySem.W.Frag)(mg:Str→Option Value)(base:Heap)(N:List Str)(qual:Str)(scope:Scope)(f:Addr)(cd:Value)(A:Around)(outer:List Env)(s:Shared)(H:Hp)(E:XK):Cx where
 prog:=P
 w:=w
 K:=K
 mg:=mg
 base:=base
 A:=A.deeper (envOfC qual scope s.heap.objs.size f cd)
 N:=N
 s₀:=s
 H₀:=H
 env:=envOfC qual scope s.heap.objs.size f cd
 outer:=outer
 stack:=envOfC qual scope s.heap.objs.size f cd::outer
 ex:=[]
 calm:=true
 fn:=fun _=>true
 pn:=[]
 xe:=fun e s'=>wpAny (model P w) (A.deeper (envOfC qual scope s.heap.objs.size f cd)) (leaving (envOfC qual scope s.heap.objs.size f cd) e) (fun _ s''=>CX outer H s E e s'') (fun e' s''=>CX outer H s E e' s'') s'
theorem tJ{sc:Scope}{n:Nat}{x:Str}(h:sc.names.lookup x=some .cell):∃c,(cellsFrom n sc.names []).lookup x=some c:=by
 have q:=PySem.W.cellsFrom_some sc.names n [] (.inl h)
 exact Option.isSome_iff_exists.mp q
theorem vV{CX:CXT}{P:Program}{w:World}{K:PySem.W.Frag}{mg:Str→Option Value}{base:Heap}{N ps:List Str}{qual:Str}{scope:Scope}{f:Addr}{cd:Value}{A:Around}{outer:List Env}{s s1:Shared}{H:Hp}{E:XK}{us:List Value}{vs:List V}
  (S:aC N ps scope) (hd:A.handled=none) (e0:Env0 P w K mg base A outer s H) (hl:vs.length=ps.length) (r:Vals vs us)
  (x:InCallC s s.heap.objs.size (bindL (envOfC qual scope s.heap.objs.size f cd).kindOf (ps.zip us) fun _=>none) (cellsFrom (s.heap.objs.size+1) scope.names []) (bindC (envOfC qual scope s.heap.objs.size f cd).kindOf (ps.zip us) fun _=>none) s1) :
  Inv (cxOf CX P w K mg base N qual scope f cd A outer s H E) [] (ll N vs) H s1:=by
 have hpl:ps.length≤N.length:=by have:=congrArg List.length S.pre;rw[List.length_take]at this;omega
 obtain⟨h1,tk,rfl,hk⟩:=x.done
 have noA:∀b:Addr,b∉(cxOf CX P w K mg base N qual scope f cd A outer s H E).ex:=fun b z=>absurd (show b∈([]:List Addr)from z) (by simp)
 refine⟨⟨e0.mod,S.kind,rfl,rfl,Nat.le_refl _,fun y z c h1 h2=>?_,fun y hy=>?_,fun y c _ h=>?_,fun _=>hd,Around.frames_deeper e0.frames,.inr ⟨rfl,rfl⟩,fun b z=>absurd z (noA b),e0.bs,e0.bsz,fun b _ _=>noA b,fun b z=>absurd z (noA b),e0.funs,e0.frf,e0.tbs⟩,
  rfl,e0.bare,Un.kept hk,⟨_,x.toInCall.ns,fun i y v h1 h2 h3=>?_⟩,fun y c h=>⟨_,x.cell y c h⟩,e0.hok.fresh (Nat.le_refl _),fun y c h=>?_,fun p hp=>absurd (show p∈([]:List (Addr×Obj))from hp) (by simp),e0.hok.kept hk,?_⟩
 ·
  exact name_of_addr x.apart (PySem.mem_of_lookup h1) (PySem.mem_of_lookup h2)
 ·
  have hy:scope.names.lookup y=some .cell∨scope.names.lookup y=some .free:=hy
  rcases hy with hy|hy
  ·
   exact tJ hy
  ·
   exact absurd rfl (S.nofree _ (PySem.mem_of_lookup hy))
 ·
  exact Nat.le_of_lt (x.above y c (PySem.mem_of_lookup h))
 ·
  have hi:i<vs.length:=by
   unfold ll at h2
   by_cases hi:i<vs.length
   ·
    exact hi
   ·
    rw[List.getElem?_append_right (by simpa using hi)]at h2
    rw[List.getElem?_replicate]at h2
    split at h2<;>cases h2
  have ha:vs[i]?=some v:=by
   unfold ll at h2
   rw[List.getElem?_append_left (by simpa using hi),List.getElem?_map]at h2
   cases e:vs[i]? with
   |none=>rw[e]at h2;cases h2
   |some a=>rw[e]at h2;cases h2;rfl
  obtain⟨u,hu,rv⟩:=r.get ha
  have hp:ps[i]?=some y:=by
   rw[← S.pre,List.getElem?_take_of_lt (by omega)];exact h1
  have ndP:ps.Nodup:=by rw[← S.pre];exact S.nd.sublist (List.take_sublist _ _)
  refine⟨u,rv,?_⟩
  rcases S.par y (List.mem_of_getElem? hp)with k|k
  ·
   exact .inl ⟨k,pM ndP hp hu k⟩
  ·
   obtain⟨c,e⟩:=tJ (n:=s.heap.objs.size+1) k
   refine .inr ⟨.inl k,c,e,?_⟩
   have q:=x.cell y c e
   rw[pN ndP hp hu (by show scope.names.lookup y≠_;rw[k];decide)]at q
   exact q
 ·
  exact .inl (e0.hok.fresh (Nat.le_of_lt (x.above y c (PySem.mem_of_lookup h))))
 ·
  unfold ll
  show _=N.length
  rw[List.length_append,List.length_map,List.length_replicate]
  omega
theorem C9{CX:CXT}{P:Program}{w:World}{K:PySem.W.Frag}{mg:Str→Option Value}{base:Heap}{k:Nat}{f:Addr}{name qual:Str}{params:Arguments}{body:List Stmt}{scope:Scope}{dV kV doc pm cdv ct oc:Value}{an od:Option Addr}
  {osl:Array (Option Value)} {N ps:List Str} {sp:Sp} (lk:K.lookup f=some ⟨oc,od,.func (PySem.W.fnOf name qual params body scope dV kV doc pm an cdv ct),osl⟩) (hcd:PySem.W.codeIn K cdv qual=true) (S:aC N ps scope)
  (len:∀vs H Q E,sp vs H Q E→vs.length=ps.length)
  (hbody:∀(A:Around)(outer:List Env)(s:Shared)(H:Hp)(vs:List V)(Q:VK)(E:XK),Room k (A.deeper (envOfC qual scope s.heap.objs.size f cdv))→sp vs H Q E →
   ∃t,PSs (cxOf CX P w K mg base N qual scope f cdv A outer s H E) body t∧t {nx:=fun _ H'=>Q .non H',rt:=Q} (ll N vs) H) :
  FnOk P w K mg base CX (k+1) f (PySem.W.fnOf name qual params body scope dV kV doc pm an cdv ct) ps sp:=by
 refine⟨len,fun A outer s H args us vs Q E hr e0 hb r hsp=>?_⟩
 have hl:=len _ _ _ _ hsp
 have KX:K.In s.heap:=e0.mod.kin.keeps fun b o e=>(e0.bs b o e).1
 have lim:s.heap.NoLimit:=e0.mod.nolimit.keeps fun b o e=>(e0.bs b o e).1
 have hkind:∀y∈ps.zip us,scope.names.lookup y.1=some .local∨(scope.names.lookup y.1=some .cell∧((cellsFrom (s.heap.objs.size+1) scope.names []).lookup y.1).isSome=true):=fun⟨n,v⟩ hy=>by
  rcases S.par n (List.of_mem_zip hy).1 with q|q
  ·
   exact .inl q
  ·
   exact .inr ⟨q,PySem.W.cellsFrom_some _ _ _ (.inl q)⟩
 refine codeAny_call_function hr.depth (KX _ _ lk) rfl S.co S.gen rfl (PySem.W.codeRec_of KX hcd) (hb _ _ _ _ ?_)
 refine wpAny_newFunctionEnv_cells S.kind hkind fun env he s1 x=>?_
 subst he
 refine⟨lim.keeps x.toInCall.keep,codeAny_func ?_⟩
 obtain⟨t,ht,hq⟩:=hbody A outer s H vs Q E (hr.deeper _) hsp
 have I:Inv (cxOf CX P w K mg base N qual scope f cdv A outer s H E) [] (ll N vs) H s1:=vV S hr.hd e0 hl r x
 refine wpAny_mono (ht [] s1 (ll N vs) H _ I hq) (fun fl s' hs=>?_) fun e s' hs=>hs
 have fin:∀{σ':St}{H':Hp}{v:V}{u:Value},Inv (cxOf CX P w K mg base N qual scope f cdv A outer s H E) [] σ' H' s'→RelV v u→Q v H'→CE outer P w H s Q u s' :=
  fun {σ' H' v u} J rv q=>⟨v,H',J.os,J.bare,J.base,J.hok,rv,q⟩
 cases fl with
 | ret u =>
  obtain⟨v,σ',H',J,rv,q⟩:=hs
  exact fin J rv q
 | next =>
  obtain⟨σ',H',J,q⟩:=hs
  exact fin (v:=V.non) (u:=Value.none) J rfl q
 | brk =>
  obtain⟨_,_,_,q⟩:=hs
  exact False.elim q
 | cont =>
  obtain⟨_,_,_,q⟩:=hs
  exact False.elim q
section
variable{X:Cx}{x:Str}{p pos:Pos}{e:Expr}{es:List Expr}{t:TA}{id:String}{r:List V→Hp→VK→Prop}
def tCB(r:List V→Hp→VK→Prop)(t:TA):TE:=fun σ H Q=>t σ H fun vs H1=>r vs H1 Q
theorem tK(hc:iU X (.builtin id) r)(hg:Gl X x)(hm:X.mg x=none)(hv:bootBuiltins x=some (.builtin id))(ha:PA X (e::es) t) (hn:x≠"__name__":=by decide) (hdb:(x == ("__debug__" : Str))=false:=by decide)
  (he:starEach (e::es) X.env=(false,eval e X.env)::starEach es X.env:=by rfl) (hpl:(backTo pos (starEach es X.env)).any (·.1)=false:=by rfl):PE X (.Call (.Name x p) (e::es) [] pos) (tCB r t):=by
 intro pins s σ H Q I h
 refine wpAny_Call_Name_kw (ij I hg hm hv ?_ hn hdb)
 exact PyProof.Rows.callWith_builtin1 (thn (ha pos pins s σ H _ I h) fun us s1 ⟨vs,H1,I1,r1,q1⟩=>hc pins s1 σ H1 vs us Q I1 r1 q1) he hpl
end
end L2
namespace HT
open PySem PyProof.Rows
section
variable{prog:Program}{w:World}{A:Around}{E:Value→Shared→Prop}{s:Shared}
def sIx(n d:Nat):Option Int→Nat
 |none=>d
 |some v=>if v<0 then(v+(n:Int)).toNat else min v.toNat n
theorem Da(n d:Nat)(hd:d≤n)(o:Option Int):sIx n d o≤n:=by
 cases o with
 |none=>exact hd
 | some v =>
  show(if v<0 then(v+(n:Int)).toNat else min v.toNat n)≤n
  by_cases hv:v<0
  ·
   rw[if_pos hv];omega
  ·
   rw[if_neg hv];exact Nat.min_le_right _ _
theorem vW(v:Int)(n d:Nat):(if v<0 then max (v+(n:Int)) 0 else min v (n:Int))=((sIx n d (some v):Nat):Int):=by
 show(if v<0 then max (v+(n:Int)) 0 else min v (n:Int))=(((if v<0 then(v+(n:Int)).toNat else min v.toNat n):Nat):Int)
 by_cases hv:v<0
 ·
  simp only[if_pos hv];omega
 ·
  simp only[if_neg hv];omega
theorem uS(lo hi:Option Int)(n:Nat):Builtin.Slice.sliceAdjust lo hi 1 (n:Int)=(((sIx n 0 lo:Nat):Int),((sIx n n hi:Nat):Int)):=by
 have h1:¬((1:Int)<0):=by omega
 unfold Builtin.Slice.sliceAdjust
 simp only[h1,if_false]
 refine Prod.ext ?_ ?_
 ·
  cases lo with
  |none=>rfl
  |some v=>exact vW v n 0
 ·
  cases hi with
  |none=>rfl
  |some v=>exact vW v n n
theorem uT(i j:Nat):Builtin.Slice.slicePlaces (i:Int) (j:Int) 1=j-i:=by
 unfold Builtin.Slice.slicePlaces
 have h1:(1:Int) > 0:=by omega
 simp only[h1,if_true,Int.ediv_one]
 split<;>omega
theorem nu{v:Value}{o:Option Int}{Q:Option Int→Shared→Prop}(p:IsPart v o)(h:Q o s):wpAny (model prog w) A (Builtin.Slice.slicePartIndex v) Q E s:=by
 cases p with
 |none=>exact slicePart_none h
 |int i t=>exact slicePart_int h
theorem lp{sl:Addr}{vl vu:Value}{lo hi:Option Int}{n:Nat}{Q:Int×Int×Nat→Shared→Prop}(hs:s.heap.IsSliceOf sl vl vu .none)(pl:IsPart vl lo)(pu:IsPart vu hi)
  (h:Q (((sIx n 0 lo:Nat):Int),1,sIx n n hi-sIx n 0 lo) s):wpAny (model prog w) A (Builtin.Slice.sliceApplied (.ref sl) (pure (n:Int))) Q E s:=by
 obtain⟨os,hos,hcs,hds⟩:=id hs
 unfold Builtin.Slice.sliceApplied Builtin.Slice.sliceFields
 refine wpAny_bind (wpAny_bind (wpAny_field hos hds (x:=vl) rfl (wpAny_bind (wpAny_field hos hds (x:=vu) rfl (wpAny_bind (wpAny_field hos hds (x:=.none) rfl (wpAny_pure ?_)))))))
 refine wpAny_bind (slicePart_none ?_)
 show wpAny _ _ (if((1:Int) == 0)=true then _ else _) _ _ s
 rw[if_neg (by decide)]
 refine wpAny_bind (nu pl (wpAny_bind (nu pu (wpAny_bind (wpAny_pure ?_)))))
 show wpAny _ _ (match Builtin.Slice.sliceAdjust lo hi 1 (n:Int)with|(lo,hi)=>pure (lo,(1:Int),Builtin.Slice.slicePlaces lo hi 1)) _ _ s
 rw[uS lo hi n]
 show wpAny _ _ (pure (((sIx n 0 lo:Nat):Int),(1:Int),Builtin.Slice.slicePlaces ((sIx n 0 lo:Nat):Int) ((sIx n n hi:Nat):Int) 1)) _ _ s
 rw[uT]
 exact wpAny_pure h
theorem yM(xs:Array Value)(i k:Nat):((List.range k).filterMap fun (m:Nat)=>xs[((i:Int)+(m:Int)*1).toNat]?).toArray=((xs.toList.drop i).take k).toArray:=by
 have e:(fun (m:Nat)=>xs[((i:Int)+(m:Int)*1).toNat]?)=fun m=>xs[i+m]?:=by
  funext m
  have:((i:Int)+(m:Int)*1).toNat=i+m:=by omega
  rw[this]
 rw[e]
 have:=pick_run xs i k
 rw[List.filterMap_map]at this
 have e2:((fun x=>xs[x]?) ∘ fun x=>i+x)=fun m=>xs[i+m]?:=rfl
 rw[e2]at this
 rw[this]
theorem getItem_tuple_cut{t sl:Addr}{items:Array Value}{vl vu:Value}{lo hi:Option Int}{Q:Value→Shared→Prop}(ht:IsTup s.heap t items)(hs:s.heap.IsSliceOf sl vl vu .none)(pl:IsPart vl lo)(pu:IsPart vu hi)
  (hw:¬(sIx items.size 0 lo=0∧sIx items.size items.size hi=items.size))
  (h:Q (.ref s.heap.objs.size) {s with heap:=s.heap.push {cls:=.type "tuple",data:=.seq ((items.toList.drop (sIx items.size 0 lo)).take (sIx items.size items.size hi-sIx items.size 0 lo)).toArray} })
  (hsz:items.size≤sizeLine):wpAny (model prog w) A (getItem (.ref t) (.ref sl)) Q E s:=by
 have htake:sizeOk (.seq ((items.toList.drop (sIx items.size 0 lo)).take (sIx items.size items.size hi-sIx items.size 0 lo)).toArray):=by
  show((items.toList.drop (sIx items.size 0 lo)).take (sIx items.size items.size hi-sIx items.size 0 lo)).toArray.size≤sizeLine
  rw[List.size_toArray,List.length_take,List.length_drop,Array.length_toList]
  omega
 have hj:sIx items.size items.size hi≤items.size:=Da _ _ (Nat.le_refl _) hi
 obtain⟨os,hos,hcs,hds⟩:=id hs
 have hTs:s.TypeIs (.ref sl) "slice":=⟨os,hos,hcs⟩
 unfold getItem
 try with_reducible refine wpAny_holding ?_
 first|refine wpAny_bind (wpAny_pure ?_)|skip
 refine wpAny_bind (wpAny_sequenceKey ht.typeIs (by decide) ?_)
 refine wpAny_bind (wpAny_callSpecial?_slot (name:=Str.ofString "__getitem__") ht.typeIs PyProof.Rows.slot_tuple_getitem
  (wpAny_call_entry PyProof.Rows.slot_tuple_getitem ht.typeIs entry_tuple_getitem ?_ (args_tuple_getitem _ _)))
 show wpAny _ _ (Builtin.Tuple.tupleItemsOf (.ref t) >>= _) _ _ s
 refine wpAny_bind (tupleItemsOf_ ht ?_)
 refine wpAny_bind (wpAny_typeOf hTs ?_)
 rw[if_pos (by decide)]
 refine wpAny_bind (lp hs pl pu ?_)
 have hno:¬((((sIx items.size 0 lo:Nat):Int) == 0 && (1:Int) == 1 && (sIx items.size items.size hi-sIx items.size 0 lo) == items.size)=true):=by
  intro q
  rw[Bool.and_eq_true,Bool.and_eq_true]at q
  have q1:((sIx items.size 0 lo:Nat):Int)=0:=eq_of_beq q.1.1
  have q2:sIx items.size items.size hi-sIx items.size 0 lo=items.size:=eq_of_beq q.2
  exact hw ⟨by omega,by omega⟩
 show wpAny _ _ (if(((sIx items.size 0 lo:Nat):Int) == 0 && (1:Int) == 1 && (sIx items.size items.size hi-sIx items.size 0 lo) == items.size)=true then _ else _) _ _ s
 rw[if_neg hno,yM]
 first
  |exact wpAny_bind (m:=Builtin.Tuple.tupleExact _) (wpAny_newObj_type (wpAny_pure ⟨_,rfl,wpAny_pure h⟩) htake)
  |exact wpAny_bind (m:=Builtin.Tuple.tupleExact _) (wpAny_newObj_type (wpAny_bind (wpAny_pure (wpAny_pure ⟨_,rfl,wpAny_pure h⟩))) htake)
  |exact wpAny_bind (wpAny_bind (m:=Builtin.Tuple.tupleExact _) (wpAny_newObj_type (wpAny_pure (wpAny_pure ⟨_,rfl,wpAny_pure h⟩)) htake))
  |exact wpAny_bind (wpAny_bind (m:=Builtin.Tuple.tupleExact _) (wpAny_newObj_type (wpAny_pure ⟨_,rfl,wpAny_pure h⟩) htake))
end
end HT
namespace L2
open PySem PySem.Spec PyProof.Rows
abbrev TO:=St→Hp→(Option Int→Hp→Prop)→Prop
def PO(X:Cx)(e:Option Expr)(t:TO):Prop :=
 ∀(pins:List (Addr×Obj))(s:Shared)(σ:St)(H:Hp)(Q:Option Int→Hp→Prop),Inv X pins σ H s→t σ H Q →
  wpAny (model X.prog X.w) X.A (evalPart e X.env) (fun u s'=>∃o H',Inv X pins σ H' s'∧IsPart u o∧Q o H') X.xe s
def A8:TO:=fun _ H Q=>Q none H
def Ew(t:TE):TO:=fun σ H Q=>t σ H fun x H1=>∃i,x=.int i∧Q (some i) H1
section
variable{X:Cx}{e:Expr}{te:TE}{lo hi:Option Expr}{tl th:TO}{pos p2:Pos}
theorem A9:PO X none A8:=by
 intro pins s σ H Q I h
 rw[evalPart_none]
 exact wpAny_pure ⟨none,H,I,.none,h⟩
theorem Ba(h:PE X e te):PO X (some e) (Ew te):=by
 intro pins s σ H Q I hw
 rw[evalPart_some]
 refine thn (h pins s σ H _ I hw) fun u s1 ⟨x,H1,I1,r1,q1⟩=>?_
 obtain⟨i,rfl,q⟩:=q1
 obtain⟨t,rfl⟩:=r1
 exact⟨some i,H1,I1,.int i t,q⟩
def SlR(X:Cx)(r:V→Option Int→Option Int→Hp→VK→Prop):Prop :=
 ∀(pins:List (Addr×Obj))(s:Shared)(σ:St)(H:Hp)(x:V)(v vl vu:Value)(lo hi:Option Int)(sl:Addr)(Q:VK),Inv X pins σ H s→RelV x v→s.heap.IsSliceOf sl vl vu .none→IsPart vl lo→IsPart vu hi→r x lo hi H Q →
  ∃ T id,typeLookup (.type T) "__getitem__"=pure (some (.builtin id))∧s.TypeIs v T∧wpAny (model X.prog X.w) X.A (getItem v (.ref sl)) (EP X pins σ Q) X.xe s
theorem SlR.or{r r':V→Option Int→Option Int→Hp→VK→Prop}(h:SlR X r)(h':SlR X r'):SlR X (fun x lo hi H Q=>r x lo hi H Q∨r' x lo hi H Q):=by
 intro pins s σ H x v vl vu lo hi sl Q I rx hs pl pu q
 rcases q with q|q
 ·
  exact h pins s σ H x v vl vu lo hi sl Q I rx hs pl pu q
 ·
  exact h' pins s σ H x v vl vu lo hi sl Q I rx hs pl pu q
def tSl(r:V→Option Int→Option Int→Hp→VK→Prop)(te:TE)(tl th:TO):TE:=fun σ H Q=>te σ H fun x H1=>tl σ H1 fun l H2=>th σ H2 fun u H3=>r x l u H3 Q
theorem yN{r:V→Option Int→Option Int→Hp→VK→Prop}(hr:SlR X r)(he:PE X e te)(hl:PO X lo tl)(hu:PO X hi th):PE X (.Subscript e (.Slice lo hi none p2) pos) (tSl r te tl th):=by
 intro pins s σ H Q I h
 refine Subscript_ (thn (he pins s σ H _ I h) fun v s1 ⟨x,H1,I1,r1,q1⟩=>?_)
 refine wpAny_Slice (thn (hl pins s1 σ H1 _ I1 q1) fun vl s2 ⟨l,H2,I2,pl,q2⟩=>thn (hu pins s2 σ H2 _ I2 q2) fun vu s3 ⟨u,H3,I3,pu,q3⟩=>?_)
 rw[evalPart_none]
 refine wpAny_pure ?_
 have I4:Inv X pins σ H3 {s3 with heap:=s3.heap.push {cls:=.type "slice",data:=.fields #[vl,vu,.none] } }:=I3.kept (t':=s3.toks) fun b ob q=>Heap.get?_push_of_some _ q
 obtain⟨T,id,hT,ht,hg⟩:=hr pins {s3 with heap:=s3.heap.push {cls:=.type "slice",data:=.fields #[vl,vu,.none] } } σ H3 x v vl vu l u s3.heap.objs.size Q I4 r1 (Heap.IsSliceOf.new ..) pl pu q3
 show wpAny (model X.prog X.w) X.A (subscriptTail e (.Slice lo hi none p2) v (.ref s3.heap.objs.size)) (EP X pins σ Q) X.xe {s3 with heap:=s3.heap.push {cls:=.type "slice",data:=.fields #[vl,vu,.none] } }
 exact tail_any (ops:=[.ref s3.heap.objs.size,v]) ht hT hg (by with_unfolding_all rfl)
def cutV(xs:List V)(lo hi:Option Int):List V:=(xs.drop (HT.sIx xs.length 0 lo)).take (HT.sIx xs.length xs.length hi-HT.sIx xs.length 0 lo)
theorem lL(xs:List V)(lo hi:Option Int):(cutV xs lo hi).length≤xs.length:=by
 unfold cutV
 rw[List.length_take,List.length_drop]
 omega
def rSlT(K:PySem.W.Frag):V→Option Int→Option Int→Hp→VK→Prop:=fun x lo hi H Q=>∃a xs,x=.ref a∧SqT K H a xs ∧
 ¬(HT.sIx xs.length 0 lo=0∧HT.sIx xs.length xs.length hi=xs.length)∧∀p,H p=none→Q (.ref p) (upd H p (.tup (cutV xs lo hi)))
theorem Dc:SlR X (rSlT X.K):=by
 intro pins s σ H x v vl vu lo hi sl Q I rx hs pl pu h
 obtain⟨a,xs,rfl,hx,hw,q⟩:=h
 cases rx
 obtain⟨its,r,ht,hz⟩:=I.tuple hx
 have hlen:its.toArray.size=xs.length:=by rw[List.size_toArray];exact r.length.symm
 refine⟨"tuple",_,PyProof.Rows.slot_tuple_getitem.lookup,ht.typeIs,?_⟩
 refine HT.getItem_tuple_cut ht hs pl pu (by rw[hlen];exact hw) ?_ (by rw[hlen];exact hz)
 rw[hlen]
 refine⟨.ref s.heap.objs.size,_,I.laid (t':=s.toks) (o:=.tup (cutV xs lo hi)) (fun b ob q=>Heap.get?_push_of_some _ q) (Nat.le_refl _) ?_,rfl,q _ (I.hok.fresh (Nat.le_refl _))⟩
 exact⟨Nat.le_trans (lL xs lo hi) hz,_,(r.drop (HT.sIx xs.length 0 lo)).take (HT.sIx xs.length xs.length hi-HT.sIx xs.length 0 lo),IsTup.new _ _⟩
end
def ixN(n:Nat)(i:Int):Option Nat:=if 0≤i then(if i<n then some i.toNat else none)else if -(n:Int)≤i then some (i+n).toNat else none
def atI{α:Type}(xs:List α)(i:Int):Option α:=(ixN xs.length i).bind fun j=>xs[j]?
theorem vX{n:Nat}{i:Int}{j:Nat}(h:ixN n i=some j):seqIndex? i n=some j∧j<n∧-(n:Int)≤i∧i<n:=by
 unfold ixN at h
 by_cases h0:0≤i
 ·
  rw[if_pos h0]at h
  by_cases h1:i<n
  ·
   rw[if_pos h1]at h
   have e:i.toNat=j:=Option.some.inj h
   exact⟨by rw[seqIndex_of h0 h1,e],by omega,by omega,h1⟩
  ·
   rw[if_neg h1]at h;cases h
 ·
  rw[if_neg h0]at h
  by_cases h1 : -(n:Int)≤i
  ·
   rw[if_pos h1]at h
   have e:(i+n).toNat=j:=Option.some.inj h
   exact⟨by rw[seqIndex_neg (by omega) h1,e],by omega,h1,by omega⟩
  ·
   rw[if_neg h1]at h;cases h
theorem rm{α:Type}{xs:List α}{i:Int}{v:α}(h:atI xs i=some v):∃j,seqIndex? i xs.length=some j∧xs[j]?=some v∧j<xs.length∧-(xs.length:Int)≤i∧i<xs.length:=by
 unfold atI at h
 cases e:ixN xs.length i with
 |none=>rw[e]at h;cases h
 | some j =>
  rw[e]at h
  obtain⟨h1,h2,h3,h4⟩:=vX e
  exact⟨j,h1,h,h2,h3,h4⟩
theorem eQ{α:Type}{xs:List α}{j:Nat}{v:α}(h:xs[j]?=some v):atI xs (j:Int)=some v:=by
 have hj:j<xs.length:=(List.getElem?_eq_some_iff.mp h).1
 have e:ixN xs.length (j:Int)=some j:=by
  unfold ixN
  rw[if_pos (by omega),if_pos (by omega)];simp
 unfold atI;rw[e];exact h
def rn(b:Expr):Prop:=∀o i,subscripted b false o i=operate [o,i] (getItem o i)
def IxR(X:Cx)(r:R2):Prop :=
 ∀(value slice:Expr)(pins:List (Addr×Obj))(s:Shared)(σ:St)(H:Hp)(x y:V)(v u:Value)(Q:VK),Inv X pins σ H s→RelV x v→RelV y u→r x y H Q →
  subscripted slice false v u=operate [v,u] (getItem v u)→wpAny (model X.prog X.w) X.A (subscriptTail value slice v u) (EP X pins σ Q) X.xe s
def MtR(X:Cx)(id:String)(r:V→List V→Hp→VK→Prop):Prop :=
 ∀(pins:List (Addr×Obj))(s:Shared)(σ:St)(H:Hp)(x:V)(xs:List V)(v:Value)(us:List Value)(Q:VK),Inv X pins σ H s→RelV x v→Vals xs us→r x xs H Q →
  wpAny (model X.prog X.w) X.A (call (.builtin id) (v::us)) (EP X pins σ Q) X.xe s
section
variable{X:Cx}{a b:Expr}{ta tb:TE}{pos:Pos}
theorem Ey{r:R2}(hr:IxR X r)(ha:PE X a ta)(hb:PE X b tb)(hs:rn b):PE X (.Subscript a b pos) (tOp r ta tb):=by
 intro pins s σ H Q I h
 exact Subscript_ (binT ha hb I h fun v u s2 x y H2 I2 rx ry q=>hr a b pins s2 σ H2 x y v u Q I2 rx ry q (hs _ _))
def rIxL(K:PySem.W.Frag):R2:=fun x y H Q=>∃p xs i v,x=.ref p∧y=.int i∧SqL K H p xs∧atI xs i=some v∧Q v H
def rIxT(K:PySem.W.Frag):R2:=fun x y H Q=>∃p xs i v,x=.ref p∧y=.int i∧SqT K H p xs∧atI xs i=some v∧Q v H
def rIxS:R2:=fun x y H Q=>∃z i c,x=.str z∧y=.int i∧z.length≤sizeLine∧atI z.cps.toList i=some c∧Q (.str ⟨#[c]⟩) H
theorem vY:IxR X (rIxL X.K):=by
 intro value slice pins s σ H x y v u Q I rx ry h hs
 obtain⟨p,xs,i,z,rfl,rfl,hq,he,q⟩:=h
 cases rx
 obtain⟨t,rfl⟩:=ry
 obtain⟨its,r,pl,hz⟩:=I.list hq
 obtain⟨j,h1,h2,h3,h4,h5⟩:=rm he
 obtain⟨w,ew,rw'⟩:=r.get h2
 have hl:=r.length
 have hn:=nr
 have fin:EP X pins σ Q w s:=⟨z,H,I,rw',q⟩
 by_cases h0:0≤i
 ·
  have hj:i.toNat=j:=by
   rw[seqIndex_of h0 h5]at h1
   exact Option.some.inj h1
  exact item_listR pl.isList h0 (by omega) (by rw[hj];simpa using ew) fin hs
 ·
  have hj:(i+(its.toArray.size:Int)).toNat=j:=by
   rw[seqIndex_neg (by omega) h4]at h1
   rw[List.size_toArray,← hl]
   exact Option.some.inj h1
  exact subscriptTail_builtinR (x:=w) pl.isList.typeIs slot_list_getitem.lookup
   (wpAny_getItem_list_neg (Q:=fun r s'=>r=w∧EP X pins σ Q r s') pl.isList (by omega) (by rw[List.size_toArray]<;>omega) (by omega) (by rw[hj];simpa using ew) ⟨rfl,fin⟩) hs
theorem Dd:IxR X (rIxT X.K):=by
 intro value slice pins s σ H x y v u Q I rx ry h hs
 obtain⟨p,xs,i,z,rfl,rfl,hq,he,q⟩:=h
 cases rx
 obtain⟨t,rfl⟩:=ry
 obtain⟨its,r,pl,hz⟩:=I.tuple hq
 obtain⟨j,h1,h2,h3,h4,h5⟩:=rm he
 obtain⟨w,ew,rw'⟩:=r.get h2
 have hl:=r.length
 have hn:=nr
 have fin:EP X pins σ Q w s:=⟨z,H,I,rw',q⟩
 exact subscriptTail_builtinR (x:=w) pl.typeIs slot_tuple_getitem.lookup
  (getItem_tuple (j:=j) (Q:=fun r s'=>r=w∧EP X pins σ Q r s') pl (by omega) (by omega) (by rw[List.size_toArray,← hl];exact h1) (by simpa using ew) ⟨rfl,fin⟩) hs
theorem De:IxR X rIxS:=by
 intro value slice pins s σ H x y v u Q I rx ry h hs
 obtain⟨z,i,c,rfl,rfl,hz,he,q⟩:=h
 obtain⟨t,rfl⟩:=rx
 obtain⟨t',rfl⟩:=ry
 obtain⟨j,h1,h2,h3,h4,h5⟩:=rm he
 have hl:z.cps.toList.length=z.length:=by simp[Str.length]
 rw[hl]at h1 h4 h5
 have hn:=nr
 exact tail_any (typeIs_str s z t) slot_str_getitem.lookup (getItem_str (c:=c) (by
  have e1:decide (i < -(2^63:Int))=false:=decide_eq_false (by omega)
  have e2:decide (i≥2^63)=false:=decide_eq_false (by omega)
  rw[e1,e2,Bool.or_false]) (by rw[h1];simpa using h2) ⟨.str ⟨#[c]⟩,H,I.tok _,⟨_,rfl⟩,q⟩) hs
theorem uU(its:List Value)(n j:Nat)(u:Value):Obj.mapSeq (·.setIfInBounds j u) {cls:=.type "list",data:=.seq its.toArray n}={cls:=.type "list",data:=.seq (its.set j u).toArray n}:=by
 simp[Obj.mapSeq]
theorem Inv.lst{pins:List (Addr×Obj)}{σ:St}{H:Hp}{s:Shared}{p:Addr}{xs:List V}(I:Inv X pins σ H s)(h:H p=some (.lst xs)) :
  ∃(its:List Value)(n:Nat),Vals xs its∧s.heap.get? p=some {cls:=.type "list",data:=.seq its.toArray n}∧xs.length≤sizeLine:=by
 obtain⟨z,its,n,r,e⟩:=I.hok p _ h
 exact⟨its,n,r,e,z⟩
theorem Inv.lstUpd{pins:List (Addr×Obj)}{σ:St}{H:Hp}{s:Shared}{p:Addr}{xs ys:List V}{its its':List Value}{n n':Nat}{f:Obj→Obj}(I:Inv X pins σ H s)(h:H p=some (.lst xs))
  (ho:s.heap.get? p=some {cls:=.type "list",data:=.seq its.toArray n}) (hf:f {cls:=.type "list",data:=.seq its.toArray n}={cls:=.type "list",data:=.seq its'.toArray n' }) (r:Vals ys its') (hz:ys.length≤sizeLine) (t:Nat) :
  Inv X pins σ (upd H p (.lst ys)) {s with heap:=s.heap.update p f,toks:=t}:=by
 have e:(s.heap.update p f).get? p=some {cls:=.type "list",data:=.seq its'.toArray n' }:=by
  rw[Heap.get?_update_self f ho (by rw[hf]<;>rfl),hf]
 refine I.write (x:=p) (e:=p) (by rw[h];trivial) (.inl rfl) (fun b u hb q=>(Heap.get?_update_other _ _ (Ne.symm hb)).trans q) ⟨_,e⟩ ?_
 exact⟨hz,its',n',r,e⟩
def Ez:V→V→V→Hp→(Hp→Prop)→Prop:=fun o i v H Q=>∃p xs k j,o=.ref p∧i=.int k∧H p=some (.lst xs)∧ixN xs.length k=some j∧Q (upd H p (.lst (xs.set j v)))
theorem yO:PSet X Ez:=by
 intro pins s σ H o i v ov iv u Q I ro ri rv h
 obtain⟨p,xs,k,j,rfl,rfl,hp,hj,q⟩:=h
 cases ro
 obtain⟨t,rfl⟩:=ri
 obtain⟨its,n,r,ho,hz⟩:=I.lst hp
 obtain⟨h1,h2,h3,h4⟩:=vX hj
 have hl:=r.length
 have hn:=nr
 have I':Inv X pins σ (upd H p (.lst (xs.set j v))) {s with heap:=s.heap.update p (Obj.mapSeq (·.setIfInBounds j u)) } :=
  I.lstUpd hp ho (uU its n j u) (r.set rv j) (by rw[List.length_set];exact hz) s.toks
 by_cases h0:0≤k
 ·
  have hk:k.toNat=j:=by
   rw[seqIndex_of h0 h4]at h1
   exact Option.some.inj h1
  exact PySem.W.ki_setAt ho h0 (by omega) (by rw[List.size_toArray,← hl];exact h4) (by rw[hk];exact⟨_,I',q⟩)
 ·
  have hk:(k+(its.toArray.size:Int)).toNat=j:=by
   rw[seqIndex_neg (by omega) h3]at h1
   rw[List.size_toArray,← hl]
   exact Option.some.inj h1
  exact PySem.W.ki_setBack ho (by omega) (by rw[List.size_toArray,← hl];exact h3) (by omega) (by rw[hk];exact⟨_,I',q⟩)
theorem pO(lo hi:Option Int)(n:Nat):(sliceBounds lo hi none n).1=((HT.sIx n 0 lo:Nat):Int)∧(sliceBounds lo hi none n).2.1=((HT.sIx n n hi:Nat):Int)∧(sliceBounds lo hi none n).2.2=1:=by
 refine⟨?_,?_,rfl⟩
 ·
  cases lo with
  |none=>simp[sliceBounds,HT.sIx]
  | some i =>
   simp only[sliceBounds,HT.sIx,Option.getD_none,show(1:Int) > 0 by decide,if_true]
   by_cases h:i<0
   ·
    simp only[h,if_true]<;>omega
   ·
    simp only[h,if_false]<;>omega
 ·
  cases hi with
  |none=>simp[sliceBounds,HT.sIx]
  | some i =>
   simp only[sliceBounds,HT.sIx,Option.getD_none,show(1:Int) > 0 by decide,if_true]
   by_cases h:i<0
   ·
    simp only[h,if_true]<;>omega
   ·
    simp only[h,if_false]<;>omega
theorem nX(its:List Value)(lo hi:Option Int):slicePick its.toArray lo hi none=((its.drop (HT.sIx its.length 0 lo)).take (HT.sIx its.length its.length hi-HT.sIx its.length 0 lo)).toArray:=by
 obtain⟨h1,h2,h3⟩:=pO lo hi its.toArray.size
 unfold slicePick
 rw[h1,h2,h3]
 simp only[sliceRange_one,pick_run,List.size_toArray]<;>rfl
def rSlL(K:PySem.W.Frag):V→Option Int→Option Int→Hp→VK→Prop:=fun x lo hi H Q=>∃a xs,x=.ref a∧SqL K H a xs∧∀p,H p=none→Q (.ref p) (upd H p (.lst (cutV xs lo hi)))
theorem Bb:SlR X (rSlL X.K):=by
 intro pins s σ H x v vl vu lo hi sl Q I rx hs pl pu h
 obtain⟨a,xs,rfl,hx,q⟩:=h
 cases rx
 obtain⟨its,r,ht,hz⟩:=I.list hx
 have hlen:=r.length
 refine⟨"list",_,slot_list_getitem.lookup,ht.isList.typeIs,?_⟩
 refine wpAny_getItem_list_slice ht.isList hs pl pu .none (by simp) ?_ (by rw[List.size_toArray]<;>omega)
 rw[nX,← hlen]
 refine⟨.ref s.heap.objs.size,_,I.laid (t':=s.toks) (o:=.lst (cutV xs lo hi)) (fun b ob q=>Heap.get?_push_of_some _ q) (Nat.le_refl _) ?_,rfl,q _ (I.hok.fresh (Nat.le_refl _))⟩
 exact⟨Nat.le_trans (lL xs lo hi) hz,_,0,(r.drop (HT.sIx xs.length 0 lo)).take (HT.sIx xs.length xs.length hi-HT.sIx xs.length 0 lo),Heap.get?_push_size _ rfl⟩
def mR:V→Bool
 |.non=>true
 |.bl _=>true
 |.int _=>true
 |.str _=>true
 |_=>false
def eqV:V→V→Bool
 |.non,.non=>true
 |.bl a,.bl b=>a == b
 |.bl a,.int b=>(if a then 1 else 0) == b
 |.int a,.bl b=>a == (if b then 1 else 0)
 |.int a,.int b=>a == b
 |.str a,.str b=>a == b
 |_,_=>false
theorem Df{A:Around}{s:Shared}{y x:V}{u v:Value}(ry:RelV y u)(rx:RelV x v)(fy:mR y=true)(fx:mR x=true):SeqAt.EqAt A s u v (eqV y x):=by
 cases y with
 | non =>
  cases ry
  cases x with
  |non=>cases rx;exact SeqAt.EqAt.same _
  |bl b=>cases rx;exact SeqAt.EqAt.none_bool b
  |int b=>obtain⟨t,rfl⟩:=rx;exact SeqAt.EqAt.none_int b t
  |str b=>obtain⟨t,rfl⟩:=rx;exact SeqAt.EqAt.none_str b t
  |_=>exact absurd (show false=true from fx) Bool.false_ne_true
 | bl a =>
  cases ry
  cases x with
  |non=>cases rx;exact SeqAt.EqAt.bool_none a
  |bl b=>cases rx;exact SeqAt.EqAt.bool_bool a b
  |int b=>obtain⟨t,rfl⟩:=rx;exact SeqAt.EqAt.bool_int a b t
  |str b=>obtain⟨t,rfl⟩:=rx;exact SeqAt.EqAt.bool_str a b t
  |_=>exact absurd (show false=true from fx) Bool.false_ne_true
 | int a =>
  obtain⟨t',rfl⟩:=ry
  cases x with
  |non=>cases rx;exact SeqAt.EqAt.int_none a t'
  |bl b=>cases rx;exact SeqAt.EqAt.int_bool a t' b
  |int b=>obtain⟨t,rfl⟩:=rx;exact SeqAt.EqAt.int_int a t' b t
  |str b=>obtain⟨t,rfl⟩:=rx;exact SeqAt.EqAt.int_str a t' b t
  |_=>exact absurd (show false=true from fx) Bool.false_ne_true
 | str a =>
  obtain⟨t',rfl⟩:=ry
  cases x with
  |non=>cases rx;exact SeqAt.EqAt.str_none a t'
  |bl b=>cases rx;exact SeqAt.EqAt.str_bool a t' b
  |int b=>obtain⟨t,rfl⟩:=rx;exact SeqAt.EqAt.str_int a t' b t
  |str b=>obtain⟨t,rfl⟩:=rx;exact SeqAt.EqAt.str_str a t' b t
  |_=>exact absurd (show false=true from fx) Bool.false_ne_true
 |_=>exact absurd (show false=true from fy) Bool.false_ne_true
def eqU(x:V)(u:Value):Bool:=match u with
 |.none=>eqV .non x
 |.bool b=>eqV (.bl b) x
 |.int i _=>eqV (.int i) x
 |.str z _=>eqV (.str z) x
 |_=>false
theorem AF{x y:V}{u:Value}(r:RelV y u)(f:mR y=true):eqU x u=eqV y x:=by
 cases y with
 |non=>cases r;rfl
 |bl b=>cases r;rfl
 |int i=>obtain⟨t,rfl⟩:=r;rfl
 |str z=>obtain⟨t,rfl⟩:=r;rfl
 |_=>exact absurd (show false=true from f) Bool.false_ne_true
theorem rp{x:V}:∀{xs:List V}{us:List Value},Vals xs us→xs.all mR=true→us.any (eqU x)=xs.any fun y=>eqV y x
 |_,_,.nil,_=>rfl
 | y::xs,u::us,.cons r t,f=>by
  rw[List.all_cons,Bool.and_eq_true]at f
  rw[List.any_cons,List.any_cons,AF r f.1,rp t f.2]
theorem nY{A:Around}{s:Shared}{x:V}{v:Value}(rx:RelV x v)(fx:mR x=true):∀{xs:List V}{us:List Value},Vals xs us→xs.all mR=true→∀u∈us,SeqAt.EqAt A s u v (eqU x u)
 |_,_,.nil,_=>fun u hu=>by cases hu
 | y::xs,u::us,.cons r t,f=>fun u' hu=>by
  rw[List.all_cons,Bool.and_eq_true]at f
  rcases List.mem_cons.mp hu with rfl|hu
  ·
   rw[AF r f.1];exact Df r rx f.1 fx
  ·
   exact nY rx fx t f.2 u' hu
def inV(x:V)(xs:List V):Bool:=xs.any fun y=>eqV y x
def rIn(K:PySem.W.Frag)(neg:Bool):R2:=fun x y H Q=>∃p xs,y=.ref p∧(SqL K H p xs∨SqT K H p xs)∧mR x=true∧xs.all mR=true∧Q (.bl (if neg then !inV x xs else inV x xs)) H
theorem vZ:OpR X (compareOp .In) (rIn X.K false):=by
 intro pins s σ H x y v u Q I rx ry h
 obtain⟨p,xs,rfl,hq,fx,fs,q⟩:=h
 cases ry
 rcases hq with hq|hq
 ·
  obtain⟨its,r,pl,hz⟩:=I.list hq
  refine SeqAt.in_listAt (eqU x) pl.isList (fun w hw=>nY rx fx r fs w (by simpa using hw)) ⟨.bl _,H,I,rfl,?_⟩
  rw[show its.toArray.any (eqU x)=its.any (eqU x) by simp,rp r fs]
  exact q
 ·
  obtain⟨its,r,pl,hz⟩:=I.tuple hq
  refine SeqAt.in_tupleAt (eqU x) pl (fun w hw=>nY rx fx r fs w (by simpa using hw)) ⟨.bl _,H,I,rfl,?_⟩
  rw[show its.toArray.any (eqU x)=its.any (eqU x) by simp,rp r fs]
  exact q
theorem kT:iU X (.builtin "len") (fun xs H Q=>∃ p ys,xs=[.ref p]∧(SqL X.K H p ys∨SqT X.K H p ys)∧Q (.int ys.length) H):=by
 intro pins s σ H xs us Q I r h
 obtain⟨p,ys,rfl,hq,q⟩:=h
 obtain⟨u,rfl,rx⟩:=rl r
 cases rx
 have hn:=nr
 rcases hq with hq|hq
 ·
  obtain⟨its,r',pl,hz⟩:=I.list hq
  have hlen:=r'.length
  exact Calls.call_len_list pl.isList (by simp only[List.size_toArray]<;>omega) ⟨.int ys.length,H,I.tok _,⟨s.toks+1,by rw[List.size_toArray,hlen]⟩,q⟩
 ·
  obtain⟨its,r',pl,hz⟩:=I.tuple hq
  have hlen:=r'.length
  exact len_tuple pl (by simp only[List.size_toArray]<;>omega) ⟨.int ys.length,H,I.tok _,⟨s.toks+1,by rw[List.size_toArray,hlen]⟩,q⟩
theorem pP:iU X (.builtin "len") (fun xs H Q=>∃ z,xs=[.str z]∧z.length≤sizeLine∧Q (.int z.length) H):=by
 intro pins s σ H xs us Q I r h
 obtain⟨z,rfl,hz,q⟩:=h
 obtain⟨u,rfl,t,rfl⟩:=rl r
 have hn:=nr
 exact len_str (by omega) ⟨.int z.length,H,I.tok _,⟨_,rfl⟩,q⟩
theorem iU.or{f:Value}{r r':List V→Hp→VK→Prop}(h:iU X f r)(h':iU X f r'):iU X f (fun xs H Q=>r xs H Q∨r' xs H Q):=by
 intro pins s σ H xs us Q I rs q
 rcases q with q|q
 ·
  exact h pins s σ H xs us Q I rs q
 ·
  exact h' pins s σ H xs us Q I rs q
theorem pQ:iU X (.type "list") (fun xs H Q=>∃ p ys,xs=[.ref p]∧(SqL X.K H p ys∨SqT X.K H p ys)∧∀ l,H l=none→Q (.ref l) (upd H l (.lst ys))):=by
 intro pins s σ H xs us Q I r h
 obtain⟨p,ys,rfl,hq,q⟩:=h
 obtain⟨u,rfl,rx⟩:=rl r
 cases rx
 have fin:∀(its:List Value),Vals ys its→ys.length≤sizeLine→∀(h':Heap)(c':Nat),(∀b o',s.heap.get? b=some o'→h'.get? b=some o') →
   h'.get? s.heap.objs.size=some {cls:=.type "list",dict:=none,data:=.seq its.toArray c',slots:=#[] }→EP X pins σ Q (.ref s.heap.objs.size) {s with heap:=h' }:=fun its r' hz h' c' kp e =>
  ⟨.ref s.heap.objs.size,_,I.laid (t':=s.toks) kp (Nat.le_refl _) (show c7 X.prog X.w _ h' _ (.lst ys)from⟨hz,its,c',r',e⟩),rfl,q _ (I.hok.fresh (Nat.le_refl _))⟩
 rcases hq with hq|hq
 ·
  obtain⟨its,r',pl,hz⟩:=I.list hq
  have hlen:=r'.length
  obtain⟨o,ho,hc,n,hd⟩:=pl.isList
  exact call_list_seq p (.inl rfl) ho hc hd (fun h' c' kp e=>fin its r' hz h' c' kp e) (by simp only[List.size_toArray]<;>omega)
 ·
  obtain⟨its,r',pl,hz⟩:=I.tuple hq
  have hlen:=r'.length
  obtain⟨o,ho,hc,n,hd⟩:=pl
  exact call_list_seq p (.inr rfl) ho hc hd (fun h' c' kp e=>fin its r' hz h' c' kp e) (by simp only[List.size_toArray]<;>omega)
def tyV(K:PySem.W.Frag)(T:String)(x:V)(H:Hp):Prop:=match x with
 |.str _=>T="str"
 |.int _=>T="int"
 | .ref p=>(T="list"∧∃ xs,SqL K H p xs)∨(T="tuple"∧∃ o,K.lookup p=some o∧o.cls=.type "tuple"∧o.dict=none) ∨
   (T="dict"∧((∃ kvs,H p=some (.dK kvs))∨∃ kvs,H p=some (.dT kvs)))∨(T="set"∧∃ S n,H p=some (.set S n))
 |_=>False
theorem Dg{pins:List (Addr×Obj)}{σ:St}{H:Hp}{s:Shared}{T:String}{x:V}{v:Value}(I:Inv X pins σ H s)(r:RelV x v)(ty:tyV X.K T x H) :
  s.TypeIs v T∧∀a,v=.ref a→∃ob,s.heap.get? a=some ob∧ob.dict=none:=by
 cases x with
 | str z =>
  obtain⟨t,rfl⟩:=r
  cases(show T="str" from ty)
  exact⟨typeIs_str s z t,fun _ e=>nomatch e⟩
 | int i =>
  obtain⟨t,rfl⟩:=r
  cases(show T="int" from ty)
  exact⟨typeIs_int s i t,fun _ e=>nomatch e⟩
 | ref p =>
  cases r
  rcases ty with⟨rfl,xs,hq⟩|⟨rfl,o,hk,hc,hd⟩|⟨rfl,hk⟩|⟨rfl,S,n,hk⟩
  ·
   obtain⟨its,_,pl,_⟩:=I.list hq
   refine⟨pl.isList.typeIs,fun a e=>?_⟩
   cases e
   obtain⟨o,n,e,c,hd,_⟩:=pl
   exact⟨o,e,hd⟩
  ·
   refine⟨⟨o,I.kIn p o hk,hc⟩,fun a e=>?_⟩
   cases e
   exact⟨o,I.kIn _ o hk,hd⟩
  ·
   have z:∃o,s.heap.get? p=some o∧o.ExactDict:=by
    rcases hk with⟨kvs,hk⟩|⟨kvs,hk⟩
    ·
     obtain⟨_,_,_,_,o,_,_,e,ex,_⟩:=I.hok p _ hk
     exact⟨o,e,ex⟩
    ·
     obtain⟨_,_,_,_,o,_,_,e,ex,_⟩:=I.hok p _ hk
     exact⟨o,e,ex⟩
   obtain⟨o,e,ex⟩:=z
   refine⟨⟨o,e,ex.1⟩,fun a e2=>?_⟩
   cases e2
   exact⟨o,e,ex.2.1⟩
  ·
   obtain⟨o,_,_,_,e,ex,_⟩:=I.hok p _ hk
   refine⟨⟨o,e,ex.1⟩,fun a e2=>?_⟩
   cases e2
   exact⟨o,e,ex.2.1⟩
 |_=>exact False.elim ty
def tBM(K:PySem.W.Frag)(T:String)(r:V→List V→Hp→VK→Prop)(to:TE)(t:TA):TE:=fun σ H Q=>to σ H fun x H1=>tyV K T x H1∧t σ H1 fun xs H2=>r x xs H2 Q
variable{o e:Expr}{es:List Expr}{to:TE}{t:TA}{name:Str}{apos cpos:Pos}{T id:String}{r:V→List V→Hp→VK→Prop}
theorem Dh(pa:PlainAttrs T)(slot:Slot T name id) (hty:typeOf (.builtin id)=pure (.type "method_descriptor")) (hm:MtR X id r) (ho:PE X o to) (ha:PA X (e::es) t)
  (hbase:attributeBase o name X.env (eval o X.env)=eval o X.env:=by rfl)
  (hfew:((backTo cpos (starEach (e::es) X.env)).all (fun x=>!x.1) && (backToKw cpos (keywordEach [] X.env)).all (fun x=>x.1.isSome)
   && decide ((e::es).length+([]:List Keyword).length+(if([]:List Keyword).isEmpty then 0 else 1)<30))=true:=by rfl)
  (hline:(apos.endLine == cpos.line)=true:=by rfl) (hs:starEach (e::es) X.env=(false,eval e X.env)::starEach es X.env:=by rfl) (hplain:(backTo cpos (starEach es X.env)).any (·.1)=false:=by rfl) :
  PE X (.Call (.Attribute o name apos) (e::es) [] cpos) (tBM X.K T r to t):=by
 intro pins s σ H Q I h
 refine wpAny_Call_method_late hbase hfew hline rfl (thn (ho pins s σ H _ I h) fun v s1 ⟨x,H1,I1,r1,ty,q1⟩=>?_)
 obtain⟨h1,h2⟩:=Dg I1 r1 ty
 refine⟨T,id,pa,slot,hty,h1,h2,?_⟩
 have hA:=ha cpos pins s1 σ H1 _ I1 q1
 rw[hs]at hA ⊢
 refine Calls.callWith_builtin (by show(false ||(backTo cpos (starEach es X.env)).any (·.1))=false;rw[hplain]<;>rfl) (Calls.evalArgs_plain ?_)
 exact thn hA fun us s2 ⟨vs,H2,I2,r2,q2⟩=>hm pins s2 σ H2 x vs v us Q I2 r1 r2 q2
/- xs.append(e),list.index on a module's tuple .. are MtR facts of 06m -/
end
def MtM(X:Cx)(id:String)(r:V→List V→Hp→VK→Prop):Prop :=
 ∀(pins:List (Addr×Obj))(s:Shared)(σ:St)(H:Hp)(x:V)(xs:List V)(v:Value)(us:List Value)(Q:VK),Inv X pins σ H s→RelV x v→Vals xs us→r x xs H Q →
  wpAny (model X.prog X.w) X.A (call (.builtin id) (v::us)) (EP X pins σ Q) X.xe s
theorem Vals.one:∀{x:V}{us:List Value},Vals [x] us→∃u,us=[u]∧RelV x u
 |_,_,.cons r .nil=>⟨_,rfl,r⟩
section
variable{X:Cx}{pins:List (Addr×Obj)}{σ:St}{H:Hp}{s:Shared}{l:Addr}{xs ys:List V}
theorem Inv.lset{its its':List Value}{n:Nat}{f:Array Value→Array Value}{t':Nat}(I:Inv X pins σ H s)(hH:H l=some (.lst xs))
  (e:s.heap.get? l=some {cls:=.type "list",data:=.seq its.toArray n}) (hf:f its.toArray=its'.toArray) (hv:Vals ys its') (hz:ys.length≤sizeLine) :
  Inv X pins σ (upd H l (.lst ys)) {s with heap:=s.heap.update l (Obj.mapSeq f),toks:=t' }:=by
 have q:=PySem.IsL.update e f
 rw[hf]at q
 refine I.write (x:=l) (e:=l) (by rw[hH];exact trivial) (.inl rfl) (fun b' u hb hu=>(Heap.get?_update_other s.heap (Obj.mapSeq f) (Ne.symm hb)).trans hu) ⟨_,q⟩ ?_
 exact⟨hz,its',_,hv,q⟩
theorem Inv.lnew{its:List Value}{t':Nat}(I:Inv X pins σ H s)(hv:Vals ys its)(hz:ys.length≤sizeLine) :
  Inv X pins σ (upd H s.heap.objs.size (.lst ys)) {s with heap:=s.heap.push {cls:=.type "list",data:=.seq its.toArray},toks:=t' } :=
 I.laid (fun _ _ q=>Heap.get?_push_of_some _ q) (Nat.le_refl _) ⟨hz,its,0,hv,Heap.get?_push_size _ rfl⟩
theorem Inv.fresh(I:Inv X pins σ H s):H s.heap.objs.size=none:=I.hok.fresh (Nat.le_refl _)
theorem Inv.lstM(I:Inv X pins σ H s)(hH:H l=some (.lst xs)):xs.length≤sizeLine∧∃(its:List Value)(n:Nat),Vals xs its∧xs.length=its.length∧s.heap.get? l=some {cls:=.type "list",data:=.seq its.toArray n}:=by
 obtain⟨z,its,n,r,e⟩:=I.hok l _ hH
 exact⟨z,its,n,r,r.length,e⟩
end
section
variable{X:Cx}
def Bc:V→List V→Hp→VK→Prop:=fun x vs H Q=>∃l xs y,x=.ref l∧vs=[y]∧H l=some (.lst xs)∧xs.length<sizeLine∧Q .non (upd H l (.lst (xs++[y])))
theorem pR:MtM X "list.append" Bc:=by
 intro pins s σ H x vs v us Q I rx rv h
 obtain⟨l,xs,y,rfl,rfl,hH,hz,q⟩:=h
 cases rx
 obtain⟨u,rfl,ru⟩:=rv.one
 obtain⟨z,its,n,r,hl,e⟩:=I.lstM hH
 refine call_meets F.slot_list_append ⟨_,e,rfl⟩ F.entry_list_append (F.args_list_append_2 _ _) (PySem.list_append l its.toArray n u (by rw[List.size_toArray];omega)) ⟨e,?_⟩
 refine⟨.non,_,I.lset (its':=its++[u]) hH e (by simp) (r.append (.cons ru .nil)) ?_,rfl,q⟩
 rw[List.length_append,List.length_singleton]
 omega
end
end L2
namespace Att
open PySem PySem.W PySem.Calls PyProof.Rows
theorem lM{P:Params}{h:Heap}:∀(ns:List Int)(vs:List Value),WellAll P h vs (ns.map WData.int)→IntsAre vs ns:=by
 intro ns
 induction ns with
 | nil =>
  intro vs w
  rw[List.map_nil]at w
  cases w
  exact .nil
 | cons n ns ih =>
  intro vs w
  rw[List.map_cons]at w
  cases w with
  | cons a b =>
   cases a
   exact .cons _ _ (ih _ b)
theorem v5{l:OpenLaw}{n:Nat}(hn:l.most=some n){P:Params}{h:Heap}{args:List WData}{vals:List Value}
  (hpre:l.row.toRowW.claim.pre args=true) (hwl:WellAll P h vals args) :
  ∃ a vs ns,vals=[Value.ref a]∧args=[WData.list (ns.map WData.int)]∧h.get? a=some {cls:=.type "list",data:=.seq vs.toArray}∧IntsAre vs ns∧ns.length≤n:=by
 have hsh:WShape.hasAll [] args [.list .int]=true:=(pre_splitW hpre).1
 have hc:l.pre.holds [] {args:=args}=true:=(pre_splitW hpre).2
 obtain⟨d,r,rfl,h1,h2⟩:=hasAllW_cons hsh
 obtain rfl:=hasAllW_nil h2
 obtain⟨xs,rfl,h3⟩:=hasW_list h1
 obtain⟨ns,rfl⟩:=items_int h3
 have hlen:ns.length≤n:=by
  unfold OpenLaw.pre at hc
  have h4:(WTm.not (.lt (.lit (.int (n:Int))) (.len (.arg 0)))).holds [] {args:=[.list (ns.map .int)] }=true:=by
   have h4:=(holds_andW hc).1
   rw[hn]at h4
   exact h4
  have h5:=condW_of h4 (w_not (w_lt w_lit (w_len_list (w_arg rfl))))
  rw[List.length_map]at h5
  refine Nat.le_of_not_lt fun q=>?_
  have q':(n:Int)<((ns.length:Nat):Int):=by omega
  first
   |(rw[decide_eq_true q']at h5;exact absurd h5 (by decide))
   |(simp at h5;omega)
 cases hwl with
 | cons w1 w2 =>
  cases w2
  cases w1 with
  |list ho hall=>exact⟨_,_,ns,rfl,rfl,ho,lM ns _ hall,hlen⟩
theorem v7(l:OpenLaw)(args:List WData):l.row.toRowW.claim.post args (.bool true) args=true :=
 postW_of (r:=l.row.toRowW) (X:=(true == true))
  (show WShape.has [] (.bool true) .bool=true by first|rfl|decide|simp[WShape.has,WShape.arms,WShape.armsAll])
  (show(WTm.eq .res (.lit (.bool true))).value [] {args:=args,res:=some (.bool true),after:=args}=some (.bool (true == true))from w_eq_bool (w_res rfl) w_lit) rfl
theorem attach_call{l:OpenLaw}{n:Nat}{q:Program}{loose:List Str}{XP:(Str→Option Value)→Heap→Prop}{YP:World→Heap→Prop}{d:DefRec}
  (hn:l.most=some n) (hdf:d.params.defaults=[])
  (call:∀(w:World)(s₀ s₁:Shared)(mg mb:Str→Option Value)(fa:Addr)(o:Obj)(pm cd doc:Value)(a:Addr)(vs:List Value)(ns:List Int),
   Ground q loose [] XP w s₀ mg mb s₁.heap→YP w s₁.heap →
   s₁.heap.get? fa=some o→o.data=.func (docDef d.name d.params d.body d.scope pm cd doc)→s₁.heap.CodeRec cd d.name→mg d.name=some (.ref fa) →
   s₁.heap.get? a=some {cls:=.type "list",data:=.seq vs.toArray}→IntsAre vs ns→ns.length≤n→s₁.gens=#[] →
   codeAny (model l.prog w) callerA (.call (.ref fa) ⟨[.ref a],[]⟩) (fun r s'=>r=.ok (.ret (.bool true))∧OldK s₁.heap s'.heap∧s'.os=s₁.os∧AllBare s'.gens) s₁) :
  WalkO q loose XP YP l.row.toRowW d [] (fun f vs=>PySem.call f vs):=by
 intro w s₀ s₁ mg mb G Y fa o pm cd doc dV kV ho hd hcd hD hmg hg args vals as hpre hlay hrd hwl hlo
 obtain rfl:dV=.none:=Dflts.none hD hdf
 obtain rfl:kV=.none:=Dflts.noKw hD
 obtain⟨a,vs,ns,rfl,rfl,hobj,hints,hlen⟩:=v5 hn hpre hwl
 refine enter_call (codeAny_mono (call w s₀ s₁ mg mb fa o pm cd doc a vs ns G Y ho (fd_plain hd) hcd hmg hobj hints hlen hg) fun r s' hq=>?_)
 obtain⟨rfl,h2,h3,h4⟩:=hq
 exact⟨.inl ⟨.bool true,.bool true,[],rfl,fun _=>rfl,.bool true,v7 l _,fun _=>⟨List.Pairwise.nil,fun _ hm=>(nomatch hm)⟩⟩,h2,h3,h4⟩
section
def Fy(h:Heap)(L d:Addr):List (Addr×Obj):=(List.range h.objs.size).filterMap fun a=>if a=L∨a=d then none else(h.get? a).map fun o=>(a,o)
end
end Att
namespace L2
open PySem PySem.Spec PyProof.Rows
theorem pS:∀{vs:List Value}{ns:List Int},IntsAre vs ns→Vals (ns.map V.int) vs
 |_,_,.nil=>.nil
 |_,_,.cons n t h=>.cons ⟨t,rfl⟩ (pS h)
def Only(H:Hp):Prop:=∀b,H b=none∨(∃o xs,H b=some (.frz o (.lst xs)))∨∃q,H b=some (.tbl q)
def cO(K:PySem.W.Frag):List (Addr×Str):=lamNames.filterMap fun x=>(PySem.W.tabIn K x).map fun p=>(p.2,lamQ x)
def tabsOk(K:PySem.W.Frag):Bool:=decide ((cO K).map (·.1)).Nodup && (cO K).all fun p=>(K.lookup p.1).isNone
theorem v8{K:PySem.W.Frag}{P:Addr}{q:Str}(h:(P,q)∈cO K):∃x∈lamNames,∃c,PySem.W.tabIn K x=some (c,P)∧q=lamQ x:=by
 obtain⟨x,hx,e⟩:=List.mem_filterMap.mp h
 cases z:PySem.W.tabIn K x with
 |none=>rw[z]at e;cases e
 |some p=>rw[z]at e;cases e;exact⟨x,hx,p.1,z,rfl⟩
theorem ip{α β:Type}[BEq α][LawfulBEq α]:∀{l:List (α×β)}{a:α}{b:β},l.lookup a=some b→(a,b)∈l
 |[],_,_,h=>nomatch h
 | (x,y)::r,a,b,h=>by
  rw[List.lookup_cons]at h
  cases hb:a == x with
  |true=>rw[hb]at h;cases h;rw[eq_of_beq hb];exact .head _
  |false=>rw[hb]at h;exact .tail _ (ip h)
theorem fW{α β:Type}[BEq α][LawfulBEq α]:∀{l:List (α×β)}{a:α}{b:β},(l.map (·.1)).Nodup→(a,b)∈l→l.lookup a=some b
 |[],_,_,_,h=>nomatch h
 | (x,y)::r,a,b,nd,h=>by
  rw[List.map_cons,List.nodup_cons]at nd
  rw[List.lookup_cons]
  rcases List.mem_cons.mp h with e|h
  ·
   cases e;simp
  ·
   have:a≠x:=fun z=>nd.1 (z ▸ List.mem_map_of_mem (f:=(·.1)) h)
   rw[show(a == x)=false from beq_false_of_ne this]
   exact fW nd.2 h
theorem uV{K:PySem.W.Frag}{x:Str}{c P:Addr}(h:PySem.W.tabIn K x=some (c,P)):K.lookup c≠none:=by
 unfold PySem.W.tabIn at h
 split at h
 ·
  split at h
  ·
   split at h
   ·
    split at h
    ·
     rename_i hco
     split at h
     ·
      cases h;intro z;rw[hco]at z;cases z
     ·
      cases h
    ·
     cases h
   ·
    cases h
  ·
   cases h
 ·
  cases h
theorem yP{P:Program}{w:World}{K:PySem.W.Frag}{mg mb:Str→Option Value}{CX:CXT}{k:Nat}{fa a:Addr}{fd:FuncData}{x:Str}{sp:Sp}{s₁:Shared}{vs:List Value}{ns:List Int}
  (KX:K.In s₁.heap) (hns:s₁.heap.Ns mainGlobals mg) (hb:s₁.heap.Ns builtinsNs mb) (hbb:∀ x:Str,x≠"__name__"→mb x=bootBuiltins x) (hlim:s₁.heap.NoLimit) (hsys:∃ mm,s₁.heap.Ns sysModules mm) (hbm:CV mg s₁.heap) (hto:tabsOk K=true)
  (htb:∀x∈lamNames,∀c P,PySem.W.tabIn K x=some (c,P)→PySem.W.CodeHd s₁.heap c P∧s₁.heap.get? P=some (PySem.W.tabObj #[])) (hg:s₁.gens=#[])
  (ha:s₁.heap.get? a=some {cls:=.type "list",data:=.seq vs.toArray}) (hi:IntsAre vs ns) (hl:ns.length≤sizeLine) (hr:Room k callerA)
  (F:∀base:Heap,K.In base→base.Ns mainGlobals mg→FnOk P w K mg base CX k fa fd [x] sp) (hbind:∀(s:Shared)(u:Value),BindsTo s fd ⟨[u],[]⟩ [(x,u)])
  (hsp:∀H:Hp,Only H→SqL K H a (ns.map V.int)→sp [.ref a] H (fun v _=>v=.bl true) fun _ _ _=>False)
  (hCX:∀H e s',CX [] H s₁ (fun _ _ _=>False) e s'→False) :
  codeAny (model P w) callerA (.call (.ref fa) ⟨[.ref a],[]⟩) (fun r s'=>r=.ok (.ret (.bool true))∧OldK s₁.heap s'.heap∧s'.os=s₁.os∧AllBare s'.gens) s₁:=by
 have rv:=pS hi
 have lenV:=hi.length
 obtain⟨nd,kn⟩:=Bool.and_eq_true_iff.mp hto
 have nd:=of_decide_eq_true nd
 have tabAt:∀{b:Addr}{q:Str},(cO K).lookup b=some q→PySem.isCodeTable s₁.heap b∧s₁.heap.get? b=some (PySem.W.tabObj #[])∧K.lookup b=none:=fun {b q} e=>by
  have hm:(b,q)∈cO K:=ip e
  obtain⟨x,hx,c,e1,_⟩:=v8 hm
  obtain⟨h1,h2⟩:=htb x hx c b e1
  refine⟨(h1.tab h2).isCodeTable,h2,?_⟩
  have:=List.all_eq_true.mp kn (b,q) hm
  simpa using this
 have core:∀H:Hp,Only H→SqL K H a (ns.map V.int)→HOk P w H s₁.heap→(∀b,H b≠none→b=a∨∃q,H b=some (.tbl q)∧(cO K).lookup b=some q)→(∀b,H b≠none→K.lookup b=none)→Tbs K H →
   codeAny (model P w) callerA (.call (.ref fa) ⟨[.ref a],[]⟩) (fun r s'=>r=.ok (.ret (.bool true))∧OldK s₁.heap s'.heap∧s'.os=s₁.os∧AllBare s'.gens) s₁:=by
  intro H hO hS hok hA hK hT
  have base_of:∀{b:Addr}{o:Obj},s₁.heap.get? b=some o→H b=none→(hidT s₁.heap H).get? b=some o:=fun e n=>yG e n
  have noB:∀{b:Addr}{o:Obj},s₁.heap.get? b=some o→(∀us n,o.data≠.seq us n)→(∀us,o.data≠.fields us)→H b=none:=fun {b o} e d1 d2=>by
   cases q:H b with
   |none=>rfl
   | some u =>
    rcases hA b (by rw[q];simp)with e' | ⟨z,_,e'⟩
    ·
     subst e'
     rw[ha]at e;cases e
     exact absurd rfl (d1 _ _)
    ·
     rw[(tabAt e').2.1]at e;cases e
     exact absurd rfl (d2 _)
  have noA:∀{b:Addr}{o:Obj}{es:Array DictEntry}{ep:Nat},s₁.heap.get? b=some o→o.data=.dict es ep→H b=none:=fun {b o es ep} e d =>
   noB e (fun us n z=>by rw[d]at z;cases z) fun us z=>by rw[d]at z;cases z
  have nsK:∀{b:Addr}{m:Str→Option Value},s₁.heap.Ns b m→(hidT s₁.heap H).Ns b m:=fun {b m} ⟨o,es,ep,e,d,r⟩=>⟨o,es,ep,base_of e (noA e d),d,r⟩
  have hKb:K.In (hidT s₁.heap H):=fun b o e=>base_of (KX b o e) (by
   cases q:H b with
   |none=>rfl
   |some u=>rw[hK b (by rw[q];simp)]at e;cases e)
  have hM:Mod K mg (hidT s₁.heap H):=⟨hKb,nsK hns,⟨mb,nsK hb,hbb⟩,let ⟨mc,h1,h2⟩:=hlim;⟨mc,nsK h1,h2⟩,let ⟨mm,h1⟩:=hsys;⟨mm,nsK h1⟩,by
   obtain⟨bm,ob,b1,b2,b3,b4,b5,b6⟩:=hbm
   exact⟨bm,ob,b1,b2,base_of b3 (noB b3 (fun us n z=>by rw[b6]at z;cases z) fun us z=>by rw[b6]at z;cases z),b4,b5,b6⟩,fun x hx c P e=>by
   obtain⟨⟨o,vs,file,tf,flags,tg,inF,text,tt,e1,r⟩,_⟩:=htb x hx c P e
   exact⟨o,vs,file,tf,flags,tg,inF,text,tt,base_of e1 (by
    cases q:H c with
    |none=>rfl
    |some u=>exact absurd (hK c (by rw[q];simp)) (uV e)),r⟩⟩
  have e0:Env0 P w K mg (hidT s₁.heap H) callerA [] s₁ H:=⟨rfl,hM,fun b o e=>AZ e,Nat.le_of_eq (vF _ _),trivial,fun b hb=>absurd (show b∈([]:List Addr)from hb) (by simp),hok,.of_eq hg,hT⟩
  refine codeAny_mono ((F _ hKb (nsK hns)).run callerA [] s₁ H ⟨[.ref a],[]⟩ [.ref a] [.ref a] _ _ hr e0 (hbind s₁ (.ref a)) (.cons rfl .nil) (hsp H hO hS)) fun r s' h=>?_
  cases r with
  |error e=>exact(hCX H e s' h).elim
  | ok fl =>
   cases fl with
   |next=>exact False.elim h
   |brk=>exact False.elim h
   |cont=>exact False.elim h
   | ret u =>
    obtain⟨v,H',os,bare,un,hok',r',q⟩:=h
    have q':v=.bl true:=q
    subst q'
    obtain rfl:u=Value.bool true:=r'
    have fin:∀b o,s₁.heap.get? b=some o→s'.heap.get? b=some o∨(PySem.isCodeTable s₁.heap b∧o=PySem.W.tabObj #[]∧∃ps,s'.heap.get? b=some (PySem.W.tabObj ps)):=fun b o e=>by
     cases q:H b with
     |none=>exact .inl (un.keep b o e q (by intro z;exact absurd (show b∈([]:List Addr)from z) (by simp)) (by simp))
     | some u =>
      rcases hO b with z|⟨ob,xs,z⟩|⟨t,z⟩
      ·
       rw[q]at z;cases z
      ·
       have z2:=un.frzs b ob _ z
       obtain⟨e1,_⟩:=hok b _ z
       obtain⟨e2,_⟩:=hok' b _ z2
       rw[e]at e1;cases e1
       exact .inl e2
      ·
       rcases hA b (by rw[q];simp)with e' | ⟨t2,_,e'⟩
       ·
        subst e'
        obtain⟨ps,e1,_⟩:=hok b _ z
        rw[ha]at e1;cases e1
       ·
        obtain⟨ps,e2,_⟩:=hok' b _ (un.tbls b _ z)
        obtain⟨t1,t2,_⟩:=tabAt e'
        rw[e]at t2;cases t2
        exact .inr ⟨t1,rfl,ps,e2⟩
    refine⟨rfl,⟨fun b o e=>?_,fun b o e=>?_⟩,os,bare⟩
    ·
     rcases fin b o e with z|⟨t,rfl,ps,z⟩
     ·
      exact .inl z
     ·
      exact .inr (.inl ⟨t,rfl,#[],ps,rfl,by rw[Array.empty_append];exact z⟩)
    ·
     rcases fin b o e with z|⟨t,_,ps,z⟩
     ·
      exact⟨o,z⟩
     ·
      exact⟨_,z⟩
 have tbsOf:∀{H:Hp},(∀b q,(cO K).lookup b=some q→H b=some (.tbl q))→Tbs K H:=fun {H} h x hx c P e=>h P _ (fW nd (List.mem_filterMap.mpr ⟨x,hx,by rw[e];rfl⟩))
 have okT:∀{H:Hp}{b:Addr}{q:Str},(cO K).lookup b=some q→c7 P w H s₁.heap b (.tbl q):=fun {H b q} e=>⟨#[],(tabAt e).2.1,trivial,fun pos cv z=>by simp[codeAmong]at z⟩
 have na:∀q,(cO K).lookup a≠some q:=fun q z=>by
  have:=(tabAt z).2.1
  rw[ha]at this;cases this
 cases hk:K.lookup a with
 | some o =>
  have e:=KX a o hk
  rw[ha]at e
  cases e
  refine core (fun b=>((cO K).lookup b).map .tbl) (fun b=>?_) (.inr ⟨_,vs.toArray,_,hk,rfl,rfl,rfl,by rw[List.size_toArray,lenV];exact hl,by simpa using rv⟩) (fun b u z=>?_) (fun b z=>?_) (fun b z=>?_) (tbsOf fun b q e=>by show Option.map _ _=_;rw[e];rfl)
  ·
   show Option.map HO.tbl ((cO K).lookup b)=none∨_
   cases q:(cO K).lookup b with
   |none=>exact .inl rfl
   |some t=>exact .inr (.inr ⟨t,by show Option.map _ _=_;rw[q];rfl⟩)
  ·
   have z':Option.map HO.tbl ((cO K).lookup b)=some u:=z
   cases q:(cO K).lookup b with
   |none=>rw[q]at z';cases z'
   |some t=>rw[q]at z';cases z';exact okT q
  ·
   have z':Option.map HO.tbl ((cO K).lookup b)≠none:=z
   cases q:(cO K).lookup b with
   |none=>rw[q]at z';exact absurd rfl z'
   |some t=>exact .inr ⟨t,rfl,rfl⟩
  ·
   have z':Option.map HO.tbl ((cO K).lookup b)≠none:=z
   cases q:(cO K).lookup b with
   |none=>rw[q]at z';exact absurd rfl z'
   |some t=>exact(tabAt q).2.2
 | none =>
  have at_a:∀ b,(if b=a then some (HO.frz {cls:=.type "list",data:=.seq vs.toArray} (.lst (ns.map V.int)))else((cO K).lookup b).map .tbl)≠none→b=a∨∃ q,(cO K).lookup b=some q:=fun b z=>by
   by_cases hb:b=a
   ·
    exact .inl hb
   ·
    rw[if_neg hb]at z
    cases q:(cO K).lookup b with
    |none=>rw[q]at z;exact absurd rfl z
    |some t=>exact .inr ⟨t,rfl⟩
  have tabA:∀ b q,(cO K).lookup b=some q→(if b=a then some (HO.frz {cls:=.type "list",data:=.seq vs.toArray} (.lst (ns.map V.int)))else((cO K).lookup b).map .tbl)=some (.tbl q):=fun b q e=>by
   rw[if_neg (fun (z:b=a)=>na q (by rw[← z];exact e)),e];rfl
  refine core (fun b=>if b=a then some (.frz {cls:=.type "list",data:=.seq vs.toArray} (.lst (ns.map V.int)))else((cO K).lookup b).map .tbl) (fun b=>?_) (.inl (.inr ⟨{cls:=.type "list",data:=.seq vs.toArray},if_pos rfl⟩)) (fun b u z=>?_) (fun b z=>?_) (fun b z=>?_) (tbsOf fun b q e=>tabA b q e)
  ·
   by_cases hb:b=a
   ·
    exact .inr (.inl ⟨_,_,if_pos hb⟩)
   ·
    cases q:(cO K).lookup b with
    |none=>exact .inl (by show ite _ _ _=_;rw[if_neg hb,q];rfl)
    |some t=>exact .inr (.inr ⟨t,tabA b t q⟩)
  ·
   by_cases hb:b=a
   ·
    have z':=(if_pos hb).symm.trans z
    cases z'
    subst hb
    exact⟨ha,by rw[List.length_map];exact hl,vs,_,rv,ha⟩
   ·
    have z':=(if_neg hb).symm.trans z
    cases q:(cO K).lookup b with
    |none=>rw[q]at z';cases z'
    |some t=>rw[q]at z';cases z';exact okT q
  ·
   rcases at_a b z with e|⟨q,e⟩
   ·
    exact .inl e
   ·
    exact .inr ⟨q,tabA b q e,e⟩
  ·
   rcases at_a b z with e|⟨q,e⟩
   ·
    rw[e];exact hk
   ·
    exact(tabAt e).2.2
theorem walk_of{l:PySem.W.OpenLaw}{n k:Nat}{q:Program}{loose:List Str}{XP:(Str→Option Value)→Heap→Prop}{YP:World→Heap→Prop}{d:DefRec}{K:Params→PySem.W.Frag}{CX:World→CXT}{sp:World→Sp}{x:Str}
  (hn:l.most=some n) (hq:importsNone q=true) (hn2:n≤sizeLine) (hdf:d.params.defaults=[]) (hr:Room k callerA)
  (hY:∀(w:World)(h:Heap),YP w h→(K w.params).In h) (hto:∀w:World,tabsOk (K w.params)=true) (hrc:∀(w:World),∀x∈lamNames,PySem.W.tabIn (K w.params) x=none∨((recsOf q).find? fun e=>e.name == x).isSome=true)
  (F:∀(w:World)(mg:Str→Option Value)(fa:Addr)(h:Heap),(K w.params).In h→h.Ns mainGlobals mg→mg d.name=some (.ref fa) →
   ∃fd:FuncData,(∀(s:Shared)(u:Value),BindsTo s fd ⟨[u],[]⟩ [(x,u)]) ∧
    ∀base:Heap,(K w.params).In base→base.Ns mainGlobals mg→FnOk l.prog w (K w.params) mg base (CX w) k fa fd [x] (sp w))
  (hsp:∀(w:World)(H:Hp)(a:Addr)(ns:List Int),ns.length≤n→Only H→SqL (K w.params) H a (ns.map V.int)→sp w [.ref a] H (fun v _=>v=.bl true) fun _ _ _=>False)
  (hCX:∀(w:World)(H:Hp)(s:Shared)(e:Value)(s':Shared),CX w [] H s (fun _ _ _=>False) e s'→False) :
  PySem.W.WalkO q loose XP YP l.row.toRowW d [] (fun f vs=>PySem.call f vs):=by
 refine Att.attach_call hn hdf fun w s₀ s₁ mg mb fa o pm cd doc a vs ns G Y ho hd hcd hmg hobj hints hlen hg=>?_
 have KX:=hY w _ Y
 obtain⟨fd,hb,hF⟩:=F w mg fa _ KX G.T.g hmg
 exact yP KX G.T.g G.T.b G.T.builtins G.T.nolimit (let ⟨mm,h1,_⟩:=(G.T.seer hq).mods;⟨mm,h1⟩) (let ⟨bm,ob,b1,b2,b3,b4,b5,b6⟩:=G.T.bmain;⟨bm,ob,b1,b2,b3,b4,b5,b6⟩) (hto w) (fun y hy c P e=>by
  rcases hrc w y hy with z|z
  ·
   rw[z]at e;cases e
  ·
   obtain⟨d',hd'⟩:=Option.isSome_iff_exists.mp z
   exact PySem.W.tab_of G.T KX hd' e) hg hobj hints (Nat.le_trans hlen hn2) hr hF hb (fun H hO hS=>hsp w H a ns hlen hO hS) fun H e s'=>hCX w H s₁ e s'
def fX(s:Stmt):Arguments:=match s with
 |.FunctionDef _ a _ _ _ _ _ _ _ _=>a
 |_=>{posonlyargs:=[],args:=[],vararg:=none,kwonlyargs:=[],kw_defaults:=[],kwarg:=none,defaults:=[] }
def dh(s:Stmt):List Stmt:=match s with
 |.FunctionDef _ _ b _ _ _ _ _ _ _=>b
 |_=>[]
def ak(s:Stmt):Scope:=match s with
 |.FunctionDef _ _ _ _ _ _ sc _ _ _=>sc
 |_=>{kind:=.function,names:=[],isGenerator:=false,isCoroutine:=false}
abbrev CX0:CXT:=fun _ _ _ _ _ _=>False
abbrev E0:XK:=fun _ _ _=>False
theorem Bd{X:Cx}:tI CX0 X E0:=fun _ _ _ _ _ _ _ h=>h.elim
structure Fun (K:PySem.W.Frag) (x qual:Str) (st:Stmt) (f:Addr) (fd:FuncData):Prop where
 ex:∃(oc:Value)(od:Option Addr)(kV doc pm:Value)(an:Option Addr)(cdv ct:Value)(osl:Array (Option Value)),
  fd=PySem.W.fnOf x qual (fX st) (dh st) (ak st) .none kV doc pm an cdv ct∧K.lookup f=some ⟨oc,od,.func fd,osl⟩∧PySem.W.codeIn K cdv qual=true
 kp:PySem.W.keepIn K (.ref f)=true
section
variable{P:Program}{w:World}{K:PySem.W.Frag}{mg:Str→Option Value}{base:Heap}
theorem Fun.ok{x qual:Str}{st:Stmt}{f:Addr}{fd:FuncData}{N ps:List Str}{k:Nat}{sp:Sp}(F:Fun K x qual st f fd)(S:aC N ps (ak st))(len:∀vs H Q E,sp vs H Q E→vs.length=ps.length)
  (hbody:∀(cdv:Value)(A:Around)(outer:List Env)(s:Shared)(H:Hp)(vs:List V)(Q:VK)(E:XK),Room k (A.deeper (envOfC qual (ak st) s.heap.objs.size f cdv))→sp vs H Q E →
   ∃t,PSs (cxOf CX0 P w K mg base N qual (ak st) f cdv A outer s H E).nox (dh st) t∧t {nx:=fun _ H'=>Q .non H',rt:=Q} (ll N vs) H):FnOk P w K mg base CX0 (k+1) f fd ps sp:=by
 obtain⟨oc,od,kV,doc,pm,an,cdv,ct,osl,rfl,lk,hcd⟩:=F.ex
 refine C9 lk hcd S len fun A outer s H vs Q E hr hsp=>?_
 obtain⟨t,h,q⟩:=hbody cdv A outer s H vs Q E hr hsp
 exact⟨t,h.nox,q⟩
theorem Fun.binds{x qual:Str}{st:Stmt}{f:Addr}{fd:FuncData}{ps:List Str}(F:Fun K x qual st f fd)
  (h:∀(kV doc pm:Value)(an:Option Addr)(cdv ct:Value)(us:List Value),us.length=ps.length→bindArgs (PySem.W.fnOf x qual (fX st) (dh st) (ak st) .none kV doc pm an cdv ct) ⟨us,[]⟩=pure (ps.zip us)):kf K fd ps []:=by
 obtain⟨oc,od,kV,doc,pm,an,cdv,ct,osl,rfl,lk,hcd⟩:=F.ex
 exact .all (h kV doc pm an cdv ct)
theorem ny{x qual:Str}{st:Stmt}{f:Addr}{oc:Value}{od an:Option Addr}{osl:Array (Option Value)}{kV doc pm cdv ct:Value}(l:K.lookup f=some ⟨oc,od,.func (PySem.W.fnOf x qual (fX st) (dh st) (ak st) .none kV doc pm an cdv ct),osl⟩)
  (c:PySem.W.codeIn K cdv qual=true) (k:PySem.W.keepIn K (.ref f)=true):Fun K x qual st f (PySem.W.fnOf x qual (fX st) (dh st) (ak st) .none kV doc pm an cdv ct):=⟨⟨oc,od,kV,doc,pm,an,cdv,ct,osl,rfl,l,c⟩,k⟩
end
section
variable{X:Cx}
theorem pv(i:Nat){x:Str}{pos:Pos}(hN:X.N[i]?=some x:=by rfl)(hv:Vis X.env.scope x:=by first | exact Or.inl rfl | exact Or.inr (Or.inl rfl) | exact Or.inr (Or.inr rfl)) (hd:(x == ("__debug__" : Str))=false:=by decide)
  (hcd:(x == ("__classdict__" : Str))=false:=by decide):PE X (.Name x pos) (tVar i):=fO hN hv hd hcd
end
def Same(H H':Hp):Prop:=∀b o,H b=some o→H' b=some o
theorem Same.free{H H':Hp}(e:Same H H'){l:Addr}(h:H' l=Option.none):H l=Option.none:=by
 cases q:H l with
 |none=>rfl
 | some o =>
  rw[e l o q]at h
  cases h
end L2
set_option maxHeartbeats 0
namespace L2
open PySem PySem.Spec
open Sem (wp)
theorem g7:Slot "function" "__getattribute__" "object.__getattribute__" :=
 .of (owner:="object") (n:="__getattribute__") (by rw[typeLookup_type,builtinLookup_eq_fast]; kernel_rfl) (by decide +kernel) (by decide +kernel) (by decide +kernel)
  (by first|exact .inl (by decide +kernel)|exact .inr (by decide +kernel)) (by rw[isSubtype_type];kernel_rfl)
theorem rq:entryFor table "object.__getattribute__"=some Builtin.«object.__getattribute__»:=by
 first | exact F.entry_object_getattribute | exact entryFor_alias (id':="object.__getattribute__") (by kernel_rfl) (by first | rfl | decide +kernel) (by decide +kernel) (by kernel_rfl) | kernel_rfl
theorem uW(a b:Value):argsOk "object.__getattribute__" ⟨[a,b],[]⟩:=by
 first|exact F.args_object_getattribute_2 a b|(unfold argsOk;kernel_rfl)
theorem rC:typeLookup (.type "function") "__class__"=pure (some (.builtin "object.__class__")):=by rw[typeLookup_type,builtinLookup_eq_fast]; kernel_rfl
theorem ju:isSubtype (.type "function") (.type (".".intercalate ("object.__class__".cutAt '.').dropLast))=pure true:=by
 rw[F.owner_object_class,isSubtype_type];kernel_rfl
section
variable{prog:Program}{w:World}{A:Around}{E:Value→Shared→Prop}{h:Heap}{g:Array GenState}{d:Drawn}{t:Nat}{os:OsState}{a:Addr}{o:Obj}
theorem pT{R:Result→Shared→Prop}(hx:h.get? a=some o) (hc:o.cls=.type "function") (hq:R (.ok (.ret (.type "function"))) ⟨h,g,d,t,os⟩) :
  codeAny (model prog w) A (.call (.builtin "getset_descriptor.__get__") ⟨[.builtin "object.__class__",.ref a,.type "function"],[]⟩) R ⟨h,g,d,t,os⟩:=by
 have hT:(⟨h,g,d,t,os⟩:Shared).TypeIs (.ref a) "function":=⟨_,hx,hc⟩
 have hT5:(⟨h,g,d,t,os⟩:Shared).TypeIs (.builtin "object.__class__") "getset_descriptor":=F.typeOf_object_class
 have f8:=ju
 refine codeAny_call_builtin F.slot_gs_get.plain F.entry_gs_get (F.slot_gs_get.check _ _ _ _ _ _ _ _ hT5 (F.args_gs_get _ _ _) ?_)
 repeat (any_goals (first|assumption|wp_step))
 refine⟨Code.quiet_builtin _ (by decide +kernel),codeAny_builtin F.entry_object_class ?_⟩
 repeat (any_goals (first|assumption|wp_step))
theorem mS{tk:Tok}{Q:PySem.Fin→Shared→Prop}(hx:h.get? a=some o) (hc:o.cls=.type "function") (hq:Q (.done (.ret (.type "function"))) ⟨h,g,d,t,os⟩) :
  wpAny (model prog w) A (Builtin.«object.__getattribute__» ⟨[.ref a,.str "__class__" tk],[]⟩) Q E ⟨h,g,d,t,os⟩:=by
 have hT:(⟨h,g,d,t,os⟩:Shared).TypeIs (.ref a) "function":=⟨_,hx,hc⟩
 have hT5:(⟨h,g,d,t,os⟩:Shared).TypeIs (.builtin "object.__class__") "getset_descriptor":=F.typeOf_object_class
 have f4:=rC
 have f5:=F.typeOf_object_class
 have f6:=F.slot_gs_get.lookup
 have f7:=F.slot_gs_set.lookup
 repeat (any_goals (first|assumption|wp_step))
 refine pT hx hc ?_
 repeat (any_goals (first|assumption|wp_step))
theorem nZ{tk:Tok}{R:Result→Shared→Prop}(hx:h.get? a=some o) (hc:o.cls=.type "function") (hq:R (.ok (.ret (.type "function"))) ⟨h,g,d,t,os⟩) :
  codeAny (model prog w) A (.call (.builtin "object.__getattribute__") ⟨[.ref a,.str "__class__" tk],[]⟩) R ⟨h,g,d,t,os⟩ :=
 codeAny_call_builtin g7.plain rq (g7.check _ _ _ _ _ _ _ _ (show(⟨h,g,d,t,os⟩:Shared).TypeIs (.ref a) "function" from⟨_,hx,hc⟩) (uW _ _) (mS hx hc hq))
theorem rD{tk:Tok}{Q:Value→Shared→Prop}(hx:h.get? a=some o) (hc:o.cls=.type "function") (hq:Q (.type "function") ⟨h,g,d,t,os⟩):wpAny (model prog w) A (getAttrBy (.ref a) (.str "__class__" tk) false) Q E ⟨h,g,d,t,os⟩:=by
 have hT:(⟨h,g,d,t,os⟩:Shared).TypeIs (.ref a) "function":=⟨_,hx,hc⟩
 have f2:=g7.lookup
 have f3:=g7.bind (.ref a)
 repeat (any_goals (first|assumption|wp_step))
 refine nZ hx hc ?_
 repeat (any_goals (first|assumption|wp_step))
theorem n5{Q:Option Value→Shared→Prop}(hx:h.get? a=some o) (hc:o.cls=.type "function") (hq:Q (some (.type "function")) ⟨h,g,d,t+1,os⟩):wpAny (model prog w) A (getAttr? (.ref a) "__class__") Q E ⟨h,g,d,t,os⟩:=by
 unfold getAttr? getAttrBy?
 repeat (any_goals (first|assumption|with_reducible apply rD hx hc|wp_step))
end
theorem Be{K:PySem.W.Frag}{a:Addr}:PySem.W.KitX K (.ref a) (.type "function") (PySem.W.KitAt a "function"):=PySem.W.kitx_of PySem.W.kitAt_ty (fun {_ _ _ _ _ s} p k=>by obtain⟨h,g,d,t,os⟩:=s; obtain⟨o,h1,h2⟩:=p; exact n5 h1 h2 k)
end L2
namespace L2
open PySem PySem.Spec PyProof.Rows
inductive D where
 |non|bl (b:Bool)|int (i:Int)|str (x:Str)|tup (xs:List D)|lst (xs:List D)|dct (n:Nat)|exc (c:Str) (ns:List Str) (xs:List D)|fn (x:Str) (d:D)
def SqZ(K:PySem.W.Frag)(H:Hp)(a:Addr)(xs:List V):Prop :=
 (∃o,H a=some (.frz o (.lst xs))) ∨
  ∃(o:Obj)(its:Array Value)(n:Nat),K.lookup a=some o∧o.cls=.type "list"∧o.dict=none∧o.data=.seq its n∧its.size≤sizeLine∧Vals xs its.toList
theorem SqZ.l{K:PySem.W.Frag}{H:Hp}{a:Addr}{xs:List V}(h:SqZ K H a xs):SqL K H a xs:=by
 rcases h with⟨o,h⟩|h
 ·
  exact .inl (.inr ⟨o,h⟩)
 ·
  exact .inr h
def yQ:HO→Prop
 |.frz _ u=>yQ u
 |.ins _ _ _=>False
 |_=>True
def fY(K:PySem.W.Frag)(c:Str)(C:Addr):Bool:=match PySem.W.clsIn K C,PySem.W.nsIn K mainGlobals "LoadError" with
 | some cd,some (some (.ref L))=>cd.name == c && cd.hasDict && cd.mro == [.ref C,.ref L,.type "ValueError",.type "Exception",.type "BaseException",.type "object"] && (PySem.W.clsIn K L).any (fun k=>k.name == ("LoadError" : Str)) &&
  PySem.W.findIn K (.ref C) "__getattribute__" == some (some (.builtin "BaseException.__getattribute__")) && PySem.W.findIn K (.ref C) "__getattr__" == some none && PySem.W.findIn K (.ref C) "__class__" == some (some (.builtin "object.__class__")) &&
  PySem.W.findIn K (.ref C) "__setattr__" == some (some (.builtin "object.__setattr__")) && PySem.W.typeIn K (.ref C) == some (.type "type") && PySem.W.nsIn K mainGlobals c == some (some (.ref C))
 |_,_=>false
def Di:List Stmt→Option (Arguments×Expr×Scope×Pos)
 |[]=>none
 | st::r=>match Di r with
  |some l=>some l
  | none=>match st with
   | .Expr (.Call _ args _ _) _=>(match args.getLast? with
    |some (.Lambda p b sc pos)=>some (p,b,sc,pos)
    |_=>none)
   | .Return (some (.Call _ _ kws _)) _=>(match kws.getLast? with
    |some ⟨_,.Lambda p b sc pos,_⟩=>some (p,b,sc,pos)
    |_=>none)
   |_=>none
def EC(K:PySem.W.Frag)(x:Str):Option (Arguments×Expr×Scope×Pos):=match PySem.W.nsIn K mainGlobals x with
 | some (some (.ref f))=>(match K.lookup f with
  | some ⟨_,_,.func fd,_⟩=>(match fd.body with
   |.stmts b=>Di b
   |_=>none)
  |_=>none)
 |_=>none
def XF(H:Hp)(dx:Option Addr)(ns:List Str)(vs:List V):Prop:=(ns=[]∧vs=[]∧dx=none)∨∃d od,dx=some d∧H d=some (.frz od (.xd (ns.zip vs)))∧ns.length=vs.length
mutual
inductive Rep (K:PySem.W.Frag) (H:Hp):V→D→Prop where
 |non:Rep K H .non .non
 |bl (b:Bool):Rep K H (.bl b) (.bl b)
 |int (i:Int):Rep K H (.int i) (.int i)
 |str (x:Str):Rep K H (.str x) (.str x)
 |tup {a:Addr} {vs:List V} {ds:List D} (h:SqT K H a vs) (r:Reps K H vs ds):Rep K H (.ref a) (.tup ds)
 |lst {a:Addr} {vs:List V} {ds:List D} (h:SqZ K H a vs) (r:Reps K H vs ds):Rep K H (.ref a) (.lst ds)
 |dct {a:Addr} {o:Obj} {kvs:List (Key×V)} (h:H a=some (.frz o (.dK kvs))):Rep K H (.ref a) (.dct kvs.length)
 |exc {a:Addr} {o:Obj} {u:HO} {c:Str} {C:Addr} {ns:List Str} {vs:List V} {ds:List D} (h:H a=some (.frz o u)) (hv:yQ u) (hc:o.cls=.ref C) (hn:PySem.W.notCls o=true) (hs:fY K c C=true) (hq:∀f∈ns,PySem.W.findIn K (.ref C) f=some none) (hf:XF H o.dict ns vs) (r:Reps K H vs ds):Rep K H (.ref a) (.exc c ns ds)
 | fn {f c c':Addr} {oc oq:Obj} {x y:Str} {pr:Arguments} {bd:Expr} {sc:Scope} {pos:Pos} {pm ctv u:Value} {v:V} {d:D} (hl:EC K x=some (pr,bd,sc,pos)) (hf:H f=some (.frz (PySem.W.kla_obj "<lambda>" (lamQ x) pr bd sc [(y,c)] pm c' ctv) (.own f)))
  (hq:H c'=some (.frz oq (.own c'))) (hc:pH oq (lamQ x)) (hz:H c=some (.frz oc (.own c))) (hd:oc.data=.cell (some u)) (hv:RelV v u) (hm:(y,NameKind.free)∈sc.names) (r:Rep K H v d):Rep K H (.ref f) (.fn x d)
inductive Reps (K:PySem.W.Frag) (H:Hp):List V→List D→Prop where
 |nil:Reps K H [] []
 |cons {v:V} {d:D} {vs:List V} {ds:List D} (h:Rep K H v d) (t:Reps K H vs ds):Reps K H (v::vs) (d::ds)
end
def Pers:HO→Prop
 |.tup _=>True
 |.frz _ _=>True
 |.tbl _=>True
 |_=>False
def Pres(H H':Hp):Prop:=∀b o,Pers o→H b=some o→H' b=some o
theorem SqT.pres{K:PySem.W.Frag}{H H':Hp}{a:Addr}{xs:List V}(p:Pres H H')(h:SqT K H a xs):SqT K H' a xs:=by
 rcases h with(h|⟨o,h⟩)|h
 ·
  exact .inl (.inl (p _ _ True.intro h))
 ·
  exact .inl (.inr ⟨o,p _ _ True.intro h⟩)
 ·
  exact .inr h
theorem SqZ.pres{K:PySem.W.Frag}{H H':Hp}{a:Addr}{xs:List V}(p:Pres H H')(h:SqZ K H a xs):SqZ K H' a xs:=by
 rcases h with⟨o,h⟩|h
 ·
  exact .inl ⟨o,p _ _ True.intro h⟩
 ·
  exact .inr h
theorem XF.pres{H H':Hp}(p:Pres H H'){dx:Option Addr}{ns:List Str}{vs:List V}(h:XF H dx ns vs):XF H' dx ns vs:=by
 rcases h with h|⟨d,od,e,h,l⟩
 ·
  exact .inl h
 ·
  exact .inr ⟨d,od,e,p _ _ True.intro h,l⟩
mutual
theorem Rep.pres{K:PySem.W.Frag}{H H':Hp}(p:Pres H H'):∀{v:V}{d:D},Rep K H v d→Rep K H' v d
 |_,_,.non=>.non
 |_,_,.bl b=>.bl b
 |_,_,.int i=>.int i
 |_,_,.str x=>.str x
 |_,_,.tup h r=>.tup (h.pres p) (Reps.pres p r)
 |_,_,.lst h r=>.lst (h.pres p) (Reps.pres p r)
 |_,_,.dct h=>.dct (p _ _ True.intro h)
 |_,_,.exc h hv hc hn hs hq hf r=>.exc (p _ _ True.intro h) hv hc hn hs hq (hf.pres p) (Reps.pres p r)
 |_,_,.fn hl hf hq hc hz hd hv hm r=>.fn hl (p _ _ True.intro hf) (p _ _ True.intro hq) hc (p _ _ True.intro hz) hd hv hm (Rep.pres p r)
theorem Reps.pres{K:PySem.W.Frag}{H H':Hp}(p:Pres H H'):∀{vs:List V}{ds:List D},Reps K H vs ds→Reps K H' vs ds
 |_,_,.nil=>.nil
 |_,_,.cons h t=>.cons (Rep.pres p h) (Reps.pres p t)
end
theorem Reps.length{K:PySem.W.Frag}{H:Hp}:∀{vs:List V}{ds:List D},Reps K H vs ds→vs.length=ds.length
 |_,_,.nil=>rfl
 |_,_,.cons _ t=>by simp[Reps.length t]
theorem Reps.get{K:PySem.W.Frag}{H:Hp}:∀{vs:List V}{ds:List D}{i:Nat}{d:D},Reps K H vs ds→ds[i]?=some d→∃v,vs[i]?=some v∧Rep K H v d
 |_,_,_,_,.nil,e=>by simp at e
 |_,_,0,_,.cons h _,e=>by simp at e;subst e;exact⟨_,rfl,h⟩
 | _,_,i+1,d,.cons _ t,e=>by
  obtain⟨v,h1,h2⟩:=Reps.get (i:=i) (d:=d) t (by simpa using e)
  exact⟨v,by simpa using h1,h2⟩
theorem Reps.set{K:PySem.W.Frag}{H:Hp}{v:V}{d:D}(r:Rep K H v d):∀{vs:List V}{ds:List D}(i:Nat),Reps K H vs ds→Reps K H (vs.set i v) (ds.set i d)
 |_,_,_,.nil=>.nil
 |_,_,0,.cons _ t=>.cons r t
 |_,_,i+1,.cons h t=>.cons h (Reps.set r i t)
theorem Reps.append{K:PySem.W.Frag}{H:Hp}:∀{vs us:List V}{ds es:List D},Reps K H vs ds→Reps K H us es→Reps K H (vs++us) (ds++es)
 |_,_,_,_,.nil,s=>s
 |_,_,_,_,.cons h t,s=>.cons h (Reps.append t s)
theorem Reps.take{K:PySem.W.Frag}{H:Hp}:∀{vs:List V}{ds:List D}(n:Nat),Reps K H vs ds→Reps K H (vs.take n) (ds.take n)
 |_,_,0,_=>.nil
 |_,_,_+1,.nil=>.nil
 |_,_,n+1,.cons h t=>.cons h (Reps.take n t)
theorem Reps.drop{K:PySem.W.Frag}{H:Hp}:∀{vs:List V}{ds:List D}(n:Nat),Reps K H vs ds→Reps K H (vs.drop n) (ds.drop n)
 |_,_,0,r=>r
 |_,_,_+1,.nil=>.nil
 |_,_,n+1,.cons _ t=>Reps.drop n t
inductive L where
 |un|d (x:D)|own (a:Addr) (xs:List D)|bx (k:Option Addr) (ls:List L)|dic (a:Addr) (kvs:List (Key×D))
abbrev Ev:=List L
mutual
def aE:L→List Addr
 |.un=>[]
 |.d _=>[]
 |.own a _=>[a]
 |.bx k ls=>k.toList++cP ls
 |.dic a _=>[a]
def cP:List L→List Addr
 |[]=>[]
 |l::ls=>aE l++cP ls
end
def owns(ρ:Ev):List Addr:=ρ.flatMap aE
theorem di:∀ls:List L,cP ls=owns ls
 |[]=>rfl
 |l::ls=>by rw[cP,di ls];rfl
mutual
def aJ(K:PySem.W.Frag)(H:Hp)(s:Option V):L→Prop
 |.un=>True
 |.d x=>∃v,s=some v∧Rep K H v x
 |.own a xs=>s=some (.ref a)∧∃vs,H a=some (.lst vs)∧Reps K H vs xs
 |.bx none ls=>∃a vs,s=some (.ref a)∧SqT K H a vs∧bF K H vs ls
 |.bx (some a) ls=>s=some (.ref a)∧∃vs,H a=some (.lst vs)∧bF K H vs ls
 |.dic a kvs=>s=some (.ref a)∧∃vs,H a=some (.dK vs)∧Paired (fun (p:Key×V) (q:Key×D)=>p.1=q.1∧Rep K H p.2 q.2) vs kvs
def bF(K:PySem.W.Frag)(H:Hp)(vs:List V):List L→Prop
 |[]=>vs=[]
 |l::ls=>∃v us,vs=v::us∧aJ K H (some v) l∧bF K H us ls
end
mutual
theorem aJ.pres{K:PySem.W.Frag}{H H':Hp}(p:Pres H H'):∀{s:Option V}(l:L),(∀a∈aE l,H' a=H a)→aJ K H s l→aJ K H' s l
 |_,.un,_,_=>by simp only[aJ]
 | _,.d x,_,h=>by
  simp only[aJ]at h ⊢
  obtain⟨v,e,r⟩:=h
  exact⟨v,e,r.pres p⟩
 | _,.own a xs,q,h=>by
  simp only[aJ]at h ⊢
  obtain⟨e,vs,ha,r⟩:=h
  exact⟨e,vs,(q a (by simp[aE])).trans ha,r.pres p⟩
 | _,.bx none ls,q,h=>by
  simp only[aJ]at h ⊢
  obtain⟨a,vs,e,ha,r⟩:=h
  exact⟨a,vs,e,ha.pres p,bF.pres p ls (fun b hb=>q b (by simp[aE,hb])) r⟩
 | _,.bx (some a) ls,q,h=>by
  simp only[aJ]at h ⊢
  obtain⟨e,vs,ha,r⟩:=h
  exact⟨e,vs,(q a (by simp[aE])).trans ha,bF.pres p ls (fun b hb=>q b (by simp[aE,hb])) r⟩
 | _,.dic a kvs,q,h=>by
  simp only[aJ]at h ⊢
  obtain⟨e,vs,ha,r⟩:=h
  exact⟨e,vs,(q a (by simp[aE])).trans ha,Paired.mapP r fun _ _ z=>⟨z.1,z.2.pres p⟩⟩
theorem bF.pres{K:PySem.W.Frag}{H H':Hp}(p:Pres H H'):∀{vs:List V}(ls:List L),(∀a∈cP ls,H' a=H a)→bF K H vs ls→bF K H' vs ls
 |_,[],_,h=>by simpa only[bF]using h
 | _,l::ls,q,h=>by
  simp only[bF]at h ⊢
  obtain⟨v,us,e,h1,h2⟩:=h
  exact⟨v,us,e,aJ.pres p l (fun b hb=>q b (by simp[cP,hb])) h1,bF.pres p ls (fun b hb=>q b (by simp[cP,hb])) h2⟩
end
def OMut:HO→Prop
 |.lst _=>True
 |.dK _=>True
 |_=>False
theorem OMut.no{o:HO}(h:OMut o)(p:Pers o):False:=by cases o<;>first|exact h|exact p
mutual
theorem aJ.lstAt{K:PySem.W.Frag}{H:Hp}:∀{s:Option V}(l:L),aJ K H s l→∀a∈aE l,∃o,H a=some o∧OMut o
 |_,.un,_,a,ha=>by simp[aE]at ha
 |_,.d x,_,a,ha=>by simp[aE]at ha
 | _,.own b xs,h,a,ha=>by
  simp only[aJ]at h
  have e:a=b:=by simpa[aE]using ha
  subst e
  obtain⟨_,vs,q,_⟩:=h
  exact⟨_,q,True.intro⟩
 | _,.bx none ls,h,a,ha=>by
  simp only[aJ]at h
  obtain⟨b,vs,e,_,r⟩:=h
  exact bF.lstAt ls r a (by simpa[aE]using ha)
 | _,.bx (some b) ls,h,a,ha=>by
  simp only[aJ]at h
  obtain⟨e,vs,q,r⟩:=h
  rcases(by simpa[aE]using ha:a=b∨a∈cP ls)with z|z
  ·
   subst z;exact⟨_,q,True.intro⟩
  ·
   exact bF.lstAt ls r a z
 | _,.dic b xs,h,a,ha=>by
  simp only[aJ]at h
  have e:a=b:=by simpa[aE]using ha
  subst e
  obtain⟨_,vs,q,_⟩:=h
  exact⟨_,q,True.intro⟩
theorem bF.lstAt{K:PySem.W.Frag}{H:Hp}:∀{vs:List V}(ls:List L),bF K H vs ls→∀a∈cP ls,∃o,H a=some o∧OMut o
 |_,[],_,a,ha=>by simp[cP]at ha
 | _,l::ls,h,a,ha=>by
  simp only[bF]at h
  obtain⟨v,us,e,h1,h2⟩:=h
  rcases(by simpa[cP]using ha:a∈aE l∨a∈cP ls)with z|z
  ·
   exact aJ.lstAt l h1 a z
  ·
   exact bF.lstAt ls h2 a z
end
structure REnv (K:PySem.W.Frag) (Pr H:Hp) (σ:St) (ρ:Ev):Prop where
 sub:∀b o,Pr b=some o→H b=some o
 nd:(owns ρ).Nodup
 off:∀a∈owns ρ,Pr a=none
 sl:Paired (aJ K H) σ ρ
theorem eR{ρ:Ev}{a:Addr}:a∈owns ρ↔∃l∈ρ,a∈aE l:=by
 unfold owns
 rw[List.mem_flatMap]
theorem Bf{ρ:Ev}{a:Addr}{xs:List D}(h:L.own a xs∈ρ):a∈owns ρ:=eR.mpr ⟨_,h,by simp[aE]⟩
theorem ar(a b:Ev):owns (a++b)=owns a++owns b:=List.flatMap_append
theorem Paired.mem2{α β:Type}{F:α→β→Prop}:∀{l1:List α}{l2:List β}{b:β},Paired F l1 l2→b∈l2→∃a,a∈l1∧F a b
 |_,_,_,.nil,h=>by simp at h
 | _,_,_,.cons r t,h=>by
  rcases List.mem_cons.mp h with rfl|h
  ·
   exact⟨_,List.mem_cons_self,r⟩
  ·
   obtain⟨a,h1,h2⟩:=Paired.mem2 t h
   exact⟨a,List.mem_cons_of_mem _ h1,h2⟩
theorem Paired.app{α β:Type}{F:α→β→Prop}:∀{a c:List α}{b d:List β},Paired F a b→Paired F c d→Paired F (a++c) (b++d)
 |_,_,_,_,.nil,s=>s
 |_,_,_,_,.cons r t,s=>.cons r (Paired.app t s)
theorem Paired.unapp{α β:Type}{F:α→β→Prop}:∀{a c:List α}{b d:List β},a.length=b.length→Paired F (a++c) (b++d)→Paired F a b∧Paired F c d
 |[],_,[],_,_,s=>⟨.nil,s⟩
 | x::a,_,y::b,_,hl,.cons r t=>by
  obtain⟨p,q⟩:=Paired.unapp (a:=a) (b:=b) (by simpa using hl) t
  exact⟨.cons r p,q⟩
 |[],_,_::_,_,hl,_=>by simp at hl
 |_::_,_,[],_,hl,_=>by simp at hl
theorem Paired.get2{α β:Type}{F:α→β→Prop}:∀{l1:List α}{l2:List β}{i:Nat}{b:β},Paired F l1 l2→l2[i]?=some b→∃a,l1[i]?=some a∧F a b
 |_,_,_,_,.nil,e=>by simp at e
 |_,_,0,_,.cons h _,e=>by simp at e;subst e;exact⟨_,rfl,h⟩
 | _,_,i+1,d,.cons _ t,e=>by
  obtain⟨v,h1,h2⟩:=Paired.get2 (i:=i) (b:=d) t (by simpa using e)
  exact⟨v,by simpa using h1,h2⟩
theorem Paired.set2{α β:Type}{F:α→β→Prop}{a:α}{b:β}(r:F a b):∀{l1:List α}{l2:List β}(i:Nat),Paired F l1 l2→Paired F (l1.set i a) (l2.set i b)
 |_,_,_,.nil=>.nil
 |_,_,0,.cons _ t=>.cons r t
 |_,_,i+1,.cons h t=>.cons h (Paired.set2 r i t)
theorem Paired.impMem{α β:Type}{F G:α→β→Prop}:∀{l1:List α}{l2:List β},Paired F l1 l2→(∀b∈l2,∀a,F a b→G a b)→Paired G l1 l2
 |_,_,.nil,_=>.nil
 |_,_,.cons r t,h=>.cons (h _ List.mem_cons_self _ r) (Paired.impMem t fun b hb=>h b (List.mem_cons_of_mem _ hb))
theorem Paired.set_r{α β:Type}{F:α→β→Prop}{b:β}:∀{l1:List α}{l2:List β}(i:Nat),Paired F l1 l2→(∀a,l1[i]?=some a→F a b)→Paired F l1 (l2.set i b)
 |_,_,_,.nil,_=>.nil
 |_,_,0,.cons _ t,h=>.cons (h _ rfl) t
 |_,_,i+1,.cons q t,h=>.cons q (Paired.set_r i t fun a e=>h a (by simpa using e))
section
variable{K:PySem.W.Frag}{Pr H H':Hp}{σ τ w σ':St}{ρ μ lam ρ':Ev}
theorem REnv.len(E:REnv K Pr H σ ρ):σ.length=ρ.length:=Paired.length E.sl
def aS(H:Hp)(ρ:Ev):Hp:=fun b=>if b∈owns ρ then none else H b
theorem REnv.at_own(E:REnv K Pr H σ ρ){a:Addr}(h:a∈owns ρ):∃o,H a=some o∧OMut o:=by
 obtain⟨l,hx,ha⟩:=eR.mp h
 obtain⟨s,_,q⟩:=Paired.mem2 E.sl hx
 exact q.lstAt l a ha
theorem REnv.wide(E:REnv K Pr H σ ρ):REnv K (aS H ρ) H σ ρ :=
 ⟨fun b o e=>by unfold aS at e;split at e;cases e;exact e,E.nd,fun a h=>by unfold aS;rw[if_pos h],E.sl⟩
theorem REnv.drop(E:REnv K Pr H (τ++σ) (lam++ρ))(hl:τ.length=lam.length):REnv K Pr H σ ρ :=
 ⟨E.sub,(List.nodup_append.mp (ar lam ρ ▸ E.nd)).2.1,fun a h=>E.off a (by rw[ar];exact List.mem_append_right _ h),(Paired.unapp hl E.sl).2⟩
theorem REnv.left(E:REnv K Pr H (τ++σ) (lam++ρ))(hl:τ.length=lam.length):REnv K Pr H τ lam :=
 ⟨E.sub,(List.nodup_append.mp (ar lam ρ ▸ E.nd)).1,fun a h=>E.off a (by rw[ar];exact List.mem_append_left _ h),(Paired.unapp hl E.sl).1⟩
theorem n6{H H':Hp}{ρ:Ev}{σ:St}{Pr:Hp}(E:REnv K Pr H σ ρ)(h:∀b o,aS H ρ b=some o→H' b=some o):Pres H H':=fun b o p e=>by
 refine h b o ?_
 unfold aS
 rw[if_neg,e]
 intro hm
 obtain⟨u,e',m⟩:=E.at_own hm
 rw[e]at e'
 cases e'
 exact m.no p
theorem REnv.step(E:REnv K Pr H (τ++σ) (lam++ρ))(hl:τ.length=lam.length)(E':REnv K (aS H ρ) H' (w++σ') (μ++ρ'))(hw:w.length=μ.length):REnv K Pr H' (w++(τ++σ')) (μ++(lam++ρ')):=by
 have Eσ:=E.drop hl
 have p:Pres H H':=n6 Eσ E'.sub
 have dis:∀a∈owns lam,a∉owns ρ:=fun a h1 h2=>(List.nodup_append.mp (ar lam ρ ▸ E.nd)).2.2 a h1 a h2 rfl
 have at':∀a∈owns lam,aS H ρ a=H a:=fun a h=>by unfold aS;rw[if_neg (dis a h)]
 have some':∀a∈owns lam,∃o,H a=some o∧OMut o:=fun a h=>E.at_own (by rw[ar];exact List.mem_append_left _ h)
 have out:∀a∈owns lam,a∉owns (μ++ρ'):=fun a h h2=>by
  have z:=E'.off a h2
  rw[at' a h]at z
  obtain⟨vs,e,_⟩:=some' a h
  rw[e]at z
  cases z
 have s1:=(Paired.unapp hw E'.sl)
 have s2:=(Paired.unapp hl E.sl).1
 refine⟨fun b o e=>?_,?_,fun a ha=>?_,Paired.app s1.1 (Paired.app ?_ s1.2)⟩
 ·
  refine E'.sub b o ?_
  unfold aS
  rw[if_neg,E.sub b o e]
  intro hm
  have z:=Eσ.off b hm
  rw[e]at z
  cases z
 ·
  have n1:=E'.nd
  rw[ar]at n1
  rw[ar,ar]
  obtain⟨q1,q2,q3⟩:=List.nodup_append.mp n1
  refine List.nodup_append.mpr ⟨q1,List.nodup_append.mpr ⟨(List.nodup_append.mp (ar lam ρ ▸ E.nd)).1,q2,fun a ha b hb=>?_⟩,fun a ha b hb=>?_⟩
  ·
   rintro rfl
   exact out a ha (by rw[ar];exact List.mem_append_right _ hb)
  ·
   rcases List.mem_append.mp hb with hb|hb
   ·
    rintro rfl
    exact out a hb (by rw[ar];exact List.mem_append_left _ ha)
   ·
    exact q3 a ha b hb
 ·
  rw[ar,ar]at ha
  have key:a∈owns (μ++ρ')→Pr a=none:=fun h=>by
   have z:=E'.off a h
   unfold aS at z
   by_cases hm:a∈owns ρ
   ·
    exact Eσ.off a hm
   ·
    rw[if_neg hm]at z
    cases q:Pr a with
    |none=>rfl
    |some o=>rw[E.sub a o q]at z;cases z
  rcases List.mem_append.mp ha with h|h
  ·
   exact key (by rw[ar];exact List.mem_append_left _ h)
  ·
   rcases List.mem_append.mp h with h|h
   ·
    exact E.off a (by rw[ar];exact List.mem_append_left _ h)
   ·
    exact key (by rw[ar];exact List.mem_append_right _ h)
 ·
  have:∀l∈lam,∀s,aJ K H s l→aJ K H' s l:=fun l hlm s h=>h.pres p l fun a e=>by
   have ha:a∈owns lam:=eR.mpr ⟨l,hlm,e⟩
   obtain⟨vs,e,_⟩:=some' a ha
   rw[E'.sub a _ ((at' a ha).trans e),e]
  exact Paired.impMem s2 this
end
end L2
namespace L2
open PySem PySem.Spec PyProof.Rows PySem.W
structure XStd (K:Frag) (c:Str) (C L:Addr) (cd:ClassData):Prop where
 cls:clsIn K C=some cd
 load:nsIn K mainGlobals "LoadError"=some (some (.ref L))
 name:cd.name=c
 dct:cd.hasDict=true
 mro:cd.mro=[.ref C,.ref L,.type "ValueError",.type "Exception",.type "BaseException",.type "object"]
 lname:∃ k,clsIn K L=some k∧k.name=("LoadError" : Str)
 ga:findIn K (.ref C) "__getattribute__"=some (some (.builtin "BaseException.__getattribute__"))
 gx:findIn K (.ref C) "__getattr__"=some none
 gc:findIn K (.ref C) "__class__"=some (some (.builtin "object.__class__"))
 sa:findIn K (.ref C) "__setattr__"=some (some (.builtin "object.__setattr__"))
 ty:typeIn K (.ref C)=some (.type "type")
 own:nsIn K mainGlobals c=some (some (.ref C))
theorem fZ{K:Frag}{c:Str}{C:Addr}(h:fY K c C=true):∃L cd,XStd K c C L cd:=by
 unfold fY at h
 split at h
 ·
  rename_i cd L e1 e2
  simp only[Bool.and_eq_true,beq_iff_eq]at h
  obtain⟨⟨⟨⟨⟨⟨⟨⟨⟨h1,h2⟩,h3⟩,h4⟩,h5⟩,h6⟩,h7⟩,h8⟩,h9⟩,h10⟩:=h
  obtain⟨k,hk,hn⟩:=any_some h4
  exact⟨L,cd,e1,e2,h1,h2,h3,⟨k,hk,beq_iff_eq.mp hn⟩,h5,h6,h7,h8,h9,h10⟩
 ·
  cases h
section
variable{K:Frag}{c:Str}{C L:Addr}{cd:ClassData}
theorem XStd.mroIn(S:XStd K c C L cd)(b:Value):PySem.W.mroIn K C b=some (([.ref C,.ref L,.type "ValueError",.type "Exception",.type "BaseException",.type "object"]:List Value).contains b):=by
 unfold PySem.W.mroIn
 rw[S.cls,Option.bind_some,S.mro]
 rfl
theorem lN(C L:Addr)(T:String):(([.ref C,.ref L,.type "ValueError",.type "Exception",.type "BaseException",.type "object"]:List Value).contains (.type T))=(["ValueError","Exception","BaseException","object"]:List String).contains T:=by
 simp only[List.contains_cons,List.contains_nil,Bool.or_false]
 have e:∀a:Addr,(Value.type T == Value.ref a)=false:=fun _=>rfl
 have f:∀U:String,(Value.type T == Value.type U)=(T == U):=fun U=>by
  by_cases q:T=U
  ·
   subst q;simp
  ·
   rw[beq_eq_false_iff_ne.mpr q,beq_eq_false_iff_ne]
   intro z;injection z with z;exact q z
 rw[e,e,f,f,f,f];rfl
theorem yR(C L D:Addr):(([.ref C,.ref L,.type "ValueError",.type "Exception",.type "BaseException",.type "object"]:List Value).contains (.ref D))=(D == C ||D == L):=by
 simp only[List.contains_cons,List.contains_nil,Bool.or_false]
 have e:∀T:String,(Value.ref D == Value.type T)=false:=fun _=>rfl
 have f:∀a:Addr,(Value.ref D == Value.ref a)=(D == a):=fun U=>by
  by_cases q:D=U
  ·
   subst q;simp
  ·
   rw[beq_eq_false_iff_ne.mpr q,beq_eq_false_iff_ne]
   intro z;injection z with z;exact q z
 rw[e,e,e,e,f,f,Bool.or_false,Bool.or_false,Bool.or_false,Bool.or_false]
theorem XStd.has(S:XStd K c C L cd){T:String} (h:(["ValueError","Exception","BaseException","object"]:List String).contains T=true):PySem.W.mroIn K C (.type T)=some true:=by
 rw[S.mroIn,lN,h]
theorem XStd.isT(S:XStd K c C L cd){M:Model}{h:Heap}(X:K.In h)(T:String):Looks M h (isSubtype (.ref C) (.type T)) ((["ValueError","Exception","BaseException","object"]:List String).contains T):=looks_mroIn X (by rw[S.mroIn,lN])
theorem XStd.sub(S:XStd K c C L cd){M:Model}{h:Heap}(X:K.In h)(b:Value):Looks M h (isSubtype (.ref C) b) (([.ref C,.ref L,.type "ValueError",.type "Exception",.type "BaseException",.type "object"]:List Value).contains b):=looks_mroIn X (S.mroIn b)
end
section
variable{prog:Program}{w:World}{A:Around}{E:Value→Shared→Prop}{s:Shared}{K:Frag}{c:Str}{x C L:Addr}{cd:ClassData}{ox:Obj}{od:Option Obj}{name:Str}
theorem pU{tk:Tok}{Q:Fin→Shared→Prop}(S:XStd K c C L cd)(X:K.In s.heap)(I:InstAt s.heap x ox C od) (hf:findObj K C od "__class__"=some (.bind (.builtin "getset_descriptor.__get__") (.builtin "object.__class__"))) (hq:Q (.done (.ret (.ref C))) s) :
  wpAny (model prog w) A (Builtin.«object.__getattribute__» ⟨[.ref x,.str "__class__" tk],[]⟩) Q E s:=by
 obtain⟨hh,g,d,t,os⟩:=s
 have L0:=I.type (M:=model prog w)
 have L1:=looks_find (M:=model prog w) X I hf
 unfold Builtin.«object.__getattribute__»
 refine wpAny_bind (wpAny_pure (wpAny_bind (wpAny_pure ?_)))
 refine wpAny_bind (L0.at (wpAny_bind (L1.at ?_)))
 show wpAny _ _ (holding [Value.builtin "object.__class__"] (call (.builtin "getset_descriptor.__get__") [.builtin "object.__class__",.ref x,.ref C]) >>= ret) _ _ _
 refine wpAny_bind (wpAny_holding (wpAny_call ?_))
 exact class_get (s:=⟨hh,g,d,t,os⟩) (ox:=ox) (od:=od) X I (S.has (by decide)) (wpAny_pure hq)
theorem Bg{tk:Tok}{v:Value}{fill expr:Bool}{Q:Value→Shared→Prop}(S:XStd K c C L cd)(X:K.In s.heap)(I:InstAt s.heap x ox C od)
  (he:∀(A':Around)(Q':Fin→Shared→Prop),Q' (.done (.ret v)) s→wpAny (model prog w) A' (Builtin.«object.__getattribute__» ⟨[.ref x,.str name tk],[]⟩) Q' (fun _ _=>False) s) (hh:handedIn v=true) (hq:Q v s) :
  wpAny (model prog w) A (getAttrBy (.ref x) (.str name tk) fill expr) Q E s:=by
 have FB:=F.excAttr_ValueError
 have L0:=I.type (M:=model prog w)
 have L1:=looks_findIn (M:=model prog w) X S.ga
 have L2:=looks_findIn (M:=model prog w) X S.gx
 unfold getAttrBy
 refine wpAny_holding (wpAny_bind (L0.here (wpAny_bind (L1.here ?_))))
 have hx2:(Value.builtin "BaseException.__getattribute__" == Value.builtin "object.__getattribute__")=false:=by decide +kernel
 dsimp only
 rw[hx2,Bool.and_false,if_neg (by decide)]
 unfold getAttrByItsOwn
 refine wpAny_bind ((looks_hook (mc:=.ref C) X (r:=none) S.gx).here ?_)
 refine wpAny_bind (wpAny_attempt (wpAny_holding ?_))
 have hx0:(expr && onTheHeap (Value.builtin "BaseException.__getattribute__"))=false:=by cases expr <;> rfl
 unfold callGetattribute boundAndCalled
 rw[hx0,if_neg (by decide),FB.ga.bind]
 refine wpAny_bind (wpAny_pure (wpAny_call ?_))
 have hi:Looks (model prog w) s.heap (isInstance (.ref x) (.type "BaseException")) true:=L0.andThen (S.isT X _)
 have hkd:builtinKind "BaseException.__getattribute__"=some .slot:=by decide +kernel
 have hsp:splitId "BaseException.__getattribute__"=some ("BaseException","__getattribute__"):=by decide +kernel
 refine codeAny_call_builtin FB.ga.plain F.entry_bexc_ga (@check_slot (model prog w) _ _ s "BaseException.__getattribute__" "BaseException" "__getattribute__" (.ref x) [.str name tk] [] _ hkd hsp hi (F.args_bexc_ga (.ref x) (.str name tk)) ?_)
 refine wpAny_mono (he _ _ ?_) (fun _ _ z=>z) fun _ _ z=>z.elim
 show wpAny _ _ (handedOut v) _ _ _
 rw[handedOut_of hh]
 exact wpAny_pure hq
end
theorem Bh(K:Frag):specialIn K (.builtin "object.__class__") "__get__"=some (some (.builtin "getset_descriptor.__get__")):=(by decide +kernel:specialIn [] (.builtin "object.__class__") "__get__"=some (some (.builtin "getset_descriptor.__get__")))
theorem v9(K:Frag):takesIn K (.builtin "object.__class__")=some true:=(by decide +kernel:takesIn [] (.builtin "object.__class__")=some true)
section
variable{prog:Program}{w:World}{A:Around}{E:Value→Shared→Prop}{s:Shared}{K:Frag}{c:Str}{x C L:Addr}{cd:ClassData}{ox:Obj}{od:Option Obj}
theorem XStd.fclass(S:XStd K c C L cd)(od:Option Obj):findObj K C od "__class__"=some (.bind (.builtin "getset_descriptor.__get__") (.builtin "object.__class__")):=by
 unfold findObj
 rw[S.cls,Option.bind_some,S.gc,Option.bind_some]
 simp[Bh,v9]
theorem rE{Q:Option Value→Shared→Prop}(S:XStd K c C L cd)(X:K.In s.heap)(I:InstAt s.heap x ox C od)(hq:Q (some (.ref C)) {s with toks:=s.toks+1}) :
  wpAny (model prog w) A (getAttr? (.ref x) "__class__") Q E s:=by
 obtain⟨hh,g,d,t,os⟩:=s
 unfold getAttr? getAttrBy?
 refine wpAny_bind (wpAny_mkText (wpAny_bind (wpAny_attempt ?_)))
 exact Bg (s:=⟨hh,g,d,t+1,os⟩) (ox:=ox) (od:=od) S X I (fun A' Q' q=>pU (s:=⟨hh,g,d,t+1,os⟩) S X I (S.fclass od) q) rfl (wpAny_pure hq)
theorem yS(S:XStd K c C L cd):KitX K (.ref x) (.ref C) (fun h=>∃ox od,InstAt h x ox C od) where
 ty:=fun _ _ _ ⟨_,_,I⟩=>I.type
 it:=fun _ _ X _=>by
  have hc:=S.cls
  unfold clsIn at hc
  split at hc
  ·
   rename_i ho
   intro A' Q' E' s' k q
   unfold isType loadHead
   exact wpAny_bind (wpAny_loadPart (k _ _ (X _ _ ho)) (wpAny_pure q))
  ·
   cases hc
 ne:=fun h tp dd its n sl X htp=>by
  refine Bool.eq_false_iff.mpr fun q=>?_
  have e:C=tp:=Value.ref.inj (beq_iff_eq.mp q)
  subst e
  have hc:=S.cls
  unfold clsIn at hc
  split at hc
  ·
   rename_i ho
   have z:=(X _ _ ho).symm.trans htp
   cases z
  ·
   cases hc
 ca:=fun X ⟨_,_,I⟩ k=>rE S X I k
end
theorem lO{K:Frag}{C:Addr}{cd:ClassData}(h:clsIn K C=some cd):∃oc odc sl,K.lookup C=some ⟨oc,odc,.cls cd,sl⟩:=by
 unfold clsIn at h
 split at h
 ·
  rename_i ho;cases h;exact⟨_,_,_,ho⟩
 ·
  cases h
section
variable{prog:Program}{w:World}{A:Around}{E:Value→Shared→Prop}{s:Shared}{K:Frag}{c:Str}{x C L:Addr}{cd:ClassData}{ox:Obj}{od:Option Obj}{name:Str}
theorem ED{vs:Array Value}{text:Value}{Q:Value→Shared→Prop}(S:XStd K c C L cd)(X:K.In s.heap)(I:InstAt s.heap x ox C od)(hd:ox.data=.fields vs)(hz:0<vs.size)
  (hq:∀ t,Q .none {s with heap:=(s.heap.push {cls:=.type "tuple",data:=.seq #[text] }).update x (Obj.mapFields (·.setIfInBounds 0 (.ref s.heap.objs.size))),toks:=t}) :
  wpAny (model prog w) A (call (.builtin "ValueError.__init__") [.ref x,text]) Q E s:=by
 have FB:=F.excBase_ValueError
 have hi:Looks (model prog w) s.heap (isInstance (.ref x) (.type "ValueError")) true:=I.type.andThen (S.isT X _)
 have hx:=I.at_
 obtain⟨hh,g,d,t,os⟩:=s
 have hx1:=Heap.get?_push_of_some (h:=hh) {cls:=.type "tuple",data:=.seq #[text] } hx
 have h0:vs[0]?=some vs[0]:=Array.getElem?_eq_getElem hz
 have hst:=FB.noStar
 refine wpAny_call (codeAny_call_builtin FB.init.plain FB.initEntry ?_)
 simp only[checkBuiltinCall,FB.initKind,FB.initSplit,FB.initRow]
 refine wpAny_bind (hi.here ?_)
 simp only[Bool.not_true,Bool.false_eq_true,if_false]
 have hcl:=I.cls
 obtain⟨oc,odc,sl,hK⟩:=lO S.cls
 have hC:hh.get? C=some ⟨oc,odc,.cls cd,sl⟩:=X _ _ hK
 repeat (first|(with_reducible refine wpAny_loadPart_at hx ?_;rw[hcl])|with_reducible refine wpAny_loadPart_at hC ?_|with_reducible refine(S.isT X _).here ?_|wp_step)
 rw[hd]
 refine wpAny_pure ?_
 rw[h0]
 refine wpAny_pure (wpAny_bind (wpAny_setField hx1 hd hz ?_))
 have done:∀t',wpAny (model prog w) A.in1 (ret Value.none) (fun fin s'=>match fin with
   | Fin.done f=>(match (Except.ok f:Result)with
    |.ok (.ret v)=>Q v s'
    |.ok _=>False
    |.error e=>E e s')
   | Fin.again c'=>c'.quiet=true∧codeAny (model prog w) A c' (fun r s'=>match r with
    |.ok (.ret v)=>Q v s'
    |.ok _=>False
    |.error e=>E e s') s') (fun e s'=>E e s') ⟨(hh.push {cls:=.type "tuple",data:=.seq #[text] }).update x (Obj.mapFields (·.setIfInBounds 0 (.ref hh.objs.size))),g,d,t',os⟩:=fun t'=>wpAny_pure (hq t')
 split
 ·
  exact wpAny_letGo (done _)
 ·
  exact wpAny_pure (done _)
theorem pV{v:Value}{Q:Unit→Shared→Prop}(S:XStd K c C L cd)(X:K.In s.heap)(I:InstAt s.heap x ox C od)(hna:findIn K (.ref C) name=some none)
  (h:∀(A':Around)(R:Fin→Shared→Prop),(∀s',Q () s'→R (.done (.ret .none)) s')→wpAny (model prog w) A' (Builtin.ObjectAttr.storeInOwnDict (.ref x) (.ref C) (.str name s.toks) name v false) R (fun _ _=>False) {s with toks:=s.toks+1}) :
  wpAny (model prog w) A (setAttr (.ref x) name v) Q E s:=by
 have SF:=PySem.F.store_ValueError
 obtain⟨hh,g,d,t,os⟩:=s
 have L0:=I.type (M:=model prog w)
 have L1:=looks_findIn (M:=model prog w) X S.sa
 have L2:=looks_findIn (M:=model prog w) X hna
 have Lm:Looks (model prog w) hh (mroOf (.ref C)) cd.mro:=(looks_clsIn X S.cls).andThen .now
 have hi:Looks (model prog w) hh (isInstance (.ref x) (.type "object")) true:=L0.andThen (S.isT X _)
 unfold setAttr callSpecial? specialOf
 refine wpAny_bind (wpAny_mkText (wpAny_bind (wpAny_bind (wpAny_bind (L0.at (L1.at ?_))))))
 dsimp only
 refine wpAny_holding (wpAny_bind ?_)
 rw[SF.slot.bind]
 refine wpAny_pure (wpAny_bind (wpAny_call ?_))
 refine codeAny_call_builtin SF.slot.plain SF.entry (@check_slot (model prog w) _ _ ⟨hh,g,d,t+1,os⟩ "object.__setattr__" "object" "__setattr__" (.ref x) [.str name t,v] [] _ SF.kind SF.split hi (SF.args (.ref x) (.str name t) v) ?_)
 show wpAny _ _ (Builtin.«object.__setattr__» ⟨[.ref x,.str name t,v],[]⟩) _ _ _
 rw[osa_eq,refuse_eq]
 refine wpAny_bind (wpAny_bind (L0.at (wpAny_bind (Lm.at ?_))))
 rw[S.mro,refuseLoop_ref,refuseLoop_ref,SF.passes]
 refine wpAny_pure (wpAny_bind (L0.at (wpAny_bind (L2.at (wpAny_bind (wpAny_pure ?_))))))
 dsimp only
 refine wpAny_mono (h _ _ fun s' q=>?_) (fun _ _ z=>z) fun _ _ z=>z.elim
 exact wpAny_pure (wpAny_pure q)
theorem yT{v:Value}{Q:Unit→Shared→Prop}(S:XStd K c C L cd)(X:K.In s.heap)(I:InstAt s.heap x ox C od)(hdn:ox.dict=none)(hna:findIn K (.ref C) name=some none)
  (hq:∀h' tk,h'.get? x=some {ox with dict:=some s.heap.objs.size}→h'.Ns1 s.heap.objs.size (fun y=>if y=name then some v else none)→(∀b o,b≠x→s.heap.get? b=some o→h'.get? b=some o)→Q () {s with heap:=h',toks:=tk}) :
  wpAny (model prog w) A (setAttr (.ref x) name v) Q E s:=by
 refine pV S X I hna fun A' R k=>?_
 obtain⟨hh,g,d,t,os⟩:=s
 have hx:=I.at_
 have hcl:=I.cls
 have hno:=I.no
 have Lc:=looks_clsIn (M:=model prog w) X S.cls
 have hxs:x≠hh.objs.size:=Nat.ne_of_lt (Heap.lt_size hx)
 unfold Builtin.ObjectAttr.storeInOwnDict
 refine wpAny_bind (wpAny_pure ?_)
 rw[if_neg (by show ¬ ((Value.ref C == Value.type "module")=true); exact fun z=>by cases z)]
 refine wpAny_bind ?_
 show wpAny _ _ (instanceDict x true) _ _ _
 unfold instanceDict
 refine wpAny_bind (wpAny_loadPart_at hx ?_)
 rw[hcl]
 dsimp only
 refine wpAny_bind (Lc.at ?_)
 rw[S.dct]
 simp only[Bool.not_true,Bool.false_eq_true,if_false]
 rw[hdn]
 dsimp only
 rw[if_neg (by simp[typeHasDict])]
 have go:∀(Q':Option Addr→Shared→Prop),(∀ h1,h1.get? x=some {ox with dict:=some hh.objs.size}→h1.get? hh.objs.size=some {cls:=.type "dict",data:=.dict #[] }→(∀ b o,b≠x→hh.get? b=some o→h1.get? b=some o)→Q' (some hh.objs.size) ⟨h1,g,d,t+1,os⟩) →
   wpAny (model prog w) A' (do
    let d ← alloc {cls:=.type "dict",data:=.dict #[] }
    update x fun o=>{o with dict:=some d}
    dictMade (.ref C) x d) Q' (fun _ _=>False) ⟨hh,g,d,t+1,os⟩:=fun Q' q=>by
  have hx1:(hh.push {cls:=.type "dict",data:=.dict #[] }).get? x=some ox:=Heap.get?_push_of_some _ hx
  refine wpAny_bind (wpAny_alloc' ?_)
  refine wpAny_bind (wpAny_update' hx1 ?_)
  refine wpAny_pure (q _ ?_ ?_ fun b o hb e=>?_)
  ·
   refine Heap.get?_update_self _ hx1 ?_
   have fr:=(Heap.get?_some_iff.mp hx).2
   obtain⟨c0,d0,dt,s0⟩:=ox
   cases dt<;>first|rfl|exact fr
  ·
   exact(Heap.get?_update_ne _ _ _ _ hxs.symm).trans (Heap.get?_push_at rfl rfl)
  ·
   exact(Heap.get?_update_ne _ _ _ _ hb).trans (Heap.get?_push_of_some _ e)
 have fin:∀ h1,h1.get? x=some {ox with dict:=some hh.objs.size}→h1.get? hh.objs.size=some {cls:=.type "dict",data:=.dict #[] }→(∀ b o,b≠x→hh.get? b=some o→h1.get? b=some o) →
   wpAny (model prog w) A' (Builtin.ObjectAttr.storeInDict hh.objs.size (.str name t) name v) R (fun _ _=>False) ⟨h1,g,d,t+1,os⟩:=fun h1 e1 e2 e3=>by
  have n0:h1.Ns hh.objs.size (fun _=>none):=⟨_,#[],_,e2,rfl,fun e he=>absurd he (by simp),fun _=>rfl⟩
  unfold Builtin.ObjectAttr.storeInDict Builtin.ObjectAttr.newKeyGuard
  refine wpAny_bind (wpAny_pure (wpAny_bind (wpAny_nsSet1 (Heap.Ns1.of_empty n0) fun h2 n2 hs=>?_)))
  obtain⟨oD,esD,epD,hoD,hdD,hcD⟩:=n2.count (Within.cons name v Within.nil)
  refine wpAny_bind (wpAny_lookBehind hoD (by rw[hdD];exact pastItsLine_dict (Nat.le_trans hcD (by rw[List.length_cons,List.length_nil,sizeLine_eq];omega))) ?_)
  refine wpAny_pure (k _ (hq h2 _ ((hs.2 x hxs).trans e1) n2 fun b o hb e=>(hs.2 b (Nat.ne_of_lt (Heap.lt_size e))).trans (e3 b o hb e)))
 split
 ·
  rename_i q
  rw[notCls,q]at hno
  cases hno
 ·
  exact go _ fin
theorem yU{v:Value}{Q:Unit→Shared→Prop}{dx:Addr}{mA:Str→Option Value}{ns:List Str}(S:XStd K c C L cd)(X:K.In s.heap)(I:InstAt s.heap x ox C od)(hdx:ox.dict=some dx)(hN:s.heap.Ns1 dx mA)(hw:PySem.Within mA ns)(hz:ns.length≤1000)(hna:findIn K (.ref C) name=some none)
  (hq:∀h' tk,h'.Ns1 dx (fun y=>if y=name then some v else mA y)→Heap.SameBut dx s.heap h'→Q () {s with heap:=h',toks:=tk}) :
  wpAny (model prog w) A (setAttr (.ref x) name v) Q E s:=by
 refine pV S X I hna fun A' R k=>?_
 obtain⟨hh,g,d,t,os⟩:=s
 have hx:=I.at_
 have hcl:=I.cls
 have Lc:=looks_clsIn (M:=model prog w) X S.cls
 unfold Builtin.ObjectAttr.storeInOwnDict
 refine wpAny_bind (wpAny_pure ?_)
 rw[if_neg (by show ¬ ((Value.ref C == Value.type "module")=true); exact fun z=>by cases z)]
 refine wpAny_bind ?_
 show wpAny _ _ (instanceDict x true) _ _ _
 unfold instanceDict
 refine wpAny_bind (wpAny_loadPart_at hx ?_)
 rw[hcl]
 dsimp only
 refine wpAny_bind (Lc.at ?_)
 rw[S.dct]
 simp only[Bool.not_true,Bool.false_eq_true,if_false]
 rw[hdx]
 refine wpAny_pure ?_
 show wpAny _ _ (Builtin.ObjectAttr.storeInDict dx (.str name t) name v) _ _ _
 unfold Builtin.ObjectAttr.storeInDict Builtin.ObjectAttr.newKeyGuard
 refine wpAny_bind (wpAny_pure (wpAny_bind (wpAny_nsSet1 hN fun h2 n2 hs=>?_)))
 obtain⟨oD,esD,epD,hoD,hdD,hcD⟩:=n2.count (Within.cons name v hw)
 refine wpAny_bind (wpAny_lookBehind hoD (by rw[hdD];exact pastItsLine_dict (Nat.le_trans hcD (by rw[List.length_cons,sizeLine_eq];omega))) ?_)
 exact wpAny_pure (k _ (hq h2 _ n2 hs))
end
end L2
namespace L2
open PySem PySem.Spec PyProof.Rows
section
variable{X:Cx}{pins:List (Addr×Obj)}{σ:St}{H:Hp}{s:Shared}
theorem Inv.reword{a:Addr}{u w:HO}(I:Inv X pins σ H s)(h:H a=some u)(hu:¬Pers u)(hw:∀y,u≠.own y)(nw:c7 X.prog X.w H s.heap a w)(hw2:∀C dx fs,w≠.ins C dx fs):Inv X pins σ (upd H a w) s:=by
 have ne:∀b,H b=none→b≠a:=fun b n e=>by subst e;rw[h]at n;cases n
 have nt:∀b xs,H b=some (.tup xs)→b≠a:=fun b xs n e=>by subst e;rw[h]at n;cases n;exact hu True.intro
 have nf:∀b o z,H b=some (.frz o z)→b≠a:=fun b o z n e=>by subst e;rw[h]at n;cases n;exact hu True.intro
 have no:∀b z,H b=some (.own z)→b≠a:=fun b z n e=>by subst e;rw[h]at n;cases n;exact hw _ rfl
 refine⟨I.ok,I.os,I.bare,⟨I.base.keep,I.base.slot,fun b ob e n hx=>?_,I.base.there,fun b xs e=>?_,fun b ob z e=>?_,fun b ps e=>?_⟩,I.loc,I.cell,?_,fun x c e=>?_,fun p hp=>?_,fun b z e=>?_,I.len⟩
 ·
  have q:=I.base.free b ob e n hx
  rw[ay (ne b q)];exact q
 ·
  have q:=I.base.tups b xs e
  rw[ay (nt b xs q)];exact q
 ·
  have q:=I.base.frzs b ob z e
  rw[ay (nf b ob z q)];exact q
 ·
  have q:=I.base.tbls b ps e
  rw[ay (fun z=>by subst z;rw[h]at q;cases q;exact hu True.intro)];exact q
 ·
  rw[ay (ne _ I.free)];exact I.free
 ·
  rcases I.freeC x c e with z|⟨hf,o,z⟩
  ·
   exact .inl (by rw[ay (ne _ z)];exact z)
  ·
   exact .inr ⟨hf,o,by rw[ay (nf _ _ _ z)];exact z⟩
 ·
  obtain⟨e,n,r⟩:=I.pin p hp
  exact⟨e,by rw[ay (ne _ n)];exact n,r⟩
 ·
  by_cases hb:b=a
  ·
   subst hb
   rw[a7]at e
   cases e
   exact nw.stay (fun c v _ q=>q) (fun c q=>by rw[ay (no c _ q)];exact q) (fun c xs q=>by rw[ay (nt c xs q)];exact q) fun c ob _ _ q=>by rw[ay (nf c ob _ q)];exact q
  ·
   rw[ay hb]at e
   exact(I.hok b z e).stay (fun c v _ q=>q) (fun c q=>by rw[ay (no c _ q)];exact q) (fun c xs q=>by rw[ay (nt c xs q)];exact q) fun c ob _ _ q=>by rw[ay (nf c ob _ q)];exact q
theorem Inv.freezeL{a:Addr}{xs:List V}(I:Inv X pins σ H s)(h:H a=some (.lst xs)):∃o,Inv X pins σ (upd H a (.frz o (.lst xs))) s:=by
 obtain⟨z,its,n,r,e⟩:=id (I.hok a _ h)
 exact⟨_,I.reword h (fun q=>q) (fun _ q=>nomatch q) ⟨e,z,its,n,r,e⟩ (fun _ _ _ q=>nomatch q)⟩
end
section
variable{K:PySem.W.Frag}{Pr H:Hp}{σ:St}{ρ:Ev}
theorem REnv.new(E:REnv K Pr H σ ρ){p:Addr}{o:HO}(h:H p=none):REnv K Pr (upd H p o) σ ρ:=by
 have k:∀b u,H b=some u→upd H p o b=some u:=fun b u e=>by rw[ay (aR e h)];exact e
 exact⟨fun b u e=>k b u (E.sub b u e),E.nd,E.off,Paired.impMem E.sl fun l hl s q=>q.pres (fun b u _ e=>k b u e) l fun a e=>by
  obtain⟨vs,e,_⟩:=E.at_own (eR.mpr ⟨l,hl,e⟩)
  rw[k _ _ e,e]⟩
theorem Reps.new{vs:List V}{ds:List D}(r:Reps K H vs ds){p:Addr}{o:HO}(h:H p=none):Reps K (upd H p o) vs ds:=r.pres fun b u _ e=>by rw[ay (aR e h)];exact e
theorem Rep.new{v:V}{d:D}(r:Rep K H v d){p:Addr}{o:HO}(h:H p=none):Rep K (upd H p o) v d:=r.pres fun b u _ e=>by rw[ay (aR e h)];exact e
theorem kU:owns (.un::ρ)=owns ρ:=rfl
theorem aK{a:Addr}{xs:List D}:owns (.own a xs::ρ)=a::owns ρ:=rfl
theorem REnv.cons_d(E:REnv K Pr H σ ρ){v:V}{x:D}(r:Rep K H v x):REnv K Pr H (some v::σ) (.d x::ρ):=⟨E.sub,E.nd,E.off,.cons ⟨v,rfl,r⟩ E.sl⟩
theorem REnv.cons_un(E:REnv K Pr H σ ρ){v:Option V}:REnv K Pr H (v::σ) (.un::ρ):=⟨E.sub,E.nd,E.off,.cons True.intro E.sl⟩
theorem REnv.cons_own(E:REnv K Pr H σ ρ){p:Addr}{vs:List V}{xs:List D}(h:H p=none)(r:Reps K H vs xs):REnv K Pr (upd H p (.lst vs)) (some (.ref p)::σ) (.own p xs::ρ):=by
 have E':=E.new (o:=.lst vs) h
 refine⟨E'.sub,?_,fun a ha=>?_,.cons ⟨rfl,vs,a7,r.new h⟩ E'.sl⟩
 ·
  rw[aK]
  refine List.nodup_cons.mpr ⟨fun hm=>?_,E.nd⟩
  obtain⟨us,e,_⟩:=E.at_own hm
  rw[h]at e;cases e
 ·
  rw[aK]at ha
  rcases List.mem_cons.mp ha with rfl|ha
  ·
   cases q:Pr a with
   |none=>rfl
   |some u=>rw[E.sub a u q]at h;cases h
  ·
   exact E.off a ha
theorem REnv.cons_tup(E:REnv K Pr H σ ρ){p:Addr}{vs:List V}{xs:List D}(h:H p=none)(r:Reps K H vs xs):REnv K Pr (upd H p (.tup vs)) (some (.ref p)::σ) (.d (.tup xs)::ρ) :=
 (E.new h).cons_d (.tup (SqT.of a7) (r.new h))
theorem REnv.freeze(E:REnv K Pr H σ (.own a xs::ρ)){vs:List V}(h:H a=some (.lst vs))(o:Obj):REnv K Pr (upd H a (.frz o (.lst vs))) σ (.d (.lst xs)::ρ):=by
 have pa:Pr a=none:=E.off a (by rw[aK];exact List.mem_cons_self)
 have nd:=E.nd
 rw[aK]at nd
 obtain⟨hn,nd⟩:=List.nodup_cons.mp nd
 have p:Pres H (upd H a (.frz o (.lst vs))):=fun b u pu e=>by
  rw[ay];exact e
  rintro rfl
  rw[h]at e;cases e;exact pu
 refine⟨fun b u e=>?_,nd,fun b hb=>E.off b (by rw[aK];exact List.mem_cons_of_mem _ hb),?_⟩
 ·
  rw[ay];exact E.sub b u e
  rintro rfl
  rw[pa]at e;cases e
 ·
  have sl:=E.sl
  cases sl with
  | cons q t =>
   obtain⟨e,us,e2,r⟩:=q
   rw[h]at e2;cases e2
   refine .cons ⟨.ref a,e,.lst (.inl ⟨o,a7⟩) (r.pres p)⟩ (Paired.impMem t fun l hl s z=>z.pres p l fun b hbm=>?_)
   rw[ay]
   rintro rfl
   exact hn (eR.mpr ⟨l,hl,hbm⟩)
theorem aA(l:L)(ρ:Ev):owns (l::ρ)=aE l++owns ρ:=rfl
theorem kW{a:Addr}{xs ys:List D}:∀{ρ:Ev}{i:Nat},ρ[i]?=some (.own a xs)→owns (ρ.set i (.own a ys))=owns ρ
 |[],_,h=>by simp at h
 |_::_,0,h=>by simp at h;subst h;rfl
 | l::ρ,i+1,h=>by
  have ih:=kW (i:=i) (ρ:=ρ) (ys:=ys) (by simpa using h)
  show owns (l::ρ.set i (.own a ys))=owns (l::ρ)
  rw[aA,aA,ih]
theorem cA{k:L}:∀{ρ:Ev}{i:Nat}{l:L},ρ[i]?=some k→aE l=[]→(owns ρ).Perm (aE k++owns (ρ.set i l))
 |[],_,_,h,_=>by simp at h
 | _::ρ,0,l,h,hl=>by
  simp at h;subst h
  show(owns (_::ρ)).Perm (_++owns (l::ρ))
  rw[aA,aA,hl]
  exact List.Perm.refl _
 | m::ρ,i+1,l,h,hl=>by
  have ih:=cA (i:=i) (ρ:=ρ) (l:=l) (by simpa using h) hl
  show(owns (m::ρ)).Perm (aE k++owns (m::ρ.set i l))
  rw[aA,aA]
  refine(List.Perm.append_left _ ih).trans ?_
  rw[← List.append_assoc,← List.append_assoc]
  exact List.Perm.append_right _ List.perm_append_comm
theorem wb{a:Addr}{xs:List D}{ρ:Ev}{i:Nat}{l:L}(h:ρ[i]?=some (.own a xs))(hl:aE l=[]):(owns ρ).Perm (a::owns (ρ.set i l)):=cA h hl
theorem tM{ρ:Ev}{i:Nat}(l:L)(h:ρ[i]?=some .un):(owns (ρ.set i l)).Perm (aE l++owns ρ):=by
 have hi:i<ρ.length:=(List.getElem?_eq_some_iff.mp h).1
 have pm:=cA (ρ:=ρ.set i l) (i:=i) (k:=l) (l:=.un) (by simp[hi]) rfl
 rw[List.set_set]at pm
 have e2:ρ.set i .un=ρ:=by
  have:=List.set_getElem_self (as:=ρ) (i:=i) hi
  have e3:ρ[i]=.un:=(List.getElem?_eq_some_iff.mp h).2
  rw[e3]at this;exact this
 rw[e2]at pm
 exact pm
theorem REnv.outL(E:REnv K Pr H σ ρ){i:Nat}{k:L}{s:Option V}(h:ρ[i]?=some k)(hs:σ[i]?=some s):REnv K Pr H (s::σ) (k::ρ.set i .un):=by
 have pm:=cA (l:=.un) h rfl
 obtain⟨s',hs',q⟩:=Paired.get2 E.sl h
 rw[hs]at hs'
 cases hs'
 refine⟨E.sub,?_,fun b hb=>E.off b (pm.mem_iff.mpr (by rw[aA]at hb;exact hb)),.cons q (Paired.set_r i E.sl fun _ _=>by simp only[aJ])⟩
 rw[aA];exact pm.nodup_iff.mp E.nd
theorem REnv.out(E:REnv K Pr H σ ρ){i:Nat}{a:Addr}{xs:List D}(h:ρ[i]?=some (.own a xs)):REnv K Pr H (some (.ref a)::σ) (.own a xs::ρ.set i .un):=by
 have pm:=wb (l:=.un) h rfl
 obtain⟨s,hs,q⟩:=Paired.get2 E.sl h
 refine⟨E.sub,?_,fun b hb=>E.off b (pm.mem_iff.mpr (by rw[aK]at hb;exact hb)),.cons ?_ (Paired.set_r i E.sl fun _ _=>by simp only[aJ])⟩
 ·
  rw[aK];exact pm.nodup_iff.mp E.nd
 ·
  obtain⟨_,r⟩:=q
  exact⟨rfl,r⟩
theorem REnv.back{v:Option V}{l:L}(E:REnv K Pr H (v::σ) (l::ρ)){i:Nat}(h:ρ[i]?=some .un)(hs:σ[i]?=some v):REnv K Pr H σ (ρ.set i l):=by
 have sl:=E.sl
 cases sl with
 | cons q t =>
  have e1:ρ.set i l=(ρ.set i l):=rfl
  refine⟨E.sub,?_,fun b hb=>?_,Paired.set_r i t fun a e=>by rw[hs]at e;cases e;exact q⟩
  ·
   exact(tM l h).nodup_iff.mpr E.nd
  ·
   exact E.off b ((tM l h).mem_iff.mp hb)
theorem REnv.write(E:REnv K Pr H σ (.own a xs::ρ)){vs:List V}{ys:List D}(r:Reps K H vs ys):REnv K Pr (upd H a (.lst vs)) σ (.own a ys::ρ):=by
 have pa:Pr a=none:=E.off a (by rw[aK];exact List.mem_cons_self)
 have nd:=E.nd
 rw[aK]at nd
 obtain⟨hn,nd'⟩:=List.nodup_cons.mp nd
 obtain⟨us,ha,mu⟩:=E.at_own (a:=a) (by rw[aK];exact List.mem_cons_self)
 have p:Pres H (upd H a (.lst vs)):=fun b u pu e=>by
  rw[ay];exact e
  rintro rfl
  rw[ha]at e;cases e;exact mu.no pu
 refine⟨fun b u e=>?_,nd,fun b hb=>E.off b hb,?_⟩
 ·
  rw[ay];exact E.sub b u e
  rintro rfl
  rw[pa]at e;cases e
 ·
  have sl:=E.sl
  cases sl with
  | cons q t =>
   obtain⟨e,_⟩:=q
   refine .cons ⟨e,vs,a7,r.pres p⟩ (Paired.impMem t fun l hl s z=>z.pres p l fun b hbm=>?_)
   rw[ay]
   rintro rfl
   exact hn (eR.mpr ⟨l,hl,hbm⟩)
end
abbrev W(α:Type):=Ev→(α→Ev→Prop)→Prop
inductive Fl where
 |nx|bk|ct|rt (r:L)
def EL(X:Cx)(pins:List (Addr×Obj))(σ:St)(Pr:Hp)(post:L→Ev→Prop)(u:Value)(s':Shared):Prop :=
 ∃v H' r ρ',Inv X pins σ H' s'∧RelV v u∧REnv X.K Pr H' (some v::σ) (r::ρ')∧post r ρ'
def PL(X:Cx)(e:Expr)(t:W L):Prop :=
 ∀(pins:List (Addr×Obj))(s:Shared)(σ:St)(H Pr:Hp)(ρ:Ev)(post:L→Ev→Prop),Inv X pins σ H s→REnv X.K Pr H σ ρ→t ρ post→wpAny (model X.prog X.w) X.A (eval e X.env) (EL X pins σ Pr post) X.xe s
def EB(X:Cx)(pins:List (Addr×Obj))(σ:St)(Pr:Hp)(post:Bool→Ev→Prop)(b:Bool)(s':Shared):Prop :=
 ∃H' ρ',Inv X pins σ H' s'∧REnv X.K Pr H' σ ρ'∧post b ρ'
def PB(X:Cx)(e:Expr)(t:W Bool):Prop :=
 ∀(pins:List (Addr×Obj))(s:Shared)(σ:St)(H Pr:Hp)(ρ:Ev)(post:Bool→Ev→Prop),Inv X pins σ H s→REnv X.K Pr H σ ρ→t ρ post→wpAny (model X.prog X.w) X.A (isTrue e X.env (eval e X.env)) (EB X pins σ Pr post) X.xe s
def EA(X:Cx)(pins:List (Addr×Obj))(σ:St)(Pr:Hp)(bs:List (Option Nat))(post:List L→Ev→Prop)(us:List Value)(s':Shared):Prop :=
 ∃vs H' ls ρ',Inv X pins σ H' s'∧Vals vs us∧vs.length=ls.length∧vs.length=bs.length∧REnv X.K Pr H' (vs.map some++σ) (ls++ρ')∧(∀(k i:Nat),bs[k]?=some (some i)→ls[k]?=some L.un∧∃v,vs[k]?=some v∧σ[i]?=some (some v))∧post ls ρ'
def PAL(X:Cx)(es:List Expr)(bs:List (Option Nat))(t:W (List L)):Prop :=
 ∀(pos:Pos)(pins:List (Addr×Obj))(s:Shared)(σ:St)(H Pr:Hp)(ρ:Ev)(post:List L→Ev→Prop),Inv X pins σ H s→REnv X.K Pr H σ ρ→t ρ post →
  wpAny (model X.prog X.w) X.A (spliced (backTo pos (starEach es X.env))) (EA X pins σ Pr bs post) X.xe s
def SM(X:Cx)(pins:List (Addr×Obj))(Pr:Hp)(post:Fl→Ev→Prop)(f:Flow)(s':Shared):Prop :=
 match f with
 |.next=>∃σ' H' ρ',Inv X pins σ' H' s'∧REnv X.K Pr H' σ' ρ'∧post .nx ρ'
 |.brk=>∃σ' H' ρ',Inv X pins σ' H' s'∧REnv X.K Pr H' σ' ρ'∧post .bk ρ'
 |.cont=>∃σ' H' ρ',Inv X pins σ' H' s'∧REnv X.K Pr H' σ' ρ'∧post .ct ρ'
 |.ret u=>∃v σ' H' r ρ' τ,Inv X pins σ' H' s'∧RelV v u∧REnv X.K Pr H' (some v::τ) (r::ρ')∧post (.rt r) ρ'
def PM(X:Cx)(st:Stmt)(t:W Fl):Prop :=
 ∀(pins:List (Addr×Obj))(s:Shared)(σ:St)(H Pr:Hp)(ρ:Ev)(post:Fl→Ev→Prop),Inv X pins σ H s→REnv X.K Pr H σ ρ→t ρ post→wpAny (model X.prog X.w) X.A (exec st X.env) (SM X pins Pr post) X.xe s
def PMs(X:Cx)(st:List Stmt)(t:W Fl):Prop :=
 ∀(pins:List (Addr×Obj))(s:Shared)(σ:St)(H Pr:Hp)(ρ:Ev)(post:Fl→Ev→Prop),Inv X pins σ H s→REnv X.K Pr H σ ρ→t ρ post→wpAny (model X.prog X.w) X.A (execs st X.env) (SM X pins Pr post) X.xe s
section
variable{X:Cx}{e a b:Expr}{pos:Pos}{ta tb:W L}
theorem PL.of{t:TE}{u:W L}(h:PE X e t)(q:∀σ H Pr ρ post,REnv X.K Pr H σ ρ→u ρ post→t σ H fun v H'=>∃r ρ',REnv X.K Pr H' (some v::σ) (r::ρ')∧post r ρ'):PL X e u :=
 fun pins s σ H Pr ρ post I E hu=>thn (h pins s σ H _ I (q σ H Pr ρ post E hu)) fun u s1 ⟨v,H1,I1,r1,r,ρ',E1,p⟩=>⟨v,H1,r,ρ',I1,r1,E1,p⟩
mutual
def bh:L→Option D
 |.un=>none
 |.d x=>some x
 |.own _ xs=>some (.lst xs)
 |.bx none ls=>(bO ls).map .tup
 |.bx (some _) ls=>(bO ls).map .lst
 |.dic _ _=>none
def bO:List L→Option (List D)
 |[]=>some []
 | l::ls=>match bh l,bO ls with
  |some x,some xs=>some (x::xs)
  |_,_=>none
end
def dj:Option D→(D→Prop)→Prop
 |some x,k=>k x
 |none,_=>False
theorem uX{o:Option D}{k:D→Prop}(h:dj o k):∃x,o=some x∧k x:=by
 cases o with
 |some x=>exact⟨x,rfl,h⟩
 |none=>exact h.elim
def toDB(a:Option Addr)(ls:List L)(k:D→Prop):Prop:=dj (bh (.bx a ls)) k
def toD:L→(D→Prop)→Prop
 |.un,_=>False
 |.d x,k=>k x
 |.own _ xs,k=>k (.lst xs)
 |.bx a ls,k=>toDB a ls k
 |.dic _ _,_=>False
theorem n8{a:Option Addr}{ls:List L}{k:D→Prop}(h:toDB a ls k):∃x,bh (.bx a ls)=some x∧k x:=uX h
def eraK(ls:List L)(k:List D→Prop):Prop:=∃xs,bO ls=some xs∧k xs
theorem Dj(ls:List L)(k:D→Prop):toDB none ls k=eraK ls fun xs=>k (.tup xs):=by
 unfold toDB eraK
 simp only[bh]
 cases bO ls with
 |none=>simp[dj]
 |some xs=>simp[dj]
theorem Dk(a:Addr)(ls:List L)(k:D→Prop):toDB (some a) ls k=eraK ls fun xs=>k (.lst xs):=by
 unfold toDB eraK
 simp only[bh]
 cases bO ls with
 |none=>simp[dj]
 |some xs=>simp[dj]
theorem yV(k:List D→Prop):eraK [] k=k []:=by
 unfold eraK
 simp[bO]
theorem Bi(l:L)(k:D→Prop):toD l k=∃x,bh l=some x∧k x:=by
 cases l with
 |un=>simp[toD,bh]
 |d x=>simp[toD,bh]
 |own a xs=>simp[toD,bh]
 | bx a ls =>
  show dj _ k=_
  cases bh (.bx a ls)with
  |none=>simp[dj]
  |some x=>simp[dj]
 |dic a kvs=>simp[toD,bh]
theorem wc(l:L)(ls:List L)(k:List D→Prop):eraK (l::ls) k=toD l fun x=>eraK ls fun xs=>k (x::xs):=by
 rw[Bi]
 unfold eraK
 simp only[bO]
 cases bh l with
 |none=>simp
 | some x =>
  cases bO ls with
  |none=>simp
  |some xs=>simp
theorem cQ{K:PySem.W.Frag}{H:Hp}:∀{vs:List V}{ls:List L},bF K H vs ls↔Paired (aJ K H) (vs.map some) ls
 |[],[]=>⟨fun _=>.nil,fun _=>by simp only[bF]⟩
 | v::vs,l::ls=>by
  simp only[bF,List.map_cons]
  constructor
  ·
   rintro⟨w,us,e,h1,h2⟩
   cases e
   exact .cons h1 (cQ.mp h2)
  ·
   intro h
   cases h with
   |cons q t=>exact⟨v,vs,rfl,q,cQ.mpr t⟩
 | [],l::ls=>by
  simp only[bF,List.map_nil]
  constructor
  ·
   rintro⟨w,us,e,_⟩;cases e
  ·
   intro h;cases h
 | v::vs,[]=>by
  simp only[bF,List.map_cons]
  constructor
  ·
   intro h;cases h
  ·
   intro h;cases h
theorem rF{K:PySem.W.Frag}{H:Hp}:∀{vs:List V}{xs:List D},Paired (aJ K H) (vs.map some) (xs.map .d)→Reps K H vs xs
 |[],[],_=>.nil
 | v::vs,x::xs,h=>by
  simp only[List.map_cons]at h
  cases h with
  | cons q t =>
   simp only[aJ]at q
   obtain⟨w,e,r⟩:=q
   cases e
   exact .cons r (rF t)
 |[],_::_,h=>by simp only[List.map_cons,List.map_nil]at h;cases h
 |_::_,[],h=>by simp only[List.map_cons,List.map_nil]at h;cases h
theorem bF.len{K:PySem.W.Frag}{H:Hp}{vs:List V}{ls:List L}(h:bF K H vs ls):vs.length=ls.length:=by
 have:=Paired.length (cQ.mp h)
 simpa using this
theorem eS:∀{ls:List L}{xs:List D},bO ls=some xs→xs.length=ls.length
 |[],_,h=>by simp[bO]at h;subst h;rfl
 | l::ls,xs,h=>by
  simp only[bO]at h
  split at h
  ·
   rename_i x ys h1 h2
   cases h
   simp[eS h2]
  ·
   cases h
theorem REnv.openT{K:PySem.W.Frag}{Pr H:Hp}{σ:St}{ρ:Ev}{v:Option V}{ls:List L}(E:REnv K Pr H (v::σ) (.bx none ls::ρ)):∃a vs,v=some (.ref a)∧SqT K H a vs∧vs.length=ls.length∧REnv K Pr H (vs.map some++σ) (ls++ρ):=by
 have sl:=E.sl
 cases sl with
 | cons q t =>
  simp only[aJ]at q
  obtain⟨a,vs,e,h,r⟩:=q
  have ow:owns (.bx none ls::ρ)=owns (ls++ρ):=by
   rw[aA,ar]
   simp only[aE,Option.toList,List.nil_append,di]
  exact⟨a,vs,e,h,r.len,E.sub,by rw[← ow];exact E.nd,fun b hb=>E.off b (by rw[ow];exact hb),Paired.app (cQ.mp r) t⟩
theorem REnv.openO{K:PySem.W.Frag}{Pr H:Hp}{σ:St}{ρ:Ev}{v:Option V}{a:Addr}{ls:List L}(E:REnv K Pr H (v::σ) (.bx (some a) ls::ρ)):∃vs,v=some (.ref a)∧H a=some (.lst vs)∧vs.length=ls.length∧a∉owns (ls++ρ)∧Pr a=none∧REnv K Pr H (vs.map some++σ) (ls++ρ):=by
 have sl:=E.sl
 cases sl with
 | cons q t =>
  simp only[aJ]at q
  obtain⟨e,vs,h,r⟩:=q
  have ow:owns (.bx (some a) ls::ρ)=a::owns (ls++ρ):=by
   rw[aA,ar]
   simp only[aE,Option.toList,List.cons_append,List.nil_append,di]
  have nd:=E.nd
  rw[ow]at nd
  obtain⟨n1,n2⟩:=List.nodup_cons.mp nd
  exact⟨vs,e,h,r.len,n1,E.off a (by rw[ow];exact List.mem_cons_self),E.sub,n2,fun b hb=>E.off b (by rw[ow];exact List.mem_cons_of_mem _ hb),Paired.app (cQ.mp r) t⟩
theorem wd(xs:List D):owns (xs.map .d)=[]:=by
 induction xs with
 |nil=>rfl
 |cons x xs ih=>rw[List.map_cons,aA,ih];rfl
def jv(H H':Hp)(S:List Addr):Prop:=Pres H H'∧(∀b,b∉S→H' b=H b)∧∀a∈S,∀vs,H a=some (.lst vs)→∃o,H' a=some (.frz o (.lst vs))
theorem jv.refl(H:Hp):jv H H []:=⟨fun _ _ _ e=>e,fun _ _=>rfl,fun _ h=>by simp at h⟩
mutual
theorem frzL:∀(l:L){pins:List (Addr×Obj)}{σ0:St}{s:Shared}{Pr H:Hp}{σ:St}{ρ:Ev}{v:Option V}{x:D},Inv X pins σ0 H s→REnv X.K Pr H (v::σ) (l::ρ)→bh l=some x→∃H',Inv X pins σ0 H' s∧REnv X.K Pr H' (v::σ) (.d x::ρ)∧jv H H' (aE l)
 |.un,_,_,_,_,_,_,_,_,_,_,_,h=>by simp[bh]at h
 |.dic _ _,_,_,_,_,_,_,_,_,_,_,_,h=>by simp[bh]at h
 | .d y,_,_,_,_,_,_,_,_,_,I,E,h=>by
  simp only[bh,Option.some.injEq]at h
  subst h
  exact⟨_,I,E,jv.refl _⟩
 | .own a xs,_,_,_,_,H,σ,ρ,v,_,I,E,h=>by
  simp only[bh,Option.some.injEq]at h
  subst h
  have sl:=E.sl
  cases sl with
  | cons q t =>
   simp only[aJ]at q
   obtain⟨e0,vs,ha,r⟩:=q
   obtain⟨o,I'⟩:=I.freezeL ha
   refine⟨_,I',E.freeze ha o,fun b u pu eb=>?_,fun b hb=>?_,fun b hb vs' eb=>?_⟩
   ·
    rw[ay];exact eb
    rintro rfl
    rw[ha]at eb;cases eb;exact pu
   ·
    rw[ay]
    rintro rfl
    exact hb (by simp[aE])
   ·
    have e:b=a:=by simpa[aE]using hb
    subst e
    rw[ha]at eb;cases eb
    exact⟨o,a7⟩
 | .bx none ls,_,_,_,Pr,H,σ,ρ,v,x,I,E,h=>by
  simp only[bh,Option.map_eq_some_iff]at h
  obtain⟨xs,h,rfl⟩:=h
  obtain⟨a,vs,rfl,ha,hl,E1⟩:=E.openT
  obtain⟨H',I',E',F⟩:=Bj ls hl I E1 h
  have hxl:=eS h
  obtain⟨s1,s2⟩:=Paired.unapp (by simp[hl,hxl]) E'.sl
  refine⟨H',I',(E'.drop (by simp[hl,hxl])).cons_d (.tup (ha.pres F.1) (rF s1)),F.1,fun b hb=>F.2.1 b ?_,fun b hb=>F.2.2 b ?_⟩
  ·
   simpa[aE,di]using hb
  ·
   simpa[aE,di]using hb
 | .bx (some a) ls,_,_,_,Pr,H,σ,ρ,v,x,I,E,h=>by
  simp only[bh,Option.map_eq_some_iff]at h
  obtain⟨xs,h,rfl⟩:=h
  obtain⟨vs,rfl,ha,hl,hn,hp,E1⟩:=E.openO
  obtain⟨H',I',E',F⟩:=Bj ls hl I E1 h
  have hxl:=eS h
  have hal:a∉owns ls:=fun z=>hn (by rw[ar];exact List.mem_append_left _ z)
  have haρ:a∉owns ρ:=fun z=>hn (by rw[ar];exact List.mem_append_right _ z)
  have ha':H' a=some (.lst vs):=(F.2.1 a hal).trans ha
  obtain⟨s1,s2⟩:=Paired.unapp (by simp[hl,hxl]) E'.sl
  have E2:=E'.drop (by simp[hl,hxl])
  have E3:REnv X.K Pr H' (some (.ref a)::σ) (.own a xs::ρ):=by
   refine⟨E2.sub,?_,fun b hb=>?_,.cons ?_ E2.sl⟩
   ·
    rw[aK];exact List.nodup_cons.mpr ⟨haρ,E2.nd⟩
   ·
    rw[aK]at hb
    rcases List.mem_cons.mp hb with z|z
    ·
     rw[z];exact hp
    ·
     exact E2.off b z
   ·
    unfold aJ
    exact⟨rfl,vs,ha',rF s1⟩
  obtain⟨o,I2⟩:=I'.freezeL ha'
  refine⟨_,I2,E3.freeze ha' o,fun b u pu e=>?_,fun b hb=>?_,fun b hb vs' eb=>?_⟩
  ·
   rw[ay];exact F.1 b u pu e
   rintro rfl
   rw[ha]at e;cases e;exact pu
  ·
   have hb':b≠a∧b∉owns ls:=by simpa[aE,di,not_or]using hb
   rw[ay hb'.1]
   exact F.2.1 b hb'.2
  ·
   by_cases hba:b=a
   ·
    subst hba
    rw[ha]at eb;cases eb
    exact⟨o,a7⟩
   ·
    have hb':b∈owns ls:=by
     rcases(by simpa[aE,di]using hb:b=a∨b∈owns ls)with z|z
     ·
      exact absurd z hba
     ·
      exact z
    rw[ay hba]
    exact F.2.2 b hb' vs' eb
theorem Bj:∀(ls:List L){pins:List (Addr×Obj)}{σ0:St}{s:Shared}{Pr H:Hp}{σ:St}{ρ:Ev}{vs:List V}{xs:List D},vs.length=ls.length→Inv X pins σ0 H s→REnv X.K Pr H (vs.map some++σ) (ls++ρ)→bO ls=some xs→∃H',Inv X pins σ0 H' s∧REnv X.K Pr H' (vs.map some++σ) (xs.map .d++ρ)∧jv H H' (owns ls)
 | [],_,_,_,_,_,_,_,vs,xs,hl,I,E,h=>by
  simp only[bO,Option.some.injEq]at h
  subst h
  cases vs with
  |nil=>exact⟨_,I,E,jv.refl _⟩
  |cons _ _=>simp at hl
 | l::ls,_,_,_,Pr,H,σ,ρ,vs,xs,hl,I,E,h=>by
  simp only[bO]at h
  split at h
  rotate_left
  ·
   cases h
  rename_i x ys h1 h2
  cases h
  cases vs with
  |nil=>simp at hl
  | cons v vs =>
   have hl':vs.length=ls.length:=by simpa using hl
   obtain⟨H1,I1,E1,F1⟩:=frzL l I E h1
   have E2:REnv X.K (aS H1 (ls++ρ)) H1 (vs.map some++σ) (ls++ρ):=(E1.drop (τ:=[some v]) (lam:=[.d x]) rfl).wide
   obtain⟨H2,I2,E3,F2⟩:=Bj ls hl' I1 E2 h2
   have hyl:=eS h2
   have E4:REnv X.K Pr H2 (some v::(vs.map some++σ)) (.d x::(ys.map .d++ρ)):=by
    have z:=REnv.step (τ:=[some v]) (lam:=[.d x]) (w:=[]) (μ:=[]) (σ':=vs.map some++σ) (ρ':=ys.map .d++ρ) E1 rfl E3 rfl
    exact z
   refine⟨H2,I2,E4,fun b u pu e=>F2.1 b u pu (F1.1 b u pu e),fun b hb=>?_,fun b hb vs' eb=>?_⟩
   ·
    rw[aA]at hb
    rw[F2.2.1 b (fun z=>hb (List.mem_append_right _ z)),F1.2.1 b (fun z=>hb (List.mem_append_left _ z))]
   ·
    rw[aA]at hb
    rcases List.mem_append.mp hb with z|z
    ·
     obtain⟨o,eo⟩:=F1.2.2 b z vs' eb
     exact⟨o,F2.1 b _ True.intro eo⟩
    ·
     have hn:b∉aE l:=fun z'=>by
      have nd:=E.nd
      rw[List.cons_append,aA,ar]at nd
      exact(List.nodup_append.mp nd).2.2 b z' b (List.mem_append_left _ z) rfl
     exact F2.2.2 b z vs' ((F1.2.1 b hn).trans eb)
end
theorem EL.frz{pins:List (Addr×Obj)}{σ:St}{Pr:Hp}{post:D→Ev→Prop}{u:Value}{s':Shared}(h:EL X pins σ Pr (fun r ρ=>toD r fun x=>post x ρ) u s') :
  ∃v H' x ρ',Inv X pins σ H' s'∧RelV v u∧REnv X.K Pr H' (some v::σ) (.d x::ρ')∧post x ρ':=by
 obtain⟨v,H',r,ρ',I,rv,E,p⟩:=h
 cases r with
 |un=>exact p.elim
 |d x=>exact⟨v,H',x,ρ',I,rv,E,p⟩
 | own a xs =>
  obtain⟨H2,I2,E2,_⟩:=frzL (.own a xs) I E rfl
  exact⟨v,H2,.lst xs,ρ',I2,rv,E2,p⟩
 | bx a ls =>
  obtain⟨x,ex,p⟩:=n8 p
  obtain⟨H2,I2,E2,_⟩:=frzL (.bx a ls) I E ex
  exact⟨v,H2,x,ρ',I2,rv,E2,p⟩
 |dic a kvs=>exact p.elim
def wFrz(t:W L):W L:=fun ρ post=>t ρ fun r ρ1=>toD r fun x=>post (.d x) ρ1
theorem au{t:W L}(h:PL X e t):PL X e (wFrz t):=fun pins s σ H Pr ρ post I E ht =>
 thn (h pins s σ H Pr ρ _ I E ht) fun u s1 q=>by
  obtain⟨v,H',x,ρ',I',rv,E',p⟩:=EL.frz (post:=fun x ρ=>post (.d x) ρ) q
  exact⟨v,H',.d x,ρ',I',rv,E',p⟩
theorem REnv.head_d{K:PySem.W.Frag}{Pr H:Hp}{v:Option V}{σ:St}{x:D}{ρ:Ev}(E:REnv K Pr H (v::σ) (.d x::ρ)):∃w,v=some w∧Rep K H w x:=by
 have sl:=E.sl
 cases sl with
 |cons q t=>exact q
theorem REnv.tail{K:PySem.W.Frag}{Pr H:Hp}{v:Option V}{σ:St}{l:L}{ρ:Ev}(E:REnv K Pr H (v::σ) (l::ρ)):REnv K Pr H σ ρ:=REnv.drop (τ:=[v]) (lam:=[l]) E rfl
theorem two{pins:List (Addr×Obj)}{s:Shared}{σ:St}{H Pr:Hp}{ρ:Ev}{R:D→D→Ev→Prop}(ha:PL X a ta)(hb:PL X b tb)(I:Inv X pins σ H s)(E:REnv X.K Pr H σ ρ)
  (h:ta ρ fun x ρ1=>toD x fun dx=>tb ρ1 fun y ρ2=>toD y fun dy=>R dx dy ρ2) {α:Type} {Q:α→Shared→Prop} {f:Value→Value→Sem α}
  (hf:∀v u s2 x y H2 dx dy ρ2,Inv X pins σ H2 s2→RelV x v→RelV y u→REnv X.K Pr H2 (some y::some x::σ) (.d dy::.d dx::ρ2)→Rep X.K H2 x dx→Rep X.K H2 y dy→R dx dy ρ2→wpAny (model X.prog X.w) X.A (f v u) Q X.xe s2) :
  wpAny (model X.prog X.w) X.A (eval a X.env) (fun v s₁=>wpAny (model X.prog X.w) X.A (eval b X.env) (fun u s₂=>wpAny (model X.prog X.w) X.A (f v u) Q X.xe s₂) X.xe s₁) X.xe s:=by
 refine thn (ha pins s σ H Pr ρ _ I E h) fun v s1 q=>?_
 obtain⟨x,H1,dx,ρ1,I1,r1,E1,q1⟩:=EL.frz (post:=fun dx ρ1=>tb ρ1 fun y ρ2=>toD y fun dy=>R dx dy ρ2) q
 refine thn (hb pins s1 σ H1 _ ρ1 _ I1 E1.tail.wide q1) fun u s2 q=>?_
 obtain⟨y,H2,dy,ρ2,I2,r2,E2,q2⟩:=EL.frz (post:=fun dy ρ2=>R dx dy ρ2) q
 have E3:REnv X.K Pr H2 (some y::some x::σ) (.d dy::.d dx::ρ2):=REnv.step (τ:=[some x]) (lam:=[.d dx]) (w:=[some y]) (μ:=[.d dy]) E1 rfl E2 rfl
 obtain⟨_,e1,p1⟩:=E3.head_d
 obtain⟨_,e2,p2⟩:=E3.tail.head_d
 cases e1
 cases e2
 exact hf v u s2 x y H2 dx dy ρ2 I2 r1 r2 E3 p2 p1 q2
abbrev Op2:=D→D→(L→Prop)→Prop
def OpD(X:Cx)(f:Value→Value→Sem Value)(op:Op2):Prop :=
 ∀(pins:List (Addr×Obj))(s:Shared)(σ:St)(H Pr:Hp)(ρ:Ev)(x y:V)(v u:Value)(dx dy:D)(post:L→Prop),Inv X pins σ H s→RelV x v→RelV y u→REnv X.K Pr H σ ρ→Rep X.K H x dx→Rep X.K H y dy→op dx dy post →
  wpAny (model X.prog X.w) X.A (f v u) (fun w s'=>∃z H' r,Inv X pins σ H' s'∧RelV z w∧REnv X.K Pr H' (some z::σ) (r::ρ)∧post r) X.xe s
theorem OpD.of{f:Value→Value→Sem Value}{r:R2}{op:Op2}(h:OpR X f r)(q:∀σ H Pr ρ x y dx dy post,REnv X.K Pr H σ ρ→Rep X.K H x dx→Rep X.K H y dy→op dx dy post→r x y H fun z H'=>∃r,REnv X.K Pr H' (some z::σ) (r::ρ)∧post r):OpD X f op :=
 fun pins s σ H Pr ρ x y v u dx dy post I rx ry E px py ho=>thn (h pins s σ H x y v u _ I rx ry (q σ H Pr ρ x y dx dy post E px py ho)) fun w s' ⟨z,H',I',rz,r,E',p⟩=>⟨z,H',r,I',rz,E',p⟩
theorem OpD.imp{f:Value→Value→Sem Value}{o1 o2:Op2}(h1:OpD X f o1)(h:∀x y p,o2 x y p→o1 x y p):OpD X f o2 :=
 fun pins s σ H Pr ρ x y v u dx dy post I rx ry E px py ho=>h1 pins s σ H Pr ρ x y v u dx dy post I rx ry E px py (h _ _ _ ho)
def wBin(op:Op2)(ta tb:W L):W L:=fun ρ post=>ta ρ fun x ρ1=>toD x fun dx=>tb ρ1 fun y ρ2=>toD y fun dy=>op dx dy fun r=>post r ρ2
theorem aq{op:Operator}{o:Op2}(ho:OpD X (binaryOp op) o)(ha:PL X a ta)(hb:PL X b tb):PL X (.BinOp a op b pos) (wBin o ta tb):=fun pins s σ H Pr ρ post I E h =>
 wpAny_BinOp (two (R:=fun dx dy ρ2=>o dx dy fun r=>post r ρ2) ha hb I E h fun v u s2 x y H2 dx dy ρ2 I2 r1 r2 E2 p1 p2 q =>
  thn (ho pins s2 σ H2 Pr ρ2 x y v u dx dy _ I2 r1 r2 E2.tail.tail p1 p2 q) fun w s3 ⟨z,H3,r,I3,rz,E3,p⟩=>⟨z,H3,r,ρ2,I3,rz,E3,p⟩)
theorem gb{op:CmpOp}{o:Op2}(ho:OpD X (compareOp op) o)(ha:PL X a ta)(hb:PL X b tb)(hm:behindInMarks op b=false):PL X (.Compare a [op] [b] pos) (wBin o ta tb):=fun pins s σ H Pr ρ post I E h =>
 wpAny_Compare1 (two (R:=fun dx dy ρ2=>o dx dy fun r=>post r ρ2) ha hb I E h fun v u s2 x y H2 dx dy ρ2 I2 r1 r2 E2 p1 p2 q =>
  thn (ho pins s2 σ H2 Pr ρ2 x y v u dx dy _ I2 r1 r2 E2.tail.tail p1 p2 q) fun w s3 ⟨z,H3,r,I3,rz,E3,p⟩=>⟨z,H3,r,ρ2,I3,rz,E3,p⟩) hm
def wC(x:D):W L:=fun ρ post=>post (.d x) ρ
theorem ah {i j pos}:PL X (.Constant (.int i) j pos) (wC (.int i)):=PL.of CW fun σ H Pr ρ post E h=>⟨_,_,E.cons_d (.int i),h⟩
theorem pW {b j pos}:PL X (.Constant (.bool b) j pos) (wC (.bl b)):=PL.of Em fun σ H Pr ρ post E h=>⟨_,_,E.cons_d (.bl b),h⟩
theorem nB {j pos}:PL X (.Constant .none j pos) (wC .non):=PL.of CY fun σ H Pr ρ post E h=>⟨_,_,E.cons_d .non,h⟩
theorem nC {x j pos}:PL X (.Constant (.str x) j pos) (wC (.str x)):=PL.of vI fun σ H Pr ρ post E h=>⟨_,_,E.cons_d (.str x),h⟩
def varW(o:Option L)(i:Nat)(ρ:Ev)(post:L→Ev→Prop):Prop:=match o with
 |some (.d x)=>post (.d x) ρ
 |some (.own _ xs)=>post (.d (.lst xs)) (ρ.set i (.d (.lst xs)))
 |some (.bx a ls)=>toDB a ls fun x=>post (.d x) (ρ.set i (.d x))
 |_=>False
def wVar(i:Nat):W L:=fun ρ post=>varW ρ[i]? i ρ post
theorem Dl(x:D)(i:Nat)(ρ:Ev)(post:L→Ev→Prop):varW (some (.d x)) i ρ post=post (.d x) ρ:=(rfl)
theorem yW(a:Addr)(xs:List D)(i:Nat)(ρ:Ev)(post:L→Ev→Prop):varW (some (.own a xs)) i ρ post=post (.d (.lst xs)) (ρ.set i (.d (.lst xs))):=(rfl)
theorem Bk(a:Option Addr)(ls:List L)(i:Nat)(ρ:Ev)(post:L→Ev→Prop):varW (some (.bx a ls)) i ρ post=toDB a ls fun x=>post (.d x) (ρ.set i (.d x)):=(rfl)
theorem REnv.slot{K:PySem.W.Frag}{Pr H:Hp}{σ:St}{ρ:Ev}{i:Nat}{l:L}(E:REnv K Pr H σ ρ)(h:ρ[i]?=some l):∃s,σ[i]?=some s∧aJ K H s l:=Paired.get2 E.sl h
theorem af(i:Nat){x:Str}{pos:Pos}(hN:X.N[i]?=some x:=by rfl)(hv:Vis X.env.scope x:=by first | exact Or.inl rfl | exact Or.inr (Or.inl rfl) | exact Or.inr (Or.inr rfl)) (hd:(x == ("__debug__" : Str))=false:=by decide)
  (hcd:(x == ("__classdict__" : Str))=false:=by decide):PL X (.Name x pos) (wVar i):=by
 intro pins s σ H Pr ρ post I E h
 unfold wVar varW at h
 cases q:ρ[i]? with
 |none=>rw[q]at h;exact h.elim
 | some l =>
  rw[q]at h
  obtain⟨sv,hs,sl⟩:=E.slot q
  cases l with
  |un=>exact h.elim
  |dic a kvs=>exact h.elim
  | d y =>
   obtain⟨v,rfl,r⟩:=sl
   exact thn (fO hN hv hd hcd pins s σ H (fun w H'=>w=v∧H'=H) I ⟨v,hs,rfl,rfl⟩) fun u s1 ⟨w,H1,I1,r1,e1,e2⟩=>by
    subst e1 e2
    exact⟨w,H1,_,ρ,I1,r1,E.cons_d r,h⟩
  | own a xs =>
   obtain⟨rfl,vs,ha,r⟩:=sl
   refine thn (fO hN hv hd hcd pins s σ H (fun w H'=>w=.ref a∧H'=H) I ⟨.ref a,hs,rfl,rfl⟩) fun u s1 ⟨w,H1,I1,r1,e1,e2⟩=>?_
   subst e1 e2
   obtain⟨o,I2⟩:=I1.freezeL ha
   have E2:=(E.out q).freeze ha o
   have hi:i<ρ.length:=(List.getElem?_eq_some_iff.mp q).1
   have E3:=E2.back (i:=i) (by simp[hi]) hs
   rw[List.set_set]at E3
   obtain⟨_,e,p⟩:=E2.head_d
   cases e
   exact⟨_,_,_,_,I2,r1,E3.cons_d p,h⟩
  | bx a ls =>
   obtain⟨y,ey,h⟩:=n8 h
   have hv':∃b,sv=some (.ref b):=by
    cases a with
    |none=>simp only[aJ]at sl;obtain⟨b,_,e,_⟩:=sl;exact⟨b,e⟩
    |some b=>simp only[aJ]at sl;exact⟨b,sl.1⟩
   obtain⟨b,rfl⟩:=hv'
   refine thn (fO hN hv hd hcd pins s σ H (fun w H'=>w=.ref b∧H'=H) I ⟨.ref b,hs,rfl,rfl⟩) fun u s1 ⟨w,H1,I1,r1,e1,e2⟩=>?_
   subst e1 e2
   obtain⟨H2,I2,E2,_⟩:=frzL (.bx a ls) I1 (E.outL q hs) ey
   have hi:i<ρ.length:=(List.getElem?_eq_some_iff.mp q).1
   have E3:=E2.back (i:=i) (by simp[hi]) hs
   rw[List.set_set]at E3
   obtain⟨_,e,p⟩:=E2.head_d
   cases e
   exact⟨_,_,_,_,I2,r1,E3.cons_d p,h⟩
def movW(o:Option L)(i:Nat)(ρ:Ev)(post:L→Ev→Prop):Prop:=match o with
 |some (.d x)=>post (.d x) ρ
 |some (.own a xs)=>post (.own a xs) (ρ.set i .un)
 |some (.bx a ls)=>post (.bx a ls) (ρ.set i .un)
 |_=>False
def jw(i:Nat):W L:=fun ρ post=>movW ρ[i]? i ρ post
theorem Dm(x:D)(i:Nat)(ρ:Ev)(post:L→Ev→Prop):movW (some (.d x)) i ρ post=post (.d x) ρ:=(rfl)
theorem yX(a:Addr)(xs:List D)(i:Nat)(ρ:Ev)(post:L→Ev→Prop):movW (some (.own a xs)) i ρ post=post (.own a xs) (ρ.set i .un):=(rfl)
theorem Bl(a:Option Addr)(ls:List L)(i:Nat)(ρ:Ev)(post:L→Ev→Prop):movW (some (.bx a ls)) i ρ post=post (.bx a ls) (ρ.set i .un):=(rfl)
theorem du(i:Nat){x:Str}{pos:Pos}(hN:X.N[i]?=some x:=by rfl)(hv:Vis X.env.scope x:=by first | exact Or.inl rfl | exact Or.inr (Or.inl rfl) | exact Or.inr (Or.inr rfl)) (hd:(x == ("__debug__" : Str))=false:=by decide)
  (hcd:(x == ("__classdict__" : Str))=false:=by decide):PL X (.Name x pos) (jw i):=by
 intro pins s σ H Pr ρ post I E h
 unfold jw movW at h
 cases q:ρ[i]? with
 |none=>rw[q]at h;exact h.elim
 | some l =>
  rw[q]at h
  obtain⟨sv,hs,sl⟩:=E.slot q
  cases l with
  |un=>exact h.elim
  |dic a kvs=>exact h.elim
  | d y =>
   obtain⟨v,rfl,r⟩:=sl
   exact thn (fO hN hv hd hcd pins s σ H (fun w H'=>w=v∧H'=H) I ⟨v,hs,rfl,rfl⟩) fun u s1 ⟨w,H1,I1,r1,e1,e2⟩=>by
    subst e1 e2
    exact⟨w,H1,_,ρ,I1,r1,E.cons_d r,h⟩
  | own a xs =>
   obtain⟨rfl,vs,ha,r⟩:=sl
   refine thn (fO hN hv hd hcd pins s σ H (fun w H'=>w=.ref a∧H'=H) I ⟨.ref a,hs,rfl,rfl⟩) fun u s1 ⟨w,H1,I1,r1,e1,e2⟩=>?_
   subst e1 e2
   exact⟨_,_,_,_,I1,r1,E.out q,h⟩
  | bx a ls =>
   have hv':∃b,sv=some (.ref b):=by
    cases a with
    |none=>simp only[aJ]at sl;obtain⟨b,_,e,_⟩:=sl;exact⟨b,e⟩
    |some b=>simp only[aJ]at sl;exact⟨b,sl.1⟩
   obtain⟨b,rfl⟩:=hv'
   refine thn (fO hN hv hd hcd pins s σ H (fun w H'=>w=.ref b∧H'=H) I ⟨.ref b,hs,rfl,rfl⟩) fun u s1 ⟨w,H1,I1,r1,e1,e2⟩=>?_
   subst e1 e2
   exact⟨_,_,_,_,I1,r1,E.outL q hs,h⟩
theorem Bm{x:Str}{v:V}{u:Value}{y:D}{pos:Pos}(hg:Gl X x)(hm:X.mg x=some u)(r:RelV v u)(hy:∀ H,Rep X.K H v y) (hd:(x == ("__debug__" : Str))=false:=by decide):PL X (.Name x pos) (wC y) :=
 PL.of (A2 hg hm r hd) fun σ H Pr ρ post E h=>⟨_,_,E.cons_d (hy H),h⟩
def isBl:L→(Bool→Prop)→Prop
 |.d (.bl b),k=>k b
 |_,_=>False
def bf(t:W L):W Bool:=fun ρ post=>t ρ fun r ρ1=>isBl r fun b=>post b ρ1
theorem n9{r:L}{k:Bool→Prop}(h:isBl r k):∃b,r=.d (.bl b)∧k b:=by
 cases r with
 | d x=>cases x with
  |bl b=>exact⟨b,rfl,h⟩
  |_=>exact h.elim
 |_=>exact h.elim
theorem eG{t:W L}(h:PL X e t)(he:∀whole,isTrue e X.env whole=(do let v ← whole;standAt e.pos;holding [v] (truthy v)):=by intro _;rfl):PB X e (bf t):=by
 intro pins s σ H Pr ρ post I E ht
 rw[he]
 refine wpAny_bind (thn (h pins s σ H Pr ρ _ I E ht) fun u s1 ⟨v,H1,r,ρ1,I1,rv,E1,p⟩=>wpAny_bind (wpAny_standAt (wpAny_holding ?_)))
 obtain⟨b,rfl,p⟩:=n9 p
 obtain⟨_,e1,p1⟩:=E1.head_d
 cases e1
 cases p1
 cases rv
 exact wpAny_truthy_bool ⟨H1,ρ1,I1,E1.tail,p⟩
end
section
variable{X:Cx}{e a b c:Expr}{rest:List Expr}{pos:Pos}{ta tb:W L}{tA tB:W Bool}
def PBw(X:Cx)(e:Expr)(t:W Bool):Prop :=
 ∀(whole:Sem Value)(pins:List (Addr×Obj))(s:Shared)(σ:St)(H Pr:Hp)(ρ:Ev)(post:Bool→Ev→Prop),Inv X pins σ H s→REnv X.K Pr H σ ρ→t ρ post→wpAny (model X.prog X.w) X.A (isTrue e X.env whole) (EB X pins σ Pr post) X.xe s
theorem PBw.pb{t:W Bool}(h:PBw X e t):PB X e t:=h _
def wAnd(t u:W Bool):W Bool:=fun ρ post=>t ρ fun c ρ1=>if c=true then u ρ1 post else post false ρ1
def wOr(t u:W Bool):W Bool:=fun ρ post=>t ρ fun c ρ1=>if c=true then post true ρ1 else u ρ1 post
def wNot(t:W Bool):W Bool:=fun ρ post=>t ρ fun c ρ1=>post (!c) ρ1
theorem tN(ha:PB X a tA):PBw X (.BoolOp .And [a] pos) tA:=by
 intro wh pins s σ H Pr ρ post I E h
 refine isTrue_and (thn (ha pins s σ H Pr ρ post I E h) fun c s1 e=>?_)
 cases c with
 |true=>exact isTrue_and_nil e
 |false=>exact e
theorem oa(ha:PB X a tA):PBw X (.BoolOp .Or [a] pos) tA:=by
 intro wh pins s σ H Pr ρ post I E h
 refine isTrue_or (thn (ha pins s σ H Pr ρ post I E h) fun c s1 e=>?_)
 cases c with
 |false=>exact isTrue_or_nil e
 |true=>exact e
theorem we(ha:PB X a tA)(hb:PBw X (.BoolOp .And (b::rest) pos) tB):PBw X (.BoolOp .And (a::b::rest) pos) (wAnd tA tB):=by
 intro wh pins s σ H Pr ρ post I E h
 refine isTrue_and (thn (ha pins s σ H Pr ρ _ I E h) fun c s1 ⟨H1,ρ1,I1,E1,q1⟩=>?_)
 cases c with
 |true=>exact hb wh pins s1 σ H1 Pr ρ1 post I1 E1 q1
 |false=>exact⟨H1,ρ1,I1,E1,q1⟩
theorem tO(ha:PB X a tA)(hb:PBw X (.BoolOp .Or (b::rest) pos) tB):PBw X (.BoolOp .Or (a::b::rest) pos) (wOr tA tB):=by
 intro wh pins s σ H Pr ρ post I E h
 refine isTrue_or (thn (ha pins s σ H Pr ρ _ I E h) fun c s1 ⟨H1,ρ1,I1,E1,q1⟩=>?_)
 cases c with
 |true=>exact⟨H1,ρ1,I1,E1,q1⟩
 |false=>exact hb wh pins s1 σ H1 Pr ρ1 post I1 E1 q1
theorem kX(ha:PB X a tA):PB X (.UnaryOp .Not a pos) (wNot tA):=by
 intro pins s σ H Pr ρ post I E h
 exact isTrue_not (ha pins s σ H Pr ρ (fun c ρ1=>post (!c) ρ1) I E h)
theorem pbc{op:CmpOp}{o:Op2}(ho:OpD X (compareOp op) o)(ha:PL X a ta)(hb:PL X b tb)(hm:behindInMarks op b=false):PB X (.Compare a [op] [b] pos) (bf (wBin o ta tb)):=by
 intro pins s σ H Pr ρ post I E h
 refine wpAny_isTrue_Compare1 (two (R:=fun dx dy ρ2=>o dx dy fun r=>isBl r fun b=>post b ρ2) ha hb I E h fun v u s2 x y H2 dx dy ρ2 I2 r1 r2 E2 p1 p2 q=>?_) hm
 refine thn (ho pins s2 σ H2 Pr ρ2 x y v u dx dy _ I2 r1 r2 E2.tail.tail p1 p2 q) fun w s3 ⟨z,H3,r,I3,rz,E3,p⟩=>?_
 obtain⟨b,rfl,p⟩:=n9 p
 obtain⟨_,e1,p1⟩:=E3.head_d
 cases e1
 cases p1
 cases rz
 exact wpAny_truthy_bool ⟨H3,ρ2,I3,E3.tail,p⟩
def kg(ta tb:W L):W L:=fun ρ post=>ta ρ fun r ρ1=>isBl r fun c=>if c=true then tb ρ1 post else post (.d (.bl false)) ρ1
def wOrV(ta tb:W L):W L:=fun ρ post=>ta ρ fun r ρ1=>isBl r fun c=>if c=true then post (.d (.bl true)) ρ1 else tb ρ1 post
def wg(t:W Bool):W L:=fun ρ post=>t ρ fun c ρ1=>post (.d (.bl (!c))) ρ1
theorem kY {op} {t:W L} (h:PL X a t):PL X (.BoolOp op [a] pos) t:=fun pins s σ H Pr ρ post I E hw=>BoolOp_one (h pins s σ H Pr ρ post I E hw)
theorem EL.bl{pins:List (Addr×Obj)}{σ:St}{Pr:Hp}{post:Bool→Ev→Prop}{u:Value}{s':Shared}(h:EL X pins σ Pr (fun r ρ=>isBl r fun b=>post b ρ) u s') :
  ∃H' b ρ',u=.bool b∧Inv X pins σ H' s'∧REnv X.K Pr H' σ ρ'∧post b ρ':=by
 obtain⟨v,H',r,ρ',I,rv,E,p⟩:=h
 obtain⟨b,rfl,p⟩:=n9 p
 obtain⟨_,e1,p1⟩:=E.head_d
 cases e1
 cases p1
 cases rv
 exact⟨H',b,ρ',rfl,I,E.tail,p⟩
theorem gf(ha:PL X a ta)(hb:PL X (.BoolOp .And (b::rest) pos) tb):PL X (.BoolOp .And (a::b::rest) pos) (kg ta tb):=by
 intro pins s σ H Pr ρ post I E h
 refine BoolOp_and (thn (ha pins s σ H Pr ρ _ I E h) fun v s1 q=>?_)
 obtain⟨H1,c,ρ1,rfl,I1,E1,q1⟩:=EL.bl (post:=fun c ρ1=>if c=true then tb ρ1 post else post (.d (.bl false)) ρ1) q
 refine wpAny_truthy_bool ?_
 cases c with
 |true=>exact hb pins s1 σ H1 Pr ρ1 post I1 E1 q1
 |false=>exact⟨.bl false,H1,_,ρ1,I1,rfl,E1.cons_d (.bl false),q1⟩
theorem EE(ha:PL X a ta)(hb:PL X (.BoolOp .Or (b::rest) pos) tb):PL X (.BoolOp .Or (a::b::rest) pos) (wOrV ta tb):=by
 intro pins s σ H Pr ρ post I E h
 refine BoolOp_or (thn (ha pins s σ H Pr ρ _ I E h) fun v s1 q=>?_)
 obtain⟨H1,c,ρ1,rfl,I1,E1,q1⟩:=EL.bl (post:=fun c ρ1=>if c=true then post (.d (.bl true)) ρ1 else tb ρ1 post) q
 refine wpAny_truthy_bool ?_
 cases c with
 |false=>exact hb pins s1 σ H1 Pr ρ1 post I1 E1 q1
 |true=>exact⟨.bl true,H1,_,ρ1,I1,rfl,E1.cons_d (.bl true),q1⟩
theorem wj(ha:PL X a ta):PL X (.UnaryOp .Not a pos) (wg (bf ta)):=by
 intro pins s σ H Pr ρ post I E h
 refine UnaryOp_ (thn (ha pins s σ H Pr ρ _ I E h) fun v s1 q=>?_)
 obtain⟨H1,c,ρ1,rfl,I1,E1,q1⟩:=EL.bl (post:=fun c ρ1=>post (.d (.bl (!c))) ρ1) q
 exact not_of (wpAny_truthy_bool ⟨.bl (!c),H1,_,ρ1,I1,rfl,E1.cons_d (.bl _),q1⟩)
def wIfE(t:W Bool)(ta tb:W L):W L:=fun ρ post=>t ρ fun c ρ1=>if c=true then ta ρ1 post else tb ρ1 post
theorem wk(hc:PB X c tA)(ha:PL X a ta)(hb:PL X b tb):PL X (.IfExp c a b pos) (wIfE tA ta tb):=by
 intro pins s σ H Pr ρ post I E h
 refine wpAny_IfExp (thn (hc pins s σ H Pr ρ _ I E h) fun d s1 ⟨H1,ρ1,I1,E1,q1⟩=>?_)
 cases d with
 |true=>exact ha pins s1 σ H1 Pr ρ1 post I1 E1 q1
 |false=>exact hb pins s1 σ H1 Pr ρ1 post I1 E1 q1
def wUn(op:D→(L→Prop)→Prop)(t:W L):W L:=fun ρ post=>t ρ fun x ρ1=>toD x fun dx=>op dx fun r=>post r ρ1
def yY:D→(L→Prop)→Prop
 |.int i,k=>k (.d (.int (-i)))
 |_,_=>False
theorem Dn(ha:PL X a ta):PL X (.UnaryOp .USub a pos) (wUn yY ta):=by
 intro pins s σ H Pr ρ post I E h
 refine UnaryOp_ (thn (ha pins s σ H Pr ρ _ I E h) fun v s1 q=>?_)
 obtain⟨x,H1,dx,ρ1,I1,r1,E1,q1⟩:=EL.frz (post:=fun dx ρ1=>yY dx fun r=>post r ρ1) q
 obtain⟨_,e1,p1⟩:=E1.head_d
 cases e1
 cases p1 with
 | int i =>
  exact thn (C6 pins s1 σ H1 _ v (fun w H'=>w=.int (-i)∧H'=H1) I1 r1 ⟨i,rfl,rfl,rfl⟩) fun u s2 ⟨w,H2,I2,r2,e1,e2⟩=>by
   subst e1 e2
   exact⟨_,_,_,ρ1,I2,r2,E1.tail.cons_d (.int _),q1⟩
 |_=>exact q1.elim
variable{st:Stmt}{sts:List Stmt}{t u:W Fl}
def cR:W Fl:=fun ρ post=>post .nx ρ
def wSeq(t u:W Fl):W Fl:=fun ρ post=>t ρ fun f ρ1=>match f with
 |.nx=>u ρ1 post
 |f=>post f ρ1
theorem a8:PMs X [] cR:=fun _ _ σ H Pr ρ post I E h=>wpAny_execs_nil ⟨σ,H,ρ,I,E,h⟩
theorem ai(h1:PM X st t)(h2:PMs X sts u):PMs X (st::sts) (wSeq t u):=by
 intro pins s σ H Pr ρ post I E h
 refine wpAny_execs_cons (thn (h1 pins s σ H Pr ρ _ I E h) fun f s1 q=>?_)
 cases f with
 | next =>
  obtain⟨σ',H',ρ',I',E',q⟩:=q
  exact h2 pins s1 σ' H' Pr ρ' post I' E' q
 |ret v=>exact q
 |brk=>exact q
 |cont=>exact q
theorem ao(h1:PM X st t):PMs X [st] t:=by
 intro pins s σ H Pr ρ post I E h
 refine wpAny_execs_cons (thn (h1 pins s σ H Pr ρ _ I E h) fun f s1 q=>?_)
 cases f with
 |next=>exact wpAny_execs_nil q
 |ret v=>exact q
 |brk=>exact q
 |cont=>exact q
def pX(t:W L):W Fl:=fun ρ post=>t ρ fun _ ρ1=>post .nx ρ1
theorem ki{te:W L}(he:PL X e te)(hs:swapsWith e none pos.line X.env=pure false:=by rfl):PM X (.Expr e pos) (pX te):=by
 intro pins s σ H Pr ρ post I E h
 exact wpAny_Expr_any (thn (he pins s σ H Pr ρ _ I E h) fun v s1 ⟨x,H1,r,ρ1,I1,r1,E1,q1⟩=>⟨σ,H1,ρ1,I1,E1.tail,q1⟩) I.quiet hs
def wRet(t:W L):W Fl:=fun ρ post=>t ρ fun r ρ1=>post (.rt r) ρ1
theorem aD{te:W L}(he:PL X e te):PM X (.Return (some e) pos) (wRet te):=by
 intro pins s σ H Pr ρ post I E h
 exact wpAny_Return_some (thn (he pins s σ H Pr ρ _ I E h) fun v s1 ⟨x,H1,r,ρ1,I1,r1,E1,q1⟩=>⟨x,σ,H1,r,ρ1,σ,I1,r1,E1,q1⟩)
def wIf(c:W Bool)(t u:W Fl):W Fl:=fun ρ post=>c ρ fun b ρ1=>if b=true then t ρ1 post else u ρ1 post
theorem de{sa sb:List Stmt}(hc:PB X c tA)(ha:PMs X sa t)(hb:PMs X sb u):PM X (.If c sa sb pos) (wIf tA t u):=by
 intro pins s σ H Pr ρ post I E h
 refine wpAny_If (thn (hc pins s σ H Pr ρ _ I E h) fun d s1 ⟨H1,ρ1,I1,E1,q1⟩=>?_)
 cases d with
 |true=>exact ha pins s1 σ H1 Pr ρ1 post I1 E1 q1
 |false=>exact hb pins s1 σ H1 Pr ρ1 post I1 E1 q1
theorem REnv.forget{K:PySem.W.Frag}{Pr H:Hp}{σ:St}{ρ:Ev}(E:REnv K Pr H σ ρ)(i:Nat)(v:Option V):REnv K Pr H (σ.set i v) (ρ.set i .un):=by
 have hsub:(owns (ρ.set i .un)).Sublist (owns ρ):=by
  have:∀(ρ:Ev)(i:Nat),(owns (ρ.set i .un)).Sublist (owns ρ):=by
   intro ρ
   induction ρ with
   |nil=>intro i;exact List.Sublist.refl _
   | cons l ρ ih =>
    intro i
    cases i with
    | zero =>
     show(owns ρ).Sublist (owns (l::ρ))
     rw[aA];exact List.sublist_append_right _ _
    | succ i =>
     show(owns (l::ρ.set i .un)).Sublist (owns (l::ρ))
     rw[aA,aA]
     exact(List.Sublist.refl _).append (ih i)
  exact this ρ i
 exact⟨E.sub,E.nd.sublist hsub,fun a h=>E.off a (hsub.subset h),Paired.set2 True.intro i E.sl⟩
theorem REnv.store{K:PySem.W.Frag}{Pr H:Hp}{σ:St}{ρ:Ev}{v:Option V}{l:L}(E:REnv K Pr H (v::σ) (l::ρ)){i:Nat}(hi:i<σ.length):REnv K Pr H (σ.set i v) (ρ.set i l):=by
 have E1:=E.forget (i+1) v
 have E2:REnv K Pr H (v::σ.set i v) (l::ρ.set i .un):=E1
 have hl:=E.tail.len
 have E3:=E2.back (i:=i) (by rw[List.getElem?_set_self (by omega)]) (by rw[List.getElem?_set_self hi])
 rw[List.set_set]at E3
 exact E3
def wSet(i:Nat)(t:W L):W Fl:=fun ρ post=>t ρ fun r ρ1=>post .nx (ρ1.set i r)
theorem ax{i:Nat}{x:Str}{te:W L}{pos':Pos}(hN:X.N.Nodup)(hi:X.N[i]?=some x)(hx:Loc X.env.scope x)(he:PL X e te)(hs:swapsWith e (some (.Name x pos')) pos.line X.env=pure false:=by rfl)(hf:X.fn x=true∨X.env.scope.names.lookup x=some .local:=by first|exact .inl rfl|exact .inr rfl|assumption) :
  PM X (.Assign [.Name x pos'] e pos) (wSet i te):=by
 intro pins s σ H Pr ρ post I E h
 refine wpAny_Assign_Name (thn (he pins s σ H Pr ρ _ I E h) fun v s1 ⟨y,H1,r,ρ1,I1,r1,E1,q1⟩=>?_) hs
 exact jt I1 hN hi hx r1 (fun s2 I2=>⟨_,H1,_,I2,E1.store (by rw[I1.len];exact(List.getElem?_eq_some_iff.mp hi).1),q1⟩) hf
end
theorem jx{a b:Ev}(h:a.Perm b):(owns a).Perm (owns b):=by
 induction h with
 |nil=>exact .refl _
 |cons x _ ih=>rw[aA,aA];exact ih.append_left _
 | swap x y l =>
  rw[aA,aA,aA,aA,← List.append_assoc,← List.append_assoc]
  exact List.Perm.append_right _ List.perm_append_comm
 |trans _ _ h1 h2=>exact h1.trans h2
theorem yZ{a b:Ev}(h:a.Sublist b):(owns a).Sublist (owns b):=by
 induction h with
 |slnil=>exact .refl _
 |cons x _ ih=>rw[aA];exact ih.trans (List.sublist_append_right _ _)
 |cons_cons x _ ih=>rw[aA,aA];exact(List.Sublist.refl _).append ih
def tL(K:PySem.W.Frag)(t:W L):TE:=fun σ H Q=>∃Pr ρ post,REnv K Pr H σ ρ∧t ρ post∧∀v H' r ρ',REnv K Pr H' (some v::σ) (r::ρ')→post r ρ'→Q v H'
def tW(K:PySem.W.Frag)(t:W Fl):TS:=fun D σ H=>∃Pr ρ post,REnv K Pr H σ ρ∧t ρ post∧(∀σ' H' ρ',REnv K Pr H' σ' ρ'→post .nx ρ'→D.nx σ' H')∧(∀σ' H' ρ',REnv K Pr H' σ' ρ'→post .bk ρ'→D.bk σ' H')∧(∀σ' H' ρ',REnv K Pr H' σ' ρ'→post .ct ρ'→D.ct σ' H') ∧
 ∀v τ H' r ρ',REnv K Pr H' (some v::τ) (r::ρ')→post (.rt r) ρ'→D.rt v H'
def tWb(K:PySem.W.Frag)(t:W Bool):TT:=fun σ H Q=>∃Pr ρ post,REnv K Pr H σ ρ∧t ρ post∧∀b H' ρ',REnv K Pr H' σ ρ'→post b ρ'→Q b H'
section
variable{X:Cx}{e a b:Expr}{es:List Expr}{pos:Pos}{st:Stmt}{sts:List Stmt}{t u:W Fl}
theorem PL.pe{t:W L}(h:PL X e t):PE X e (tL X.K t):=fun pins s σ H Q I ⟨Pr,ρ,post,E,ht,q⟩ =>
 thn (h pins s σ H Pr ρ post I E ht) fun u s1 ⟨v,H1,r,ρ1,I1,rv,E1,p⟩=>⟨v,H1,I1,rv,q v H1 r ρ1 E1 p⟩
theorem PB.pt{t:W Bool}(h:PB X e t):PT X e (tWb X.K t):=fun pins s σ H Q I ⟨Pr,ρ,post,E,ht,q⟩ =>
 thn (h pins s σ H Pr ρ post I E ht) fun b s1 ⟨H1,ρ1,I1,E1,p⟩=>⟨H1,I1,q b H1 ρ1 E1 p⟩
theorem PMs.pss(h:PMs X sts t):PSs X sts (tW X.K t):=fun pins s σ H D I ⟨Pr,ρ,post,E,ht,q1,q2,q3,q4⟩ =>
 thn (h pins s σ H Pr ρ post I E ht) fun f s1 q=>by
  cases f with
  |next=>obtain⟨σ',H',ρ',I',E',p⟩:=q;exact⟨σ',H',I',q1 σ' H' ρ' E' p⟩
  |brk=>obtain⟨σ',H',ρ',I',E',p⟩:=q;exact⟨σ',H',I',q2 σ' H' ρ' E' p⟩
  |cont=>obtain⟨σ',H',ρ',I',E',p⟩:=q;exact⟨σ',H',I',q3 σ' H' ρ' E' p⟩
  |ret u=>obtain⟨v,σ',H',r,ρ',τ,I',rv,E',p⟩:=q;exact⟨v,σ',H',I',rv,q4 v τ H' r ρ' E' p⟩
def Do(K:PySem.W.Frag)(Pr:Hp)(post:Fl→Ev→Prop):Ends where
 nx:=fun σ' H'=>∃ρ',REnv K Pr H' σ' ρ'∧post .nx ρ'
 rt:=fun v H'=>∃τ r ρ',REnv K Pr H' (some v::τ) (r::ρ')∧post (.rt r) ρ'
 bk:=fun σ' H'=>∃ρ',REnv K Pr H' σ' ρ'∧post .bk ρ'
 ct:=fun σ' H'=>∃ρ',REnv K Pr H' σ' ρ'∧post .ct ρ'
theorem PM.of{ts:TS}(h:PS X st ts)(q:∀σ H Pr ρ post,σ.length=X.N.length→REnv X.K Pr H σ ρ→t ρ post→ts (Do X.K Pr post) σ H):PM X st t:=fun pins s σ H Pr ρ post I E ht =>
 thn (h pins s σ H _ I (q σ H Pr ρ post I.len E ht)) fun f s1 q=>by
  cases f with
  |next=>obtain⟨σ',H',I',ρ',E',p⟩:=q;exact⟨σ',H',ρ',I',E',p⟩
  |brk=>obtain⟨σ',H',I',ρ',E',p⟩:=q;exact⟨σ',H',ρ',I',E',p⟩
  |cont=>obtain⟨σ',H',I',ρ',E',p⟩:=q;exact⟨σ',H',ρ',I',E',p⟩
  |ret u=>obtain⟨v,σ',H',I',rv,τ,r,ρ',E',p⟩:=q;exact⟨v,σ',H',r,ρ',τ,I',rv,E',p⟩
theorem REnv.narrow{K:PySem.W.Frag}{Pr H1 H:Hp}{σ1 σ:St}{ρ1 ρ:Ev}(E1:REnv K Pr H1 σ1 ρ1)(E:REnv K (aS H1 ρ1) H σ ρ):REnv K Pr H σ ρ:=by
 refine⟨fun b o e=>E.sub b o ?_,E.nd,fun a ha=>?_,E.sl⟩
 ·
  unfold aS
  rw[if_neg,E1.sub b o e]
  intro hm
  have z:=E1.off b hm
  rw[e]at z
  cases z
 ·
  have z:=E.off a ha
  unfold aS at z
  by_cases hm:a∈owns ρ1
  ·
   exact E1.off a hm
  ·
   rw[if_neg hm]at z
   cases q:Pr a with
   |none=>rfl
   |some o=>rw[E1.sub a o q]at z;cases z
def aNil:W (List L):=fun ρ post=>post [] ρ
def aVal(t:W L)(r:W (List L)):W (List L):=fun ρ post=>t ρ fun x ρ1=>r ρ1 fun xs ρ2=>post (x::xs) ρ2
def aVar(i:Nat)(r:W (List L)):W (List L):=fun ρ post=>match ρ[i]? with
 |some (.own _ _)=>r ρ fun xs ρ2=>post (.un::xs) ρ2
 |_=>False
theorem ag:PAL X [] [] aNil:=fun _ pins s σ H Pr ρ post I E h=>Calls.spliced_nil ⟨[],H,[],ρ,I,.nil,rfl,rfl,E,fun k i e=>by simp at e,h⟩
theorem ae{bs:List (Option Nat)}{r:W (List L)}{t:W L}(ha:PL X e t)(hr:PAL X es bs r)(hs:starEach (e::es) X.env=(false,eval e X.env)::starEach es X.env:=by rfl):PAL X (e::es) (none::bs) (aVal t r):=by
 intro pos pins s σ H Pr ρ post I E h
 rw[hs]
 show wpAny _ _ (spliced ((false,eval e X.env)::backTo pos (starEach es X.env))) _ _ s
 refine Calls.spliced_cons (thn (ha pins s σ H Pr ρ _ I E h) fun u s1 ⟨x,H1,l,ρ1,I1,r1,E1,q1⟩=>?_)
 refine thn (hr pos pins s1 σ H1 _ ρ1 _ I1 E1.tail.wide q1) fun us s2 ⟨vs,H2,ls,ρ2,I2,r2,hl,hb,E2,hv,q2⟩=>?_
 have E3:REnv X.K Pr H2 (vs.map some++(some x::σ)) (ls++(l::ρ2)):=REnv.step (τ:=[some x]) (lam:=[l]) E1 rfl E2 (by simp[hl])
 have E4:REnv X.K Pr H2 (some x::(vs.map some++σ)) (l::(ls++ρ2)):=by
  have pm:(owns (ls++(l::ρ2))).Perm (owns (l::(ls++ρ2))):=jx List.perm_middle
  have s1:=Paired.unapp (by simp[hl]) E3.sl
  obtain⟨s1,s2⟩:=s1
  cases s2 with
  |cons q t=>exact⟨E3.sub,pm.nodup_iff.mp E3.nd,fun a h=>E3.off a (pm.mem_iff.mpr h),.cons q (Paired.app s1 t)⟩
 refine⟨x::vs,H2,l::ls,ρ2,I2,.cons r1 r2,by simp[hl],by simp[hb],E4,fun k i e=>?_,q2⟩
 cases k with
 |zero=>simp at e
 |succ k=>simpa using hv k i (by simpa using e)
theorem aN(i:Nat){x:Str}{p:Pos}{bs:List (Option Nat)}{r:W (List L)}(hr:PAL X es bs r)(hN:X.N[i]?=some x:=by rfl)(hv:Vis X.env.scope x:=by first | exact Or.inl rfl | exact Or.inr (Or.inl rfl) | exact Or.inr (Or.inr rfl)) (hd:(x == ("__debug__" : Str))=false:=by decide)
  (hcd:(x == ("__classdict__" : Str))=false:=by decide) (hs:starEach (.Name x p::es) X.env=(false,eval (.Name x p) X.env)::starEach es X.env:=by rfl):PAL X (.Name x p::es) (some i::bs) (aVar i r):=by
 intro pos pins s σ H Pr ρ post I E h
 unfold aVar at h
 cases q:ρ[i]? with
 |none=>rw[q]at h;exact h.elim
 | some l =>
  rw[q]at h
  cases l with
  |un=>exact h.elim
  |d y=>exact h.elim
  |bx _ _=>exact h.elim
  |dic _ _=>exact h.elim
  | own a xs =>
   obtain⟨sv,hsl,sl⟩:=E.slot q
   obtain⟨rfl,_⟩:=sl
   rw[hs]
   show wpAny _ _ (spliced ((false,eval (.Name x p) X.env)::backTo pos (starEach es X.env))) _ _ s
   refine Calls.spliced_cons (thn (fO hN hv hd hcd pins s σ H (fun w H'=>w=.ref a∧H'=H) I ⟨.ref a,hsl,rfl,rfl⟩) fun u s1 ⟨w,H1,I1,r1,e1,e2⟩=>?_)
   subst e1 e2
   refine thn (hr pos pins s1 σ H1 Pr ρ _ I1 E h) fun us s2 ⟨vs,H2,ls,ρ2,I2,r2,hl,hb,E2,hv,q2⟩=>?_
   refine⟨.ref a::vs,H2,.un::ls,ρ2,I2,.cons r1 r2,by simp[hl],by simp[hb],E2.cons_un,fun k j e=>?_,q2⟩
   cases k with
   |zero=>simp at e;subst e;exact⟨rfl,.ref a,rfl,hsl⟩
   |succ k=>simpa using hv k j (by simpa using e)
def toDs:List L→(List D→Prop)→Prop
 |[],k=>k []
 |.d x::r,k=>toDs r fun xs=>k (x::xs)
 |_::_,_=>False
theorem gh:∀{ls:List L}{k:List D→Prop},toDs ls k→∃xs,ls=xs.map .d∧k xs
 |[],_,h=>⟨[],rfl,h⟩
 | .d x::r,k,h=>by
  obtain⟨xs,e,q⟩:=gh (ls:=r) h
  exact⟨x::xs,by rw[e];rfl,q⟩
 |.un::_,_,h=>h.elim
 |.own _ _::_,_,h=>h.elim
theorem gi{K:PySem.W.Frag}{Pr H:Hp}{σ:St}{ρ:Ev}:∀{vs:List V}{xs:List D},vs.length=xs.length→REnv K Pr H (vs.map some++σ) (xs.map .d++ρ)→Reps K H vs xs
 |[],[],_,_=>.nil
 | v::vs,x::xs,hl,E=>by
  obtain⟨w,e,r⟩:=REnv.head_d (v:=some v) (x:=x) E
  cases e
  exact .cons r (gi (by simpa using hl) (REnv.tail (v:=some v) (l:=.d x) E))
 |[],_::_,hl,_=>by simp at hl
 |_::_,[],hl,_=>by simp at hl
def wTup(t:W (List L)):W L:=fun ρ post=>t ρ fun ls ρ1=>toDs ls fun xs=>xs.length≤sizeLine∧post (.d (.tup xs)) ρ1
def wLst(t:W (List L)):W L:=fun ρ post=>t ρ fun ls ρ1=>toDs ls fun xs=>xs.length≤sizeLine∧∀a,post (.own a xs) ρ1
theorem bP {x1} {bs:List (Option Nat)} {t:W (List L)} (h:PAL X es bs t):PL X (.Tuple es x1 pos) (wTup t):=by
 intro pins s σ H Pr ρ post I E hq
 refine wpAny_Tuple_spliced (thn (h pos pins s σ H Pr ρ _ I E hq) fun us s1 ⟨vs,H1,ls,ρ1,I1,r,hl,hb,E1,hv,q⟩=>?_)
 obtain⟨xs,rfl,z,q⟩:=gh q
 have hlen:vs.length=xs.length:=by simpa using hl
 refine⟨by rw[← r.length,hlen];exact z,?_⟩
 have hf:H1 s1.heap.objs.size=none:=I1.hok.fresh (Nat.le_refl _)
 refine⟨.ref s1.heap.objs.size,upd H1 s1.heap.objs.size (.tup vs),_,ρ1,I1.laid (t':=s1.toks) (fun b u e=>Heap.get?_push_of_some _ e) (Nat.le_refl _) ?_,rfl,(E1.drop (by simp[hlen])).cons_tup hf (gi hlen E1),q⟩
 exact⟨by rw[hlen];exact z,us,r,⟨_,Heap.get?_push_size _ rfl,rfl,_,rfl⟩⟩
theorem ck{bs:List (Option Nat)}{t:W (List L)}(h:PAL X es bs t):PL X (.List es pos) (wLst t):=by
 intro pins s σ H Pr ρ post I E hq
 refine wpAny_List_spliced (thn (h pos pins s σ H Pr ρ _ I E hq) fun us s1 ⟨vs,H1,ls,ρ1,I1,r,hl,hb,E1,hv,q⟩=>?_)
 obtain⟨xs,rfl,z,q⟩:=gh q
 have hlen:vs.length=xs.length:=by simpa using hl
 refine⟨by rw[← r.length,hlen];exact z,?_⟩
 have hf:H1 s1.heap.objs.size=none:=I1.hok.fresh (Nat.le_refl _)
 refine⟨.ref s1.heap.objs.size,upd H1 s1.heap.objs.size (.lst vs),_,ρ1,I1.laid (t':=s1.toks) (fun b u e=>Heap.get?_push_of_some _ e) (Nat.le_refl _) ?_,rfl,(E1.drop (by simp[hlen])).cons_own hf (gi hlen E1),q _⟩
 exact⟨by rw[hlen];exact z,us,0,r,Heap.get?_push_size _ rfl⟩
abbrev FS:=List L→(L→List L→Prop)→Prop
def spF(K:PySem.W.Frag)(n:Nat)(fs:FS):Sp:=fun vs H Q _=>vs.length=n∧∃Pr ls post,REnv K Pr H (vs.map some) ls∧fs ls post∧∀v H' r ls',REnv K Pr H' (some v::vs.map some) (r::ls')→post r ls'→Q v H'
theorem REnv.swap{K:PySem.W.Frag}{Pr H:Hp}{σ τ:St}{ρ lam:Ev}(hl:τ.length=lam.length)(E:REnv K Pr H (τ++σ) (lam++ρ)):REnv K Pr H (σ++τ) (ρ++lam):=by
 have pm:(owns (lam++ρ)).Perm (owns (ρ++lam)):=jx List.perm_append_comm
 obtain⟨s1,s2⟩:=Paired.unapp hl E.sl
 exact⟨E.sub,pm.nodup_iff.mp E.nd,fun a h=>E.off a (pm.mem_iff.mpr h),Paired.app s2 s1⟩
theorem AG{K:PySem.W.Frag}{Pr H H':Hp}{σ τ:St}{ρ ls ls':Ev}{v:Option V}{r:L}(hl:τ.length=ls.length)(E:REnv K Pr H (τ++σ) (ls++ρ))(E':REnv K (aS H ls) H' (v::τ) (r::ls')):REnv K Pr H' (v::(τ++σ)) (r::(ls'++ρ)):=by
 have hρ:σ.length=ρ.length:=(E.drop hl).len
 have z:=REnv.step (τ:=σ) (σ:=τ) (lam:=ρ) (ρ:=ls) (w:=[v]) (μ:=[r]) (E.swap hl) hρ E' rfl
 have hl':τ.length=ls'.length:=by have:=E'.len;simpa using this
 obtain⟨s1,s2⟩:=Paired.unapp (a:=[v]) (b:=[r]) rfl z.sl
 obtain⟨s2,s3⟩:=Paired.unapp hρ s2
 have pm:(owns ([r]++(ρ++ls'))).Perm (owns (r::(ls'++ρ))):=jx (List.Perm.cons r (List.perm_append_comm (l₁:=ρ) (l₂:=ls')))
 exact⟨z.sub,pm.nodup_iff.mp z.nd,fun a h=>z.off a (pm.mem_iff.mpr h),Paired.app s1 (Paired.app s3 s2)⟩
def aF(fs:FS)(t:W (List L)):W L:=fun ρ post=>t ρ fun ls ρ1=>fs ls fun r _=>post r ρ1
def ba(fs:FS)(k i:Nat)(t:W (List L)):W L:=fun ρ post=>t ρ fun ls ρ1=>match ρ1[i]? with
 |some (.own a xs)=>fs (ls.set k (.own a xs)) fun r ls'=>∃ys,ls'[k]?=some (.own a ys)∧post r (ρ1.set i (.own a ys))
 |_=>False
section
variable{CX:CXT}{k n:Nat}{f:Addr}{fd:FuncData}{ps:List Str}{fs:FS}{E:XK}{x:Str}{p:Pos}{bs:List (Option Nat)}{t:W (List L)}
theorem REnv.drop1{K:PySem.W.Frag}{Pr H:Hp}{σ τ:St}{ρ lam:Ev}{v:Option V}{r:L}(hl:τ.length=lam.length)(E:REnv K Pr H (v::(τ++σ)) (r::(lam++ρ))):REnv K Pr H (v::σ) (r::ρ):=by
 obtain⟨s1,s2⟩:=Paired.unapp (a:=[v]) (b:=[r]) rfl E.sl
 obtain⟨s2,s3⟩:=Paired.unapp hl s2
 have sb:(owns (r::ρ)).Sublist (owns (r::(lam++ρ))):=yZ (List.Sublist.cons_cons r (List.sublist_append_right _ _))
 exact⟨E.sub,E.nd.sublist sb,fun a h=>E.off a (sb.subset h),Paired.app s1 s3⟩
theorem Bn(F:FnOk X.prog X.w X.K X.mg X.base CX k f fd ps (spF X.K n fs))(hr:Room k X.A)(hg:Gl X x)(hm:X.mg x=some (.ref f))(hk:PySem.W.keepIn X.K (.ref f)=true)(hb:kf X.K fd ps [])(hx:tI CX X E)
  (ha:PAL X (e::es) bs t) (hn:bs.length=n) (hdb:(x == ("__debug__" : Str))=false:=by decide) (he:starEach (e::es) X.env=(false,eval e X.env)::starEach es X.env:=by rfl) (hpl:(backTo pos (starEach es X.env)).any (·.1)=false:=by rfl) :
  PL X (.Call (.Name x p) (e::es) [] pos) (aF fs t):=by
 intro pins s σ H Pr ρ post I E0 h
 refine wpAny_Call_Name_kw (fV I hg hm ?_ hdb)
 refine PySem.W.callWith_K (h₀:=X.base) I.ok.mod.kin hk (thn (ha pos pins s σ H Pr ρ _ I E0 h) fun us s1 ⟨vs,H1,ls,ρ1,I1,r,hl,hbl,E1,hv,q⟩=>⟨I1.kIn,?_⟩) he hpl
 have hl':(vs.map some).length=ls.length:=by simp[hl]
 refine thn (vU (Q:=fun v H'=>∃r ρ',REnv X.K Pr H' (some v::σ) (r::ρ')∧post r ρ') F hr hb .nil hx I1 r ?_) fun u s2 ⟨v,H2,I2,rv,r,ρ',E2,p⟩=>⟨v,H2,r,ρ',I2,rv,E2,p⟩
 rw[List.append_nil]
 refine⟨hbl.trans hn,aS H1 ls,ls,_,(E1.left hl').wide,q,fun v H' r ls' E2 p=>⟨r,ρ1,?_,p⟩⟩
 have z:=AG hl' E1 E2
 have hl2:(vs.map some).length=ls'.length:=by have:=E2.len;simpa using this
 exact z.drop1 hl2
theorem y1(F:FnOk X.prog X.w X.K X.mg X.base CX k f fd ps (spF X.K n fs))(hr:Room k X.A)(hg:Gl X x)(hm:X.mg x=some (.ref f))(hk:PySem.W.keepIn X.K (.ref f)=true)(hb:kf X.K fd ps [])(hx:tI CX X E)
  (j i:Nat) (ha:PAL X (e::es) bs t) (hj:bs[j]?=some (some i)) (hn:bs.length=n) (hdb:(x == ("__debug__" : Str))=false:=by decide) (he:starEach (e::es) X.env=(false,eval e X.env)::starEach es X.env:=by rfl) (hpl:(backTo pos (starEach es X.env)).any (·.1)=false:=by rfl) :
  PL X (.Call (.Name x p) (e::es) [] pos) (ba fs j i t):=by
 intro pins s σ H Pr ρ post I E0 h
 refine wpAny_Call_Name_kw (fV I hg hm ?_ hdb)
 refine PySem.W.callWith_K (h₀:=X.base) I.ok.mod.kin hk (thn (ha pos pins s σ H Pr ρ _ I E0 h) fun us s1 ⟨vs,H1,ls,ρ1,I1,r,hl,hbl,E1,hv,q⟩=>⟨I1.kIn,?_⟩) he hpl
 have hl':(vs.map some).length=ls.length:=by simp[hl]
 refine thn (vU (Q:=fun v H'=>∃r ρ',REnv X.K Pr H' (some v::σ) (r::ρ')∧post r ρ') F hr hb .nil hx I1 r ?_) fun u s2 ⟨v,H2,I2,rv,r,ρ',E2,p⟩=>⟨v,H2,r,ρ',I2,rv,E2,p⟩
 rw[List.append_nil]
 dsimp only at q
 cases qi:ρ1[i]? with
 |none=>rw[qi]at q;exact q.elim
 | some l =>
  rw[qi]at q
  cases l with
  |un=>exact q.elim
  |d y=>exact q.elim
  |bx _ _=>exact q.elim
  |dic _ _=>exact q.elim
  | own a xs =>
   obtain⟨hun,w,hw,hσ⟩:=hv j i hj
   obtain⟨sv,hs2,rfl,_⟩:=(E1.drop hl').slot qi
   rw[hσ]at hs2
   cases hs2
   have hjl:j<ls.length:=(List.getElem?_eq_some_iff.mp hun).1
   have hjv:j<vs.length:=by omega
   have hil:i<ρ1.length:=(List.getElem?_eq_some_iff.mp qi).1
   have E2:=E1.out (i:=ls.length+i) (a:=a) (xs:=xs) (by rw[List.getElem?_append_right (by omega)];simpa using qi)
   rw[List.set_append_right _ _ (by omega),Nat.add_sub_cancel_left]at E2
   have E3:=E2.back (i:=j) (by rw[List.getElem?_append_left hjl];exact hun) (by rw[List.getElem?_append_left (by simp;omega)];simp[hw])
   rw[List.set_append_left _ _ hjl]at E3
   have hl3:(vs.map some).length=(ls.set j (.own a xs)).length:=by simp[hl]
   refine⟨hbl.trans hn,aS H1 (ls.set j (.own a xs)),_,_,(E3.left hl3).wide,q,fun v H' r ls' E4 p=>?_⟩
   obtain⟨ys,hys,p⟩:=p
   refine⟨r,ρ1.set i (.own a ys),?_,p⟩
   have z:=AG hl3 E3 E4
   have hl4:(vs.map some).length=ls'.length:=by have:=E4.len;simpa using this
   have hjl':j<ls'.length:=by simp at hl4;omega
   have z1:=z.out (i:=1+j) (a:=a) (xs:=ys) (by rw[Nat.add_comm];simp only[List.getElem?_cons_succ];rw[List.getElem?_append_left hjl'];exact hys)
   rw[Nat.add_comm 1 j,List.set_cons_succ,List.set_append_left _ _ hjl']at z1
   have z2:=z1.back (i:=(1+ls'.length)+i) (by
    rw[Nat.add_comm 1,Nat.add_right_comm,List.getElem?_cons_succ,List.getElem?_append_right (by simp)]
    simp[hil]) (by
    rw[Nat.add_comm 1,Nat.add_right_comm,List.getElem?_cons_succ,List.getElem?_append_right (by simp at hl4 ⊢;omega)]
    simp at hl4 ⊢
    rw[← hl4,Nat.add_sub_cancel_left]
    exact hσ)
   rw[Nat.add_comm 1,Nat.add_right_comm,List.set_cons_succ,List.set_append_right _ _ (by simp)]at z2
   simp only[List.length_set,Nat.add_sub_cancel_left,List.set_set]at z2
   exact z2.drop1 (by simp at hl4 ⊢;exact hl4)
end
end
def Back(ρ:Ev):List L→List L→Prop:=Paired fun l l'=>match l with
 |.own a _=>(∃ys,l'=.own a ys∧L.own a ys∈ρ)∨l'=.un
 |.bx _ _=>l'=.un
 |.dic _ _=>l'=.un
 |l=>l'=l
def aV(ls:List L)(post:L→List L→Prop):Fl→Ev→Prop:=fun f ρ=>match f with
 |.rt r=>∃ls',Back ρ ls ls'∧post r ls'
 |.nx=>∃ls',Back ρ ls ls'∧post (.d .non) ls'
 |_=>False
theorem Back.owns{ρ:Ev}:∀{ls ls':List L},Back ρ ls ls'→(owns ls').Sublist (owns ls)
 |_,_,.nil=>.refl _
 | l::ls,l'::ls',.cons h t=>by
  have ih:=Back.owns t
  rw[aA,aA]
  cases l with
  | own a xs =>
   rcases h with⟨ys,rfl,_⟩|rfl
   ·
    exact(List.Sublist.refl _).append ih
   ·
    exact ih.trans (List.sublist_append_right _ _)
  |un=>have e:l'=.un:=h;subst e;exact(List.Sublist.refl _).append ih
  |d x=>have e:l'=.d x:=h;subst e;exact(List.Sublist.refl _).append ih
  |bx k ms=>have e:l'=.un:=h;subst e;exact ih.trans (List.sublist_append_right _ _)
  |dic k ms=>have e:l'=.un:=h;subst e;exact ih.trans (List.sublist_append_right _ _)
theorem Back.sub{ρ:Ev}:∀{ls ls':List L},Back ρ ls ls'→∀a∈L2.owns ls',a∈L2.owns ρ
 |_,_,.nil=>fun a ha=>by simp[L2.owns]at ha
 | l::ls,l'::ls',.cons h t=>fun a ha=>by
  have ih:=Back.sub t
  rw[aA]at ha
  rcases List.mem_append.mp ha with z|z
  ·
   cases l with
   | own b xs =>
    rcases h with⟨ys,rfl,hm⟩|rfl
    ·
     have e:a=b:=by simpa[aE]using z
     subst e
     exact Bf hm
    ·
     simp[aE]at z
   |un=>have e:l'=.un:=h;subst e;simp[aE]at z
   |d x=>have e:l'=.d x:=h;subst e;simp[aE]at z
   |bx k ms=>have e:l'=.un:=h;subst e;simp[aE]at z
   |dic k ms=>have e:l'=.un:=h;subst e;simp[aE]at z
  ·
   exact ih a z
theorem tP{K:PySem.W.Frag}{Pr H H':Hp}{σ τ:St}{ls ls' ρ:Ev}{v:Option V}{r:L}(E:REnv K Pr H σ ls)(E':REnv K (aS H ls) H' (v::τ) (r::ρ))(B:Back ρ ls ls'):REnv K Pr H' (v::σ) (r::ls'):=by
 have E1:=E.narrow E'
 have p:Pres H H':=n6 E E'.sub
 have sub:=B.sub
 have nd1:(owns ls').Nodup:=E.nd.sublist B.owns
 refine⟨E1.sub,?_,fun a ha=>?_,?_⟩
 ·
  have nd:=E'.nd
  rw[aA]at nd ⊢
  obtain⟨n1,n2,n3⟩:=List.nodup_append.mp nd
  exact List.nodup_append.mpr ⟨n1,nd1,fun a ha b hb=>n3 a ha b (sub b hb)⟩
 ·
  rw[aA]at ha
  refine E1.off a ?_
  rw[aA]
  rcases List.mem_append.mp ha with z|z
  ·
   exact List.mem_append_left _ z
  ·
   exact List.mem_append_right _ (sub a z)
 ·
  have s1:=E'.sl
  cases s1 with
  | cons q t =>
   refine .cons q ?_
   have sl:=E.sl
   clear E E' E1 nd1 sub
   induction B generalizing σ with
   |nil=>cases sl;exact .nil
   | cons h u ih =>
    rename_i l l' _ _
    cases sl with
    | cons s0 s2 =>
     refine .cons ?_ (ih s2)
     cases l with
     | own a xs =>
      rcases h with⟨ys,rfl,hm⟩|rfl
      ·
       obtain⟨e,_⟩:=s0
       obtain⟨_,_,_,z⟩:=Paired.mem2 t hm
       exact⟨e,z⟩
      ·
       unfold aJ;exact True.intro
     |un=>have e:l'=.un:=h;subst e;unfold aJ;exact True.intro
     |bx k ms=>have e:l'=.un:=h;subst e;unfold aJ;exact True.intro
     |dic k ms=>have e:l'=.un:=h;subst e;unfold aJ;exact True.intro
     | d x =>
      have e:l'=.d x:=h
      subst e
      obtain⟨w,e,r⟩:=s0
      exact⟨w,e,r.pres p⟩
section
variable{P:Program}{w:World}{K:PySem.W.Frag}{mg:Str→Option Value}{base:Heap}
theorem REnv.uns{K:PySem.W.Frag}{Pr H:Hp}{σ:St}{ρ:Ev}(E:REnv K Pr H σ ρ):∀n,REnv K Pr H (σ++List.replicate n none) (ρ++List.replicate n .un):=fun n=>by
 have e:owns (ρ++List.replicate n .un)=owns ρ:=by
  rw[ar]
  have:owns (List.replicate n L.un)=[]:=by
   induction n with
   |zero=>rfl
   |succ n ih=>rw[List.replicate_succ,kU];exact ih
  rw[this,List.append_nil]
 refine⟨E.sub,by rw[e];exact E.nd,fun a h=>E.off a (by rw[e]at h;exact h),Paired.app E.sl ?_⟩
 induction n with
 |zero=>exact .nil
 | succ n ih =>
  rw[List.replicate_succ,List.replicate_succ]
  refine .cons True.intro (ih ?_)
  have:owns (List.replicate n L.un)=[]:=by
   clear ih e
   induction n with
   |zero=>rfl
   |succ n ih=>rw[List.replicate_succ,kU];exact ih
  rw[ar,this,List.append_nil]
theorem bj{x qual:Str}{st:Stmt}{f:Addr}{fd:FuncData}{N ps:List Str}{k:Nat}{fs:FS}(F:Fun K x qual st f fd)(S:aC N ps (ak st))(t:W Fl)
  (hbody:∀(cdv:Value)(A:Around)(outer:List Env)(s:Shared)(H:Hp)(E:XK),Room k (A.deeper (envOfC qual (ak st) s.heap.objs.size f cdv))→PMs (cxOf CX0 P w K mg base N qual (ak st) f cdv A outer s H E).nox (dh st) t)
  (h:∀ls post,ls.length=ps.length→fs ls post→t (ls++List.replicate (N.length-ps.length) .un) (aV ls post)):FnOk P w K mg base CX0 (k+1) f fd ps (spF K ps.length fs):=by
 refine F.ok S (fun vs H Q E q=>q.1) (fun cdv A outer s H vs Q E hr q=>?_)
 obtain⟨hl,Pr,ls,post,E0,hf,q⟩:=q
 refine⟨_,(hbody cdv A outer s H E hr).pss,aS H ls,ls++List.replicate (N.length-ps.length) .un,aV ls post,?_,h ls post (by rw[← hl];have:=E0.len;simpa using this.symm) hf,fun σ' H' ρ' E' p=>?_,fun _ _ _ _ p=>p.elim,fun _ _ _ _ p=>p.elim,fun v τ H' r ρ' E' p=>?_⟩
 ·
  unfold ll
  rw[hl]
  exact E0.wide.uns _
 ·
  obtain⟨ls',B,p⟩:=p
  exact q .non H' (.d .non) ls' (tP E0 (E'.cons_d .non) B) p
 ·
  obtain⟨ls',B,p⟩:=p
  exact q v H' r ls' (tP E0 E' B) p
end
theorem aG{ρ:Ev}:Back ρ [] []:=.nil
theorem aj{ρ:Ev}{x:D}{a b:List L}(t:Back ρ a b):Back ρ (.d x::a) (.d x::b):=.cons rfl t
theorem dP{ρ:Ev}{p:Addr}{xs ys:List D}{a b:List L}(h:L.own p ys∈ρ)(t:Back ρ a b):Back ρ (.own p xs::a) (.own p ys::b):=.cons (.inl ⟨ys,rfl,h⟩) t
section
variable{X:Cx}{e a b c tg:Expr}{es:List Expr}{pos:Pos}{tA:W Bool}{t u:W Fl}
def pY(c:W Bool)(b:W Fl):W Fl:=fun ρ post=>∃J:Nat→Ev→Prop,(∃n,J n ρ)∧∀n ρ,J n ρ→c ρ fun t ρ1=>if t=true then b ρ1 fun f ρ2=>(match f with
 |.nx=>∃m,m<n∧J m ρ2
 |.ct=>∃m,m<n∧J m ρ2
 |.bk=>post .nx ρ2
 |.rt r=>post (.rt r) ρ2)else post .nx ρ1
theorem lD{body:List Stmt}(hp:PassesOwn (model X.prog X.w) X.A X.env X.xe)(hc:PB X c tA)(hb:PMs X body t):PM X (.While c body [] pos) (pY tA t):=by
 refine PM.of (yI hp hc.pt hb.pss) fun σ H Pr ρ post hlen E h=>?_
 obtain⟨J,⟨n0,j0⟩,turn⟩:=h
 refine⟨fun n σ H=>∃ρ,REnv X.K Pr H σ ρ∧J n ρ,⟨n0,ρ,E,j0⟩,fun n σ1 H1 ⟨ρ1,E1,j1⟩=>⟨Pr,ρ1,_,E1,turn n ρ1 j1,fun b H2 ρ2 E2 q=>?_⟩⟩
 cases b with
 |false=>exact⟨ρ2,E2,q⟩
 | true =>
  refine⟨fun σ' H'=>∃ρ' m,REnv X.K Pr H' σ' ρ'∧m<n∧J m ρ',fun σ' H' ⟨ρ',m,E',hm,j⟩=>⟨m,hm,ρ',E',j⟩,Pr,ρ2,_,E2,q,fun σ' H' ρ' E' ⟨m,hm,j⟩=>⟨ρ',m,E',hm,j⟩,fun σ' H' ρ' E' p=>⟨ρ',E',p⟩,fun σ' H' ρ' E' ⟨m,hm,j⟩=>⟨ρ',m,E',hm,j⟩,fun v τ H' r ρ' E' p=>⟨τ,r,ρ',E',p⟩⟩
abbrev Tg:=D→Ev→(Ev→Prop)→Prop
def PT1(X:Cx)(tg:Expr)(g:Tg):Prop:=∃gg:TG,PG X tg gg∧∀v σ H Pr ρ x k,σ.length=X.N.length→REnv X.K Pr H σ ρ→Rep X.K H v x→g x ρ k→gg v σ H fun σ' H'=>H'=H∧σ'.length=X.N.length∧∃ρ',REnv X.K Pr H σ' ρ'∧k ρ'
def bQ(i:Nat):Tg:=fun x ρ k=>k (ρ.set i (.d x))
theorem kj{i:Nat}{x:Str}(hN:X.N.Nodup)(hi:X.N[i]?=some x)(hx:Loc X.env.scope x)(hf:X.fn x=true∨X.env.scope.names.lookup x=some .local:=by first|exact .inl rfl|exact .inr rfl|assumption):PT1 X (.Name x pos) (bQ i) :=
 ⟨_,nW hN hi hx hf,fun v σ H Pr ρ x k hl E r h=>⟨rfl,by simpa using hl,_,(E.cons_d r).store (by rw[hl];exact(List.getElem?_eq_some_iff.mp hi).1),h⟩⟩
def eT:List Nat→List D→Ev→(Ev→Prop)→Prop
 |[],[],ρ,k=>k ρ
 |i::is,x::xs,ρ,k=>eT is xs (ρ.set i (.d x)) k
 |_,_,_,_=>False
def PTs(X:Cx)(es:List Expr)(is:List Nat):Prop:=∃gg:TGs,PGs X es gg∧es.length=is.length∧∀vs σ H Pr ρ xs k,σ.length=X.N.length→REnv X.K Pr H σ ρ→Reps X.K H vs xs→eT is xs ρ k→gg vs σ H fun σ' H'=>H'=H∧σ'.length=X.N.length∧∃ρ',REnv X.K Pr H σ' ρ'∧k ρ'
theorem lP:PTs X [] []:=⟨_,vL,rfl,fun vs σ H Pr ρ xs k hl E r h=>by
 cases r with
 |nil=>exact⟨rfl,rfl,hl,ρ,E,h⟩
 |cons _ _=>exact h.elim⟩
theorem bC{i:Nat}{is:List Nat}{x:Str}(hN:X.N.Nodup)(hi:X.N[i]?=some x)(hx:Loc X.env.scope x)(hr:PTs X es is)(hf:X.fn x=true∨X.env.scope.names.lookup x=some .local:=by first|exact .inl rfl|exact .inr rfl|assumption)
  (hs:(assignEach (.Name x pos::es) X.env).map (·.2)=assign (.Name x pos) X.env::(assignEach es X.env).map (·.2):=by rfl):PTs X (.Name x pos::es) (i::is):=by
 obtain⟨gg,hg,hlen,q⟩:=hr
 refine⟨_,tG (nW hN hi hx hf) hg hs,by simp[hlen],fun vs σ H Pr ρ xs k hl E r h=>?_⟩
 cases r with
 |nil=>exact h.elim
 | cons r0 t =>
  refine⟨_,_,rfl,?_⟩
  exact q _ _ H Pr _ _ k (by simpa using hl) ((E.cons_d r0).store (by rw[hl];exact(List.getElem?_eq_some_iff.mp hi).1)) t h
def jy(is:List Nat):Tg:=fun x ρ k=>match x with
 |.tup xs=>eT is xs ρ k
 |_=>False
theorem iV:∀{is:List Nat}{xs:List D}{ρ:Ev}{k:Ev→Prop},eT is xs ρ k→xs.length=is.length
 |[],[],_,_,_=>rfl
 |_::is,_::xs,_,_,h=>by simp[iV (is:=is) (xs:=xs) h]
 |[],_::_,_,_,h=>h.elim
 |_::_,[],_,_,h=>h.elim
theorem pZ{is:List Nat}{k:Nat}(hc:X.calm=true)(h:PTs X es is)(hn:(assignEach es X.env).length=is.length:=by rfl)(hst:(assignEach es X.env).findIdx? (·.1)=none:=by rfl):PT1 X (.Tuple es k pos) (jy is):=by
 obtain⟨gg,hg,hlen,q⟩:=h
 refine⟨_,AC hc hg hn hst,fun v σ H Pr ρ x k hl E r h=>?_⟩
 cases r with
 |tup hs rs=>exact⟨_,_,rfl,hs,by rw[rs.length];exact iV h,q _ σ H Pr ρ _ k hl E rs h⟩
 |_=>exact h.elim
def d6(g:Tg)(b:W Fl):List D→W Fl
 |[]=>fun ρ post=>post .nx ρ
 | x::xs=>fun ρ post=>g x ρ fun ρ1=>b ρ1 fun f ρ2=>match f with
  |.nx=>d6 g b xs ρ2 post
  |.ct=>d6 g b xs ρ2 post
  |.bk=>post .nx ρ2
  |.rt r=>post (.rt r) ρ2
def gj:D→(List D→Prop)→Prop
 |.lst xs,k=>k xs
 |.tup xs,k=>k xs
 |_,_=>False
def Dp(H H':Hp):Prop:=H'=H∨∃p o,H p=none∧H'=upd H p o
theorem REnv.grown{K:PySem.W.Frag}{Pr H H':Hp}{σ:St}{ρ:Ev}(E:REnv K Pr H σ ρ)(g:Dp H H'):REnv K Pr H' σ ρ:=by
 rcases g with rfl|⟨p,o,h,rfl⟩
 ·
  exact E
 ·
  exact E.new h
def wm(K:PySem.W.Frag)(H:Hp)(J:It)(xs:List D):Prop:=∀H',Pres H H' →
 (∀i x,xs[i]?=some x→J.go i H'∧∀v H2,J.yld i H' v H2→Dp H' H2∧Rep K H2 v x)∧J.stop xs.length H'
def EI(X:Cx)(pins:List (Addr×Obj))(σ:St)(tg:Expr)(Pr:Hp)(post:List D→Ev→Prop)(itv:Value)(s2:Shared):Prop :=
 ∃(it:Addr)(fp:List Addr)(tn:Nat→Heap→Prop)(J:It)(H':Hp)(xs:List D)(ρ':Ev),itv=.ref it∧Inv X pins σ H' s2∧Turn X.prog X.w X.K tg J fp it tn∧tn 0 s2.heap∧(∀b∈fp,FpOk X pins H' b)∧REnv X.K Pr H' σ ρ'∧wm X.K H' J xs∧post xs ρ'
def PIL(X:Cx)(tg iter:Expr)(w:W (List D)):Prop :=
 ∀(pins:List (Addr×Obj))(s:Shared)(σ:St)(H Pr:Hp)(ρ:Ev)(post:List D→Ev→Prop),Inv X pins σ H s→REnv X.K Pr H σ ρ→w ρ post →
  wpAny (model X.prog X.w) X.A (eval iter X.env) (fun v s1=>wpAny (model X.prog X.w) X.A (pyIter v) (EI X pins σ tg Pr post) X.xe s1) X.xe s
def wSrc(t:W L):W (List D):=fun ρ post=>t ρ fun r ρ1=>toD r fun x=>gj x fun xs=>post xs ρ1
theorem uY{K:PySem.W.Frag}{H:Hp}{a:Addr}{vs:List V}{xs:List D}(h:SqZ K H a vs)(r:Reps K H vs xs):wm K H (Itl K a) xs:=fun H' p=>by
 have h':=(h.pres p).l
 refine⟨fun i x e=>?_,⟨vs,h',by rw[r.length];exact Nat.le_refl _⟩⟩
 obtain⟨v,ev,rv⟩:=r.get e
 refine⟨⟨vs,v,h',ev⟩,fun w H2 ⟨e1,e2⟩=>?_⟩
 have e3:=e2 vs h'
 rw[ev]at e3
 cases e3
 subst e1
 exact⟨.inl rfl,rv.pres p⟩
theorem wo{K:PySem.W.Frag}{H:Hp}{a:Addr}{vs:List V}{xs:List D}(h:SqT K H a vs)(r:Reps K H vs xs):wm K H (Itt K a) xs:=fun H' p=>by
 have h':=h.pres p
 refine⟨fun i x e=>?_,⟨vs,h',by rw[r.length];exact Nat.le_refl _⟩⟩
 obtain⟨v,ev,rv⟩:=r.get e
 refine⟨⟨vs,v,h',ev⟩,fun w H2 ⟨e1,e2⟩=>?_⟩
 have e3:=e2 vs h'
 rw[ev]at e3
 cases e3
 subst e1
 exact⟨.inl rfl,rv.pres p⟩
theorem lQ{t:W L}(h:PL X e t):PIL X tg e (wSrc t):=by
 intro pins s σ H Pr ρ post I E ht
 refine thn (h pins s σ H Pr ρ _ I E ht) fun u s1 q=>?_
 obtain⟨v,H1,x,ρ1,I1,r1,E1,q2⟩:=EL.frz (post:=fun x ρ1=>gj x fun xs=>post xs ρ1) q
 obtain⟨_,e1,p⟩:=E1.head_d
 cases e1
 cases p with
 | lst hz rs =>
  cases r1
  obtain⟨its,rv,pl,hz'⟩:=I1.list hz.l
  refine wpAny_pyIter_list pl.isList ?_
  refine⟨s1.heap.objs.size,[s1.heap.objs.size],_,_,H1,_,ρ1,rfl,I1.kept (t':=s1.toks) fun b o e=>Heap.get?_push_of_some _ e,vM _ _,⟨_,Heap.get?_push_size _ rfl,rfl,rfl⟩,fun b hb=>?_,E1.tail,uY hz rs,q2⟩
  have e:b=s1.heap.objs.size:=by simpa using hb
  subst e
  exact I1.fpOk (Nat.le_refl _) (I1.hok.fresh (Nat.le_refl _))
 | tup hz rs =>
  cases r1
  obtain⟨its,rv,pl,hz'⟩:=I1.tuple hz
  refine wpAny_pyIter_tuple (show s1.heap.IsTuple _ its.toArray from pl) ?_
  refine⟨s1.heap.objs.size,[s1.heap.objs.size],_,_,H1,_,ρ1,rfl,I1.kept (t':=s1.toks) fun b o e=>Heap.get?_push_of_some _ e,uN _ _,⟨_,Heap.get?_push_size _ rfl,rfl,rfl⟩,fun b hb=>?_,E1.tail,wo hz rs,q2⟩
  have e:b=s1.heap.objs.size:=by simpa using hb
  subst e
  exact I1.fpOk (Nat.le_refl _) (I1.hok.fresh (Nat.le_refl _))
 |_=>exact q2.elim
def rngD(lo:Int)(n:Nat):List D:=(List.range n).map fun (i:Nat)=>.int (lo+(i:Int))
theorem p5{K:PySem.W.Frag}{H:Hp}(lo:Int)(n:Nat):wm K H (Itr lo n) (rngD lo n):=fun H' p=>by
 refine⟨fun i x e=>?_,?_⟩
 ·
  have hi:i<n:=by
   have:=(List.getElem?_eq_some_iff.mp e).1
   simpa[rngD]using this
  refine⟨hi,fun v H2 ⟨e1,e2⟩=>?_⟩
  subst e1 e2
  have:x=.int (lo+(i:Int)):=by
   unfold rngD at e
   rw[List.getElem?_map,List.getElem?_range hi]at e
   simpa using e.symm
  subst this
  exact⟨.inl rfl,.int _⟩
 ·
  show n≤(rngD lo n).length
  simp[rngD]
def lq:L→(Int→Prop)→Prop
 |.d (.int i),k=>k i
 |_,_=>False
theorem df{r:L}{k:Int→Prop}(h:lq r k):∃i,r=.d (.int i)∧k i:=by
 cases r with
 | d x=>cases x with
  |int i=>exact⟨i,rfl,h⟩
  |_=>exact h.elim
 |_=>exact h.elim
def wq(j:Int):Prop:=-(2^62)≤j∧j<2^62
def oe(t:W L):W (List D):=fun ρ post=>t ρ fun r ρ1=>lq r fun j=>wq j∧post (rngD 0 j.toNat) ρ1
def Bo(t u:W L):W (List D):=fun ρ post=>t ρ fun r ρ1=>lq r fun i=>u ρ1 fun r ρ2=>lq r fun j=>wq i∧wq j∧post (rngD i (j-i).toNat) ρ2
theorem eU{t:W L}{p pos:Pos} (hg:Gl X "range") (hm:X.mg "range"=none) (ha:PL X a t) (hs:starEach [a] X.env=[(false,eval a X.env)]:=by rfl):PIL X tg (.Call (.Name "range" p) [a] [] pos) (oe t):=by
 intro pins s σ H Pr ρ post I E h
 refine thn (vN (tg:=tg) hg hm (cb ha.pe ik hs) hs pins s σ H (fun J H1=>∃ρ1 n,J=Itr 0 n∧REnv X.K Pr H1 σ ρ1∧post (rngD 0 n) ρ1) I ?_) fun v s1 q=>thn q fun itv s2 ⟨it,fp,tn,J,H',e,I',T,t0,hf,ρ1,n,eJ,E1,q⟩=>?_
 ·
  refine⟨Pr,ρ,_,E,h,fun v H' r ρ' E' p=>?_⟩
  obtain⟨j,rfl,hj,p⟩:=df p
  obtain⟨_,e1,p1⟩:=E'.head_d
  cases e1
  cases p1
  exact⟨j,rfl,hj.1,hj.2,ρ',_,rfl,E'.tail,p⟩
 ·
  subst eJ
  exact⟨it,fp,tn,_,H',_,ρ1,e,I',T,t0,hf,E1,p5 0 n,q⟩
theorem y2{t u:W L}{p pos:Pos} (hg:Gl X "range") (hm:X.mg "range"=none) (ha:PL X a t) (hb:PL X b u) (hs:starEach [a,b] X.env=[(false,eval a X.env),(false,eval b X.env)]:=by rfl) (hs2:starEach [b] X.env=[(false,eval b X.env)]:=by rfl):PIL X tg (.Call (.Name "range" p) [a,b] [] pos) (Bo t u):=by
 intro pins s σ H Pr ρ post I E h
 refine thn (vO (tg:=tg) hg hm (cb ha.pe (cb hb.pe ik hs2) (hs.trans (by rw[hs2]))) hs hs2 pins s σ H (fun J H1=>∃ρ1 lo n,J=Itr lo n∧REnv X.K Pr H1 σ ρ1∧post (rngD lo n) ρ1) I ?_) fun v s1 q=>thn q fun itv s2 ⟨it,fp,tn,J,H',e,I',T,t0,hf,ρ1,lo,n,eJ,E1,q⟩=>?_
 ·
  refine⟨Pr,ρ,_,E,h,fun v H' r ρ' E' p=>?_⟩
  obtain⟨i,rfl,p⟩:=df p
  obtain⟨_,e1,p1⟩:=E'.head_d
  cases e1
  cases p1
  refine⟨Pr,ρ',_,E'.tail,p,fun v H2 r ρ2 E2 p=>?_⟩
  obtain⟨j,rfl,hi,hj,p⟩:=df p
  obtain⟨_,e1,p1⟩:=E2.head_d
  cases e1
  cases p1
  exact⟨i,j,rfl,⟨hi.1,hi.2,hj.1,hj.2⟩,ρ2,_,_,rfl,E2.tail,p⟩
 ·
  subst eJ
  exact⟨it,fp,tn,_,H',_,ρ1,e,I',T,t0,hf,E1,p5 lo n,q⟩
def wFor(s:W (List D))(g:Tg)(b:W Fl):W Fl:=fun ρ post=>s ρ fun xs ρ1=>d6 g b xs ρ1 post
theorem iq{iter:Expr}{body:List Stmt}{w:W (List D)}{g:Tg}(hp:PassesOwn (model X.prog X.w) X.A X.env X.xe)(hc:X.calm=true)(hi:PIL X tg iter w)(hg:PT1 X tg g)(hb:PMs X body t)
  (hs:∀x,foldedSetIterable iter X.env x=pure x:=by intro _;rfl):PM X (.For tg iter body [] pos) (wFor w g t):=by
 intro pins s σ H Pr ρ post I E h
 obtain⟨gg,hg,hgg⟩:=hg
 refine wpAny_For (thn (hi pins s σ H Pr ρ _ I E h) fun v s1 h1=>thn h1 fun itv s2 h2=>?_) hs
 obtain⟨it,fp,tn,J,H2,xs,ρ2,e,I2,T,st2,f2,E2,G,w0⟩:=h2
 subst e
 have stat:∀{H':Hp},(∀b∈fp,H' b=none)→∀b∈fp,FpOk X pins H' b:=fun hn b hb=>⟨hn b hb,(f2 b hb).2⟩
 refine codeAny_forLoop_any (fun n s'=>∃i σ' H' ρ',n+i=xs.length∧Inv X pins σ' H' s'∧tn i s'.heap∧(∀b∈fp,H' b=none)∧REnv X.K (aS H2 ρ2) H' σ' ρ'∧d6 g t (xs.drop i) ρ' post) ?_ xs.length ⟨0,σ,H2,ρ2,by omega,I2,st2,fun b hb=>(f2 b hb).1,E2.wide,by simpa using w0⟩
 rintro n s3 ⟨i,σ3,H3,ρ3,hn,I3,st3,fr3,E3,w3⟩
 obtain⟨go,stop⟩:=G H3 (n6 E2 E3.sub)
 by_cases hlt:i<xs.length
 ·
  obtain⟨hgo,hy⟩:=go i xs[i] (List.getElem?_eq_getElem hlt)
  rw[List.drop_eq_getElem_cons hlt]at w3
  refine wpAny_passesOwn hp (thn (T.item X rfl rfl rfl hc i pins s3 σ3 H3 X.xe I3 (stat fr3) st3 hgo) fun r s4 ⟨u,hr,h4⟩=>?_)
  subst hr
  refine wpAny_passesOwn hp (thn h4 fun _ s5 ⟨x,H5,I5,r5,y5,st5,fr5⟩=>?_)
  obtain⟨gr,rx⟩:=hy x H5 y5
  have I5':=I5.pinned (stat fr5) (T.obj _ _ st5)
  have E5:=E3.grown gr
  refine wpAny_passesOwn hp (thn (hg _ s5 σ3 H5 x u _ I5' r5 (hgg x σ3 H5 _ ρ3 xs[i] _ I5.len E5 rx w3)) fun _ s6 ⟨σ6,H6,I6,e6,hl6,ρ6,E6,q6⟩=>?_)
  subst e6
  refine wpAny_passesOwn hp (thn (hb _ s6 σ6 _ _ ρ6 _ I6 E6 q6) fun f s7 q7=>?_)
  have again:∀{σ7:St}{H7:Hp}{ρ7:Ev},Inv X (pins++pJ fp s5.heap) σ7 H7 s7→REnv X.K (aS H2 ρ2) H7 σ7 ρ7→d6 g t (xs.drop (i+1)) ρ7 post →
    ∃m,m<n∧∃i σ' H' ρ',m+i=xs.length∧Inv X pins σ' H' s7∧tn i s7.heap∧(∀b∈fp,H' b=none)∧REnv X.K (aS H2 ρ2) H' σ' ρ'∧d6 g t (xs.drop i) ρ' post:=fun {σ7 H7 ρ7} I7 E7 n7=>by
   refine⟨n-1,by omega,i+1,σ7,H7,ρ7,by omega,I7.unpinned,T.keep _ _ _ st5 fun b hb o e=>(I7.pin (b,o) (List.mem_append_right _ (List.mem_append_right _ (g6 hb e)))).1,fun b hb=>?_,E7,n7⟩
   obtain⟨o,e,d⟩:=T.obj _ _ st5 b hb
   exact(I7.pin (b,o) (List.mem_append_right _ (List.mem_append_right _ (g6 hb e)))).2.1
  cases f with
  |next=>obtain⟨σ7,H7,ρ7,I7,E7,n7⟩:=q7;exact again I7 E7 n7
  |cont=>obtain⟨σ7,H7,ρ7,I7,E7,n7⟩:=q7;exact again I7 E7 n7
  |brk=>obtain⟨σ7,H7,ρ7,I7,E7,q7⟩:=q7;exact⟨σ7,H7,ρ7,I7.unpinned,E2.narrow E7,q7⟩
  |ret v=>obtain⟨x7,σ7,H7,r,ρ7,τ,I7,r7,E7,q7⟩:=q7;exact⟨x7,σ7,H7,r,ρ7,τ,I7.unpinned,r7,E2.narrow E7,q7⟩
 ·
  have e:i=xs.length:=by omega
  subst e
  refine wpAny_passesOwn hp (thn (T.done X rfl rfl rfl hc xs.length pins s3 σ3 H3 X.xe I3 (stat fr3) st3 stop) fun r s4 ⟨hr,I4⟩=>?_)
  subst hr
  rw[List.drop_length]at w3
  exact wpAny_execs_nil ⟨σ3,H3,ρ3,I4,E2.narrow E3,w3⟩
end
section
variable{X:Cx}{e a b c:Expr}{pos:Pos}{ta tb:W L}
def bU(i:Int):Prop:=i.natAbs<2^1000000
def bG:Op2:=fun x y k=>match x,y with
 |.int i,.int j=>k (.d (.int (i+j)))
 |.str i,.str j=>i.length+j.length≤sizeLine∧k (.d (.str (i++j)))
 |.lst xs,.lst ys=>xs.length+ys.length≤sizeLine∧∀a,k (.own a (xs++ys))
 |_,_=>False
def gk:Op2:=fun x y k=>match x,y with
 |.int i,.int j=>k (.d (.int (i-j)))
 |_,_=>False
def mT:Op2:=fun x y k=>match x,y with
 |.int i,.int j=>j≠0∧j.natAbs<2^9000∧k (.d (.int (i.fdiv j)))
 |_,_=>False
def dz:Op2:=fun x y k=>match x,y with
 |.int i,.int j=>j≠0∧k (.d (.int (i.fmod j)))
 |_,_=>False
def uZ:Op2:=fun x y k=>match x,y with
 |.int i,.int j=>0≤j∧j≤1000000∧i.natAbs<2^64∧k (.d (.int (i^j.toNat)))
 |_,_=>False
def opLt:Op2:=fun x y k=>match x,y with
 |.int i,.int j=>k (.d (.bl (decide (i<j))))
 |_,_=>False
def opLe:Op2:=fun x y k=>match x,y with
 |.int i,.int j=>k (.d (.bl (decide (i≤j))))
 |_,_=>False
def opGt:Op2:=fun x y k=>match x,y with
 |.int i,.int j=>k (.d (.bl (decide (j<i))))
 |_,_=>False
def opGe:Op2:=fun x y k=>match x,y with
 |.int i,.int j=>k (.d (.bl (decide (j≤i))))
 |_,_=>False
theorem wu{i j:Int}(h1:bU i)(h2:bU j):IntMulOk i j:=IntMulOk.of_le (PySem.intBits_le_iff.mpr h1) (PySem.intBits_le_iff.mpr h2) (by decide)
theorem Bp:OpR X (binaryOp .Mult) (rI (fun i j=>bU i∧bU j) fun i j=>.int (i*j)):=opI fun _ _ _ _ _ _ _ hc q=>mul_int q (wu hc.1 hc.2)
theorem Bq:OpR X (binaryOp .FloorDiv) (rI (fun i j=>j≠0∧j.natAbs<2^9000) fun i j=>.int (i.fdiv j)):=opI fun i j _ _ _ _ _ hc q=>floordiv_int hc.1 q (.inl (PyProof.noPylong_of_log2 ((Nat.log2_lt (by have:=hc.1;omega)).mpr hc.2)))
theorem Br:OpR X (binaryOp .Add) (fun x y H Q=>∃l b xs zs,x=.ref l∧y=.ref b∧SqL X.K H l xs∧SqL X.K H b zs∧xs.length+zs.length≤sizeLine∧∀p,H p=none→Q (.ref p) (upd H p (.lst (xs++zs)))):=by
 intro pins s σ H x y v u Q I rx ry h
 obtain⟨l,b,xs,zs,rfl,rfl,hH,hB,hz,q⟩:=h
 cases rx
 cases ry
 obtain⟨its,r,⟨o,n,e,c,d,f⟩,z⟩:=I.list hH
 obtain⟨its2,r2,⟨o2,n2,e2,c2,d2,f2⟩,z2⟩:=I.list hB
 obtain⟨cl,dd,dt,sl⟩:=o
 obtain⟨cl2,dd2,dt2,sl2⟩:=o2
 simp only at c f c2 f2
 subst c f c2 f2
 have hl:=r.length
 have hl2:=r2.length
 refine concat_meets ⟨_,e,rfl⟩ ⟨_,e2,rfl⟩ noFill_list_add seq_list_add PySem.F.slot_list_add PySem.F.entry_list_add (PySem.F.args_list_add_2 _ _) (list_addW l b its.toArray its2.toArray n n2 dd dd2 sl sl2 (by rw[List.size_toArray,List.size_toArray];omega)) ⟨e,e2,?_⟩
 have ea:its.toArray++its2.toArray=(its++its2).toArray:=by simp
 rw[ea]
 exact⟨.ref _,_,I.lnew (t':=s.toks) (r.append r2) (by rw[List.length_append];omega),rfl,q _ I.fresh⟩
theorem y3{x y:D}{k:L→Prop}(h:bG x y k):(∃i j,x=.int i∧y=.int j∧k (.d (.int (i+j))))∨(∃i j,x=.str i∧y=.str j∧i.length+j.length≤sizeLine∧k (.d (.str (i++j))))∨∃xs ys,x=.lst xs∧y=.lst ys∧xs.length+ys.length≤sizeLine∧∀a,k (.own a (xs++ys)):=by
 unfold bG at h
 split at h
 ·
  exact .inl ⟨_,_,rfl,rfl,h⟩
 ·
  exact .inr (.inl ⟨_,_,rfl,rfl,h⟩)
 ·
  exact .inr (.inr ⟨_,_,rfl,rfl,h⟩)
 ·
  exact h.elim
theorem Bs:OpD X (binaryOp .Add) (fun x y k=>∃i j,x=.int i∧y=.int j∧k (.d (.int (i+j)))):=OpD.of C3 fun σ H Pr ρ x y dx dy post E px py ⟨i,j,e1,e2,h⟩=>by subst e1 e2;cases px;cases py;exact⟨i,j,rfl,rfl,_,E.cons_d (.int _),h⟩
theorem Bt:OpD X (binaryOp .Add) (fun x y k=>∃i j,x=.str i∧y=.str j∧i.length+j.length≤sizeLine∧k (.d (.str (i++j)))):=OpD.of uP fun σ H Pr ρ x y dx dy post E px py ⟨i,j,e1,e2,z,h⟩=>by subst e1 e2;cases px;cases py;exact⟨i,j,rfl,rfl,z,_,E.cons_d (.str _),h⟩
theorem Bu:OpD X (binaryOp .Add) (fun x y k=>∃xs ys,x=.lst xs∧y=.lst ys∧xs.length+ys.length≤sizeLine∧∀a,k (.own a (xs++ys))):=OpD.of Br fun σ H Pr ρ x y dx dy post E px py ⟨xs,ys,e1,e2,z,h⟩=>by
 subst e1 e2
 cases px with
 | lst h1 r1 =>
  cases py with
  |lst h2 r2=>exact⟨_,_,_,_,rfl,rfl,h1.l,h2.l,by rw[r1.length,r2.length];exact z,fun p hp=>⟨_,E.cons_own hp (r1.append r2),h p⟩⟩
theorem a6:OpD X (binaryOp .Add) bG:=by
 intro pins s σ H Pr ρ x y v u dx dy post I rx ry E px py ho
 rcases y3 ho with h|h|h
 ·
  exact Bs pins s σ H Pr ρ x y v u dx dy post I rx ry E px py h
 ·
  exact Bt pins s σ H Pr ρ x y v u dx dy post I rx ry E px py h
 ·
  exact Bu pins s σ H Pr ρ x y v u dx dy post I rx ry E px py h
theorem tQ{f:Value→Value→Sem Value}{C:Int→Int→Prop}{g:Int→Int→V}{gd:Int→Int→D}(h:OpR X f (rI C g))(hg:∀K H i j,Rep K H (g i j) (gd i j)) :
  OpD X f (fun x y k=>∃i j,x=.int i∧y=.int j∧C i j∧k (.d (gd i j))) :=
 OpD.of h fun σ H Pr ρ x y dx dy post E px py ⟨i,j,e1,e2,z,h⟩=>by subst e1 e2;cases px;cases py;exact⟨i,j,rfl,rfl,z,_,E.cons_d (hg _ _ _ _),h⟩
theorem og{f:Value→Value→Sem Value}{g:Int→Int→V}{gd:Int→Int→D}(h:OpR X f (rI0 g))(hg:∀K H i j,Rep K H (g i j) (gd i j)) :
  OpD X f (fun x y k=>∃i j,x=.int i∧y=.int j∧k (.d (gd i j))) :=
 OpD.of h fun σ H Pr ρ x y dx dy post E px py ⟨i,j,e1,e2,h⟩=>by subst e1 e2;cases px;cases py;exact⟨i,j,rfl,rfl,_,E.cons_d (hg _ _ _ _),h⟩
theorem dQ:OpD X (binaryOp .Sub) gk:=(og C4 (gd:=fun i j=>.int (i-j)) fun _ _ _ _=>.int _).imp fun x y k h=>by
 unfold gk at h
 split at h
 ·
  exact⟨_,_,rfl,rfl,h⟩
 ·
  exact h.elim
theorem Dq:OpD X (binaryOp .Mult) (fun x y k=>∃i j,x=.int i∧y=.int j∧(bU i∧bU j)∧k (.d (.int (i*j)))):=tQ Bp (gd:=fun i j=>.int (i*j)) fun _ _ _ _=>.int _
def bo:Op2:=fun x y k=>match x,y with
 |.int i,.int j=>bU i∧bU j∧k (.d (.int (i*j)))
 |_,_=>False
theorem aW:OpD X (binaryOp .Mult) bo:=Dq.imp fun x y k h=>by
 unfold bo at h
 split at h
 ·
  exact⟨_,_,rfl,rfl,⟨h.1,h.2.1⟩,h.2.2⟩
 ·
  exact h.elim
theorem lR:OpD X (binaryOp .FloorDiv) mT:=(tQ Bq (gd:=fun i j=>.int (i.fdiv j)) fun _ _ _ _=>.int _).imp fun x y k h=>by
 unfold mT at h
 split at h
 ·
  exact⟨_,_,rfl,rfl,⟨h.1,h.2.1⟩,h.2.2⟩
 ·
  exact h.elim
theorem cm:OpD X (binaryOp .Mod) dz:=(tQ A6 (gd:=fun i j=>.int (i.fmod j)) fun _ _ _ _=>.int _).imp fun x y k h=>by
 unfold dz at h
 split at h
 ·
  exact⟨_,_,rfl,rfl,h.1,h.2⟩
 ·
  exact h.elim
theorem wx:OpD X (binaryOp .Pow) uZ:=(tQ C5 (gd:=fun i j=>.int (i^j.toNat)) fun _ _ _ _=>.int _).imp fun x y k h=>by
 unfold uZ at h
 split at h
 ·
  exact⟨_,_,rfl,rfl,⟨h.1,h.2.1,h.2.2.1⟩,h.2.2.2⟩
 ·
  exact h.elim
theorem jz:OpD X (compareOp .Lt) opLt:=(og C7 (gd:=fun i j=>.bl (decide (i<j))) fun _ _ _ _=>.bl _).imp fun x y k h=>by
 unfold opLt at h
 split at h
 ·
  exact⟨_,_,rfl,rfl,h⟩
 ·
  exact h.elim
theorem Bv:OpD X (compareOp .Gt) opGt:=(og Et (gd:=fun i j=>.bl (decide (j<i))) fun _ _ _ _=>.bl _).imp fun x y k h=>by
 unfold opGt at h
 split at h
 ·
  exact⟨_,_,rfl,rfl,h⟩
 ·
  exact h.elim
theorem Dr:OpD X (compareOp .GtE) opGe:=(og Eu (gd:=fun i j=>.bl (decide (j≤i))) fun _ _ _ _=>.bl _).imp fun x y k h=>by
 unfold opGe at h
 split at h
 ·
  exact⟨_,_,rfl,rfl,h⟩
 ·
  exact h.elim
mutual
def toP:D→PyData
 |.non=>.none
 |.bl b=>.bool b
 |.int i=>.int i
 |.str x=>.str x
 |.tup xs=>.tuple (toPs xs)
 |.lst xs=>.list (toPs xs)
 |.dct _=>.dict []
 |.exc _ _ _=>.dict []
 |.fn _ _=>.dict []
def toPs:List D→List PyData
 |[]=>[]
 |x::xs=>toP x::toPs xs
end
def eqD(x y:D):Bool:=PyData.eqv (toP x) (toP y)
def cS(x:D):Prop:=SeqAt.shaped (toP x)=true
def opEq:Op2:=fun x y k=>cS x∧cS y∧k (.d (.bl (eqD x y)))
def opNe:Op2:=fun x y k=>cS x∧cS y∧k (.d (.bl (!eqD x y)))
mutual
theorem jA{pins:List (Addr×Obj)}{σ:St}{H:Hp}{s:Shared}(I:Inv X pins σ H s):∀(d:D)(x:V)(u:Value),RelV x u→Rep X.K H x d→(toP d).canLay0=true→∃as,Reads s.heap u (toP d) as
 |.non,_,_,rv,r,_=>by cases r;cases rv;exact⟨_,.none⟩
 |.bl b,_,_,rv,r,_=>by cases r;cases rv;exact⟨_,.bool b⟩
 |.int i,_,_,rv,r,_=>by cases r;obtain⟨t,rfl⟩:=rv;exact⟨_,.int i t⟩
 |.str z,_,_,rv,r,_=>by cases r;obtain⟨t,rfl⟩:=rv;exact⟨_,.str z t⟩
 | .tup xs,_,_,rv,r,hc=>by
  cases r with
  | tup h rs =>
   cases rv
   obtain⟨its,vs,⟨o,e,c,n,d⟩,_⟩:=I.tuple h
   obtain⟨as,ra⟩:=iW I xs _ _ vs rs hc
   exact⟨_,.tuple (xs:=toPs xs) e c d (by simpa using ra)⟩
 | .lst xs,_,_,rv,r,hc=>by
  cases r with
  | lst h rs =>
   cases rv
   obtain⟨its,vs,⟨o,n,e,c,_,d⟩,_⟩:=I.list h.l
   obtain⟨as,ra⟩:=iW I xs _ _ vs rs hc
   exact⟨_,.list (xs:=toPs xs) e c d (by simpa using ra)⟩
 |.dct _,_,_,_,_,hc=>nomatch hc
 |.exc _ _ _,_,_,_,_,hc=>nomatch hc
 |.fn _ _,_,_,_,_,hc=>nomatch hc
theorem iW{pins:List (Addr×Obj)}{σ:St}{H:Hp}{s:Shared}(I:Inv X pins σ H s):∀(ds:List D)(vs:List V)(us:List Value),Vals vs us→Reps X.K H vs ds→PyData.canLayAll0 (toPs ds)=true→∃as,ReadsAll s.heap us (toPs ds) as
 |[],_,_,rv,r,_=>by cases r;cases rv;exact⟨_,.nil⟩
 | d::ds,_,_,rv,r,hc=>by
  have hc':(toP d).canLay0=true∧PyData.canLayAll0 (toPs ds)=true:=by simpa[toPs,PyData.canLayAll0]using hc
  cases r with
  | cons r0 rs =>
   cases rv with
   | cons v0 vs =>
    obtain⟨as,ra⟩:=jA I d _ _ v0 r0 hc'.1
    obtain⟨bs,rb⟩:=iW I ds _ _ vs rs hc'.2
    exact⟨_,.cons ra rb⟩
end
theorem lu(hu:X.A.units+64<cLine):OpD X (compareOp .Eq) opEq:=by
 intro pins s σ H Pr ρ x y v u dx dy post I rx ry E px py ⟨h1,h2,ho⟩
 obtain⟨as,ra⟩:=jA I dx x v rx px (SeqAt.canLay_of_shaped h1)
 obtain⟨bs,rb⟩:=jA I dy y u ry py (SeqAt.canLay_of_shaped h2)
 exact eq_dataH ra rb h1 h2 hu ⟨.bl _,H,_,I,rfl,E.cons_d (.bl _),ho⟩
theorem rG(hu:X.A.units+64<cLine):OpD X (compareOp .NotEq) opNe:=by
 intro pins s σ H Pr ρ x y v u dx dy post I rx ry E px py ⟨h1,h2,ho⟩
 obtain⟨as,ra⟩:=jA I dx x v rx px (SeqAt.canLay_of_shaped h1)
 obtain⟨bs,rb⟩:=jA I dy y u ry py (SeqAt.canLay_of_shaped h2)
 exact ne_dataH ra rb h1 h2 hu ⟨.bl _,H,_,I,rfl,E.cons_d (.bl _),ho⟩
theorem Fz:OpD X (compareOp .Is) (fun x y k=>y=.non∧k (.d (.bl (match x with | .non=>true|_=>false)))):=OpD.of C8 fun σ H Pr ρ x y dx dy post E px py ⟨e,h⟩=>by
 subst e
 cases py
 refine⟨rfl,_,E.cons_d (.bl _),?_⟩
 cases px<;>exact h
theorem Bw:OpD X (compareOp .IsNot) (fun x y k=>y=.non∧k (.d (.bl (match x with | .non=>false|_=>true)))):=OpD.of A7 fun σ H Pr ρ x y dx dy post E px py ⟨e,h⟩=>by
 subst e
 cases py
 refine⟨rfl,_,E.cons_d (.bl _),?_⟩
 cases px<;>exact h
def opIx:Op2:=fun x y k=>match x,y with
 |.lst xs,.int i=>∃v,atI xs i=some v∧k (.d v)
 |.tup xs,.int i=>∃v,atI xs i=some v∧k (.d v)
 |.str z,.int i=>z.length≤sizeLine∧∃c,atI z.cps.toList i=some c∧k (.d (.str ⟨#[c]⟩))
 |_,_=>False
theorem rJ{K:PySem.W.Frag}{H:Hp}{vs:List V}{xs:List D}(r:Reps K H vs xs){i:Int}{x:D}(h:atI xs i=some x):∃v,atI vs i=some v∧Rep K H v x:=by
 unfold atI at h ⊢
 rw[r.length]
 cases q:ixN xs.length i with
 |none=>rw[q]at h;cases h
 | some j =>
  rw[q]at h
  exact r.get h
theorem Bx{x y:D}{k:L→Prop}(h:opIx x y k):∃i,y=.int i∧((∃xs,x=.lst xs∧∃v,atI xs i=some v∧k (.d v))∨(∃xs,x=.tup xs∧∃v,atI xs i=some v∧k (.d v))∨∃z,x=.str z∧z.length≤sizeLine∧∃c,atI z.cps.toList i=some c∧k (.d (.str ⟨#[c]⟩))):=by
 unfold opIx at h
 split at h
 ·
  exact⟨_,rfl,.inl ⟨_,rfl,h⟩⟩
 ·
  exact⟨_,rfl,.inr (.inl ⟨_,rfl,h⟩)⟩
 ·
  exact⟨_,rfl,.inr (.inr ⟨_,rfl,h⟩)⟩
 ·
  exact h.elim
theorem av(ha:PL X a ta)(hb:PL X b tb)(hs:rn b):PL X (.Subscript a b pos) (wBin opIx ta tb):=by
 intro pins s σ H Pr ρ post I E h
 refine Subscript_ (two (R:=fun dx dy ρ2=>opIx dx dy fun r=>post r ρ2) ha hb I E h fun v u s2 x y H2 dx dy ρ2 I2 r1 r2 E2 p1 p2 q=>?_)
 have fin:∀(Q:VK),(∀z H',Q z H'→∃r,REnv X.K Pr H' (some z::σ) (r::ρ2)∧post r ρ2)→∀w s',EP X pins σ Q w s'→EL X pins σ Pr post w s':=fun Q hQ w s' ⟨z,H',I',rz,q⟩=>by
  obtain⟨r,E',p⟩:=hQ z H' q
  exact⟨z,H',r,ρ2,I',rz,E',p⟩
 have Eσ:=E2.tail.tail
 obtain⟨i,rfl,⟨xs,rfl,z,hz',q⟩|⟨xs,rfl,z,hz',q⟩|⟨z,rfl,hz,c,hc,q⟩⟩:=Bx q
 ·
  cases p2
  cases p1 with
  | lst hz rs =>
   obtain⟨w,hw,rw⟩:=rJ rs hz'
   exact thn (vY a b pins s2 σ H2 _ _ v u (fun z H'=>z=w∧H'=H2) I2 r1 r2 ⟨_,_,i,w,rfl,rfl,hz.l,hw,rfl,rfl⟩ (hs _ _)) (fin _ fun z H' ⟨e1,e2⟩=>by subst e1 e2;exact⟨_,Eσ.cons_d rw,q⟩)
 ·
  cases p2
  cases p1 with
  | tup hz rs =>
   obtain⟨w,hw,rw⟩:=rJ rs hz'
   exact thn (Dd a b pins s2 σ H2 _ _ v u (fun z H'=>z=w∧H'=H2) I2 r1 r2 ⟨_,_,i,w,rfl,rfl,hz,hw,rfl,rfl⟩ (hs _ _)) (fin _ fun z H' ⟨e1,e2⟩=>by subst e1 e2;exact⟨_,Eσ.cons_d rw,q⟩)
 ·
  cases p2
  cases p1
  exact thn (De a b pins s2 σ H2 _ _ v u (fun z H'=>z=.str ⟨#[c]⟩∧H'=H2) I2 r1 r2 ⟨z,i,c,rfl,rfl,hz,hc,rfl,rfl⟩ (hs _ _)) (fin _ fun z H' ⟨e1,e2⟩=>by subst e1 e2;exact⟨_,Eσ.cons_d (.str _),q⟩)
end
section
variable{X:Cx}{e a b c:Expr}{es:List Expr}{pos p:Pos}{ta:W L}{x:Str}{bs:List (Option Nat)}{t:W (List L)}{id T:String}
abbrev OpN:=List D→(L→Prop)→Prop
def fT(X:Cx)(f:Value)(op:OpN):Prop :=
 ∀(pins:List (Addr×Obj))(s:Shared)(σ:St)(H Pr:Hp)(ρ:Ev)(vs:List V)(us:List Value)(ds:List D)(post:L→Prop),Inv X pins σ H s→Vals vs us→REnv X.K Pr H σ ρ→Reps X.K H vs ds→op ds post →
  wpAny (model X.prog X.w) X.A (call f us) (fun w s'=>∃z H' r,Inv X pins σ H' s'∧RelV z w∧REnv X.K Pr H' (some z::σ) (r::ρ)∧post r) X.xe s
theorem fT.of{f:Value}{r:List V→Hp→VK→Prop}{op:OpN}(h:iU X f r)(q:∀σ H Pr ρ vs ds post,REnv X.K Pr H σ ρ→Reps X.K H vs ds→op ds post→r vs H fun z H'=>∃r,REnv X.K Pr H' (some z::σ) (r::ρ)∧post r):fT X f op :=
 fun pins s σ H Pr ρ vs us ds post I rv E ps ho=>thn (h pins s σ H vs us _ I rv (q σ H Pr ρ vs ds post E ps ho)) fun w s' ⟨z,H',I',rz,r,E',p⟩=>⟨z,H',r,I',rz,E',p⟩
def bb(op:OpN)(t:W (List L)):W L:=fun ρ post=>t ρ fun ls ρ1=>toDs ls fun ds=>op ds fun r=>post r ρ1
theorem aP(hc:fT X (.builtin id) op)(hg:Gl X x)(hm:X.mg x=none)(hv:bootBuiltins x=some (.builtin id))(ha:PAL X (e::es) bs t) (hn:x≠"__name__":=by decide) (hdb:(x == ("__debug__" : Str))=false:=by decide)
  (he:starEach (e::es) X.env=(false,eval e X.env)::starEach es X.env:=by rfl) (hpl:(backTo pos (starEach es X.env)).any (·.1)=false:=by rfl):PL X (.Call (.Name x p) (e::es) [] pos) (bb op t):=by
 intro pins s σ H Pr ρ post I E h
 refine wpAny_Call_Name_kw (ij I hg hm hv ?_ hn hdb)
 refine PyProof.Rows.callWith_builtin1 (thn (ha pos pins s σ H Pr ρ _ I E h) fun us s1 ⟨vs,H1,ls,ρ1,I1,r1,hl,hb,E1,_,q1⟩=>?_) he hpl
 obtain⟨ds,rfl,q2⟩:=gh q1
 have hlen:vs.length=ds.length:=by simpa using hl
 exact thn (hc pins s1 σ H1 Pr ρ1 vs us ds _ I1 r1 (E1.drop (by simp[hlen])) (gi hlen E1) q2) fun w s2 ⟨z,H2,r,I2,rz,E2,q⟩=>⟨z,H2,r,ρ1,I2,rz,E2,q⟩
theorem eH(hc:fT X (.type T) op)(hg:Gl X x)(hm:X.mg x=none)(hv:bootBuiltins x=some (.type T))(ha:PAL X (e::es) bs t) (hn:x≠"__name__":=by decide) (hdb:(x == ("__debug__" : Str))=false:=by decide)
  (he:starEach (e::es) X.env=(false,eval e X.env)::starEach es X.env:=by rfl) (hpl:(backTo pos (starEach es X.env)).any (·.1)=false:=by rfl):PL X (.Call (.Name x p) (e::es) [] pos) (bb op t):=by
 intro pins s σ H Pr ρ post I E h
 refine wpAny_Call_Name_kw (ij I hg hm hv ?_ hn hdb)
 refine PyProof.Rows.callWith_type1 (thn (ha pos pins s σ H Pr ρ _ I E h) fun us s1 ⟨vs,H1,ls,ρ1,I1,r1,hl,hb,E1,_,q1⟩=>?_) he hpl
 obtain⟨ds,rfl,q2⟩:=gh q1
 have hlen:vs.length=ds.length:=by simpa using hl
 exact thn (hc pins s1 σ H1 Pr ρ1 vs us ds _ I1 r1 (E1.drop (by simp[hlen])) (gi hlen E1) q2) fun w s2 ⟨z,H2,r,I2,rz,E2,q⟩=>⟨z,H2,r,ρ1,I2,rz,E2,q⟩
def dN:OpN:=fun ds k=>match ds with
 |[.lst xs]=>k (.d (.int xs.length))
 |[.tup xs]=>k (.d (.int xs.length))
 |[.str x]=>x.length≤sizeLine∧k (.d (.int x.length))
 |_=>False
theorem oh{K:PySem.W.Frag}{H:Hp}{vs:List V}{d:D}(r:Reps K H vs [d]):∃v,vs=[v]∧Rep K H v d:=by
 cases r with
 |cons h t=>cases t;exact⟨_,rfl,h⟩
theorem Ds{K:PySem.W.Frag}{H:Hp}{vs:List V}{d d':D}(r:Reps K H vs [d,d']):∃v w,vs=[v,w]∧Rep K H v d∧Rep K H w d':=by
 cases r with
 | cons h t=>cases t with
  |cons h' t=>cases t;exact⟨_,_,rfl,h,h'⟩
theorem fP:fT X (.builtin "len") dN:=fT.of (kT.or pP) fun σ H Pr ρ vs ds post E ps h=>by
 unfold dN at h
 split at h
 ·
  obtain⟨v,rfl,r⟩:=oh ps
  cases r with
  |lst hz rs=>exact .inl ⟨_,_,rfl,.inl hz.l,_,E.cons_d (.int _),by rw[rs.length];exact h⟩
 ·
  obtain⟨v,rfl,r⟩:=oh ps
  cases r with
  |tup hz rs=>exact .inl ⟨_,_,rfl,.inr hz,_,E.cons_d (.int _),by rw[rs.length];exact h⟩
 ·
  obtain⟨v,rfl,r⟩:=oh ps
  cases r with
  |str z=>exact .inr ⟨_,rfl,h.1,_,E.cons_d (.int _),h.2⟩
 ·
  exact h.elim
def u0:OpN:=fun ds k=>match ds with
 |[.int i]=>k (.d (.int (if i<0 then -i else i)))
 |_=>False
theorem wy:fT X (.builtin "abs") u0:=fT.of yL fun σ H Pr ρ vs ds post E ps h=>by
 unfold u0 at h
 split at h
 ·
  obtain⟨v,rfl,r⟩:=oh ps
  cases r with
  |int i=>exact⟨_,rfl,_,E.cons_d (.int _),h⟩
 ·
  exact h.elim
def u3:OpN:=fun ds k=>match ds with
 |[.int i,.int j]=>k (.d (.int (if j > i then j else i)))
 |_=>False
def u4:OpN:=fun ds k=>match ds with
 |[.int i,.int j]=>k (.d (.int (if j<i then j else i)))
 |_=>False
theorem wz(hc:X.calm=true):fT X (.builtin "max") u3:=fT.of (vQ hc) fun σ H Pr ρ vs ds post E ps h=>by
 unfold u3 at h
 split at h
 ·
  obtain⟨v,w,rfl,r,r'⟩:=Ds ps
  cases r with
  | int i=>cases r' with
   |int j=>exact⟨_,_,rfl,_,E.cons_d (.int _),h⟩
 ·
  exact h.elim
theorem wB(hc:X.calm=true):fT X (.builtin "min") u4:=fT.of (vR hc) fun σ H Pr ρ vs ds post E ps h=>by
 unfold u4 at h
 split at h
 ·
  obtain⟨v,w,rfl,r,r'⟩:=Ds ps
  cases r with
  | int i=>cases r' with
   |int j=>exact⟨_,_,rfl,_,E.cons_d (.int _),h⟩
 ·
  exact h.elim
def u5:OpN:=fun ds k=>match ds with
 |[.int i]=>k (.d (.int i))
 |[.bl b]=>k (.d (.int (if b then 1 else 0)))
 |_=>False
theorem wD:fT X (.type "int") u5:=fT.of vS fun σ H Pr ρ vs ds post E ps h=>by
 unfold u5 at h
 split at h
 ·
  obtain⟨v,rfl,r⟩:=oh ps
  cases r with
  |int i=>exact .inl ⟨_,rfl,_,E.cons_d (.int _),h⟩
 ·
  obtain⟨v,rfl,r⟩:=oh ps
  cases r with
  |bl i=>exact .inr ⟨_,rfl,_,E.cons_d (.int _),h⟩
 ·
  exact h.elim
def nD:OpN:=fun ds k=>match ds with
 |[.lst xs]=>∀a,k (.own a xs)
 |[.tup xs]=>∀a,k (.own a xs)
 |_=>False
theorem rK:fT X (.type "list") nD:=fT.of pQ fun σ H Pr ρ vs ds post E ps h=>by
 unfold nD at h
 split at h
 ·
  obtain⟨v,rfl,r⟩:=oh ps
  cases r with
  |lst hz rs=>exact⟨_,_,rfl,.inl hz.l,fun l hl=>⟨_,E.cons_own hl rs,h l⟩⟩
 ·
  obtain⟨v,rfl,r⟩:=oh ps
  cases r with
  |tup hz rs=>exact⟨_,_,rfl,.inr hz,fun l hl=>⟨_,E.cons_own hl rs,h l⟩⟩
 ·
  exact h.elim
def tyD:D→Value
 |.non=>.type "NoneType"
 |.bl _=>.type "bool"
 |.int _=>.type "int"
 |.str _=>.type "str"
 |.tup _=>.type "tuple"
 |.lst _=>.type "list"
 |.dct _=>.type "dict"
 |.exc _ _ _=>.none
 |.fn _ _=>.type "function"
def TyD(K:PySem.W.Frag)(d:D)(t:Value):Prop:=match d with
 |.exc c _ _=>∃C,t=.ref C∧fY K c C=true
 |d=>t=tyD d
theorem y4{pins:List (Addr×Obj)}{σ:St}{H:Hp}{s:Shared}{a:Addr}{o:Obj}{u:HO}{C:Addr}{ns:List Str}{vs:List V}(I:Inv X pins σ H s)(h:H a=some (.frz o u))(hc:o.cls=.ref C)(hn:PySem.W.notCls o=true)(hf:XF H o.dict ns vs):∃od,PySem.W.InstAt s.heap a o C od∧∀d,o.dict=some d→∃q,od=some q∧s.heap.get? d=some q:=by
 have e:=(show s.heap.get? a=some o∧_ from I.hok a _ h).1
 rcases hf with⟨_,_,z⟩|⟨d,od,z,h2,_⟩
 ·
  exact⟨none,⟨e,hc,hn,by rw[z];trivial⟩,fun d q=>by rw[z]at q;cases q⟩
 ·
  have e2:=(show s.heap.get? d=some od∧_ from I.hok d _ h2).1
  exact⟨some od,⟨e,hc,hn,by rw[z];exact e2⟩,fun d' q=>by rw[z]at q;cases q;exact⟨od,rfl,e2⟩⟩
theorem y6{pins:List (Addr×Obj)}{σ:St}{H:Hp}{s:Shared}{x:V}{u c:Value}{d:D}{b:Bool}{Q:Value→Shared→Prop}{A:Around}{E:Value→Shared→Prop}(I:Inv X pins σ H s)(rx:RelV x u)(r:Rep X.K H x d)(e:∀t,TyD X.K d t→PySem.W.kitOne X.K t c=some b)(h:∀tk,Q (.bool b) {s with toks:=tk}) :
  wpAny (model X.prog X.w) A (call (.builtin "isinstance") [u,c]) Q E s:=by
 cases r with
 |non=>cases rx;exact PySem.W.kia_one PySem.W.kitx_none I.kIn True.intro (e _ rfl) (fun z=>nomatch z) h
 |bl y=>cases rx;exact PySem.W.kia_one PySem.W.kitx_bool I.kIn True.intro (e _ rfl) (fun z=>nomatch z) h
 |int i=>obtain⟨t,rfl⟩:=rx;exact PySem.W.kia_one PySem.W.kitx_int I.kIn True.intro (e _ rfl) (fun z=>nomatch z) h
 |str y=>obtain⟨t,rfl⟩:=rx;exact PySem.W.kia_one PySem.W.kitx_str I.kIn True.intro (e _ rfl) (fun z=>nomatch z) h
 | lst hz rs =>
  cases rx
  obtain⟨its,_,⟨o,n,e1,c1,_,_⟩,_⟩:=I.list hz.l
  exact PySem.W.kia_one PySem.W.kitx_list I.kIn ⟨o,e1,c1⟩ (e _ rfl) (fun z=>nomatch z) h
 | tup hz rs =>
  cases rx
  obtain⟨its,_,⟨o,e1,c1,_⟩,_⟩:=I.tuple hz
  exact PySem.W.kia_one PySem.W.kitx_tuple I.kIn ⟨o,e1,c1⟩ (e _ rfl) (fun z=>nomatch z) h
 | @dct a o kvs hz =>
  cases rx
  obtain⟨_,_,_,vs,_,o',es,ep,h1,h2,_⟩:=(show c7 X.prog X.w H s.heap a (.frz o (.dK kvs))from I.hok a _ hz)
  exact PySem.W.kia_one PySem.W.kitx_dict I.kIn ⟨o',h1,h2.1⟩ (e _ rfl) (fun z=>nomatch z) h
 | @exc a o u cc C ns vs ds h1 hv hc hn hs hq hf rs =>
  cases rx
  obtain⟨od,Ia,_⟩:=y4 I h1 hc hn hf
  obtain⟨LL,cd,S⟩:=fZ hs
  exact PySem.W.kia_one (yS S) I.kIn ⟨_,_,Ia⟩ (e _ ⟨C,rfl,hs⟩) (fun z=>nomatch z) h
 | fn hl hf hq hc hz hd hv hm r =>
  cases rx
  exact PySem.W.kia_one Be I.kIn ⟨_,(I.hok _ _ hf).1,rfl⟩ (e _ rfl) (fun z=>nomatch z) h
def isTy(T:String):D→Bool
 |.non=>T == "NoneType"
 |.bl _=>T == "bool" ||T == "int"
 |.int _=>T == "int"
 |.str _=>T == "str"
 |.tup _=>T == "tuple"
 |.lst _=>T == "list"
 |.dct _=>T == "dict"
 |.exc _ _ _=>(["ValueError","Exception","BaseException","object"]:List String).contains T
 |.fn _ _=>T == "function"
def oi(T:String):D→(L→Prop)→Prop:=fun d k=>k (.d (.bl (isTy T d)))
theorem nE{T:String}{y:Str}{py:Pos}(hT:∀ K d t,TyD K d t→PySem.W.kitOne K t (.type T)=some (isTy T d)) (hg:Gl X "isinstance") (hm:X.mg "isinstance"=none) (hy:Gl X y) (hmy:X.mg y=none) (hby:bootBuiltins y=some (.type T)) (ha:PL X a ta)
  (hny:y≠"__name__":=by decide) (hdy:(y == ("__debug__" : Str))=false:=by decide)
  (h1:starEach [a,.Name y py] X.env=(false,eval a X.env)::starEach [.Name y py] X.env:=by rfl) (h2:starEach [.Name y py] X.env=[(false,eval (.Name y py) X.env)]:=by rfl) (hpl:(backTo pos (starEach [.Name y py] X.env)).any (·.1)=false:=by rfl) :
  PL X (.Call (.Name "isinstance" p) [a,.Name y py] [] pos) (wUn (oi T) ta):=by
 have cr:iU X (.builtin "isinstance") (fun xs H Q=>∃ x d,xs=[x,.ty T]∧Rep X.K H x d∧Q (.bl (isTy T d)) H):=by
  intro pins s σ H xs us Q I rv h
  obtain⟨x,d,rfl,r,q⟩:=h
  obtain⟨u,w,rfl,r1,r2⟩:=yK rv
  cases r2
  exact y6 I r1 r (hT _ d) fun tk=>⟨.bl _,H,I.tok _,rfl,q⟩
 refine PL.of (tK cr hg hm (by decide +kernel) (cb (au ha).pe (cb (A3 hy hmy hby (v:=.ty T) rfl hny hdy) ik h2) h1) (he:=h1) (hpl:=hpl)) fun σ H Pr ρ post E h=>?_
 refine⟨Pr,ρ,fun r ρ1=>match r with
  |.d x=>oi T x fun r=>post r ρ1
  |_=>False,E,h,fun v H' r ρ' E' p=>?_⟩
 cases r with
 | d x =>
  obtain⟨_,e1,p1⟩:=E'.head_d
  cases e1
  exact⟨_,x,rfl,p1,_,ρ',E'.tail.cons_d (.bl _),p⟩
 |_=>exact p.elim
end
section
variable{X:Cx}{e a b:Expr}{pos p apos cpos:Pos}{tb te:W L}{x:Str}
theorem REnv.updOwn{K:PySem.W.Frag}{Pr H:Hp}{σ:St}{ρ:Ev}{i:Nat}{l:Addr}{xs ys:List D}{vs:List V}(E:REnv K Pr H σ ρ)(q:ρ[i]?=some (.own l xs))(r:Reps K H vs ys):REnv K Pr (upd H l (.lst vs)) σ (ρ.set i (.own l ys)):=by
 obtain⟨sv,hs,rfl,_⟩:=E.slot q
 have hi:i<ρ.length:=(List.getElem?_eq_some_iff.mp q).1
 have E1:=(E.out q).write r
 have E2:=E1.back (i:=i) (by simp[hi]) hs
 rw[List.set_set]at E2
 exact E2
theorem REnv.ownAt{K:PySem.W.Frag}{Pr H:Hp}{σ:St}{ρ:Ev}{i:Nat}{l:Addr}{xs:List D}(E:REnv K Pr H σ ρ)(q:ρ[i]?=some (.own l xs)):σ[i]?=some (some (.ref l))∧∃vs,H l=some (.lst vs)∧Reps K H vs xs:=by
 obtain⟨sv,hs,rfl,r⟩:=E.slot q
 exact⟨hs,r⟩
def ownV(i:Nat)(ρ:Ev)(k:Addr→List D→Prop):Prop:=match ρ[i]? with
 |some (.own a xs)=>k a xs
 |_=>False
theorem iX{i:Nat}{ρ:Ev}{k:Addr→List D→Prop}(h:ownV i ρ k):∃a xs,ρ[i]?=some (.own a xs)∧k a xs:=by
 unfold ownV at h
 cases q:ρ[i]? with
 |none=>rw[q]at h;exact h.elim
 | some l =>
  rw[q]at h
  cases l with
  |own a xs=>exact⟨a,xs,rfl,h⟩
  |un=>exact h.elim
  |d x=>exact h.elim
  |bx _ _=>exact h.elim
  |dic _ _=>exact h.elim
def wApp(i:Nat)(te:W L):W L:=fun ρ post=>ownV i ρ fun _ _=>te ρ fun r ρ1=>toD r fun y=>ownV i ρ1 fun a xs=>xs.length<sizeLine∧post (.d .non) (ρ1.set i (.own a (xs++[y])))
theorem eI(i:Nat)(he:PL X e te)(hN:X.N[i]?=some x:=by rfl)(hv:Vis X.env.scope x:=by first | exact Or.inl rfl | exact Or.inr (Or.inl rfl) | exact Or.inr (Or.inr rfl)) (hd:(x == ("__debug__" : Str))=false:=by decide)
  (hcd:(x == ("__classdict__" : Str))=false:=by decide) (hs1:starEach [e] X.env=[(false,eval e X.env)]:=by rfl) (hbase:attributeBase (.Name x p) "append" X.env (eval (.Name x p) X.env)=eval (.Name x p) X.env:=by rfl)
  (hfew:((backTo cpos (starEach [e] X.env)).all (fun x=>!x.1) && (backToKw cpos (keywordEach [] X.env)).all (fun x=>x.1.isSome)
   && decide (([e]).length+([]:List Keyword).length+(if([]:List Keyword).isEmpty then 0 else 1)<30))=true:=by rfl)
  (hline:(apos.endLine == cpos.line)=true:=by rfl) (hplain:(backTo cpos (starEach ([]:List Expr) X.env)).any (·.1)=false:=by rfl) :
  PL X (.Call (.Attribute (.Name x p) "append" apos) [e] [] cpos) (wApp i te):=by
 refine PL.of (Dh PySem.F.plainAttrs_list PySem.F.slot_list_append PySem.F.type_list_append pR (fO hN hv hd hcd) (cb (au he).pe ik hs1) (hbase:=hbase) (hfew:=hfew) (hline:=hline) (hs:=hs1) (hplain:=hplain)) fun σ H Pr ρ post E h=>?_
 obtain⟨l,xs0,q0,h⟩:=iX h
 obtain⟨hσ,vs0,hl0,_⟩:=E.ownAt q0
 refine⟨.ref l,hσ,.inl ⟨rfl,vs0,SqL.of hl0⟩,Pr,ρ,fun r ρ1=>match r with
  |.d y=>ownV i ρ1 fun a xs=>xs.length<sizeLine∧post (.d .non) (ρ1.set i (.own a (xs++[y])))
  |_=>False,E,h,fun v H' r ρ' E' pp=>?_⟩
 cases r with
 | d y =>
  obtain⟨l',xs,q,hlen,pp⟩:=iX pp
  obtain⟨hσ',vs,hl,r⟩:=E'.tail.ownAt q
  rw[hσ]at hσ'
  cases hσ'
  obtain⟨_,e1,p1⟩:=E'.head_d
  cases e1
  exact⟨l,vs,v,rfl,rfl,hl,by rw[r.length];exact hlen,_,_,(E'.tail.updOwn q (r.append (.cons p1 .nil))).cons_d .non,pp⟩
 |_=>exact pp.elim
def wIxV(i:Nat)(tb:W L):W L:=fun ρ post=>ownV i ρ fun _ _=>tb ρ fun r ρ1=>lq r fun j=>ownV i ρ1 fun _ xs=>∃y,atI xs j=some y∧post (.d y) ρ1
theorem jB(i:Nat)(hb:PL X b tb)(hs:rn b)(hN:X.N[i]?=some x:=by rfl)(hv:Vis X.env.scope x:=by first | exact Or.inl rfl | exact Or.inr (Or.inl rfl) | exact Or.inr (Or.inr rfl)) (hd:(x == ("__debug__" : Str))=false:=by decide)
  (hcd:(x == ("__classdict__" : Str))=false:=by decide):PL X (.Subscript (.Name x p) b pos) (wIxV i tb):=by
 refine PL.of (Ey vY (fO hN hv hd hcd) hb.pe hs) fun σ H Pr ρ post E h=>?_
 obtain⟨l,xs0,q0,h⟩:=iX h
 obtain⟨hσ,vs0,hl0,_⟩:=E.ownAt q0
 refine⟨.ref l,hσ,Pr,ρ,_,E,h,fun v H' r ρ' E' pp=>?_⟩
 obtain⟨j,rfl,pp⟩:=df pp
 obtain⟨l',xs,q,y,hy,pp⟩:=iX pp
 obtain⟨hσ',vs,hl,r⟩:=E'.tail.ownAt q
 rw[hσ]at hσ'
 cases hσ'
 obtain⟨_,e1,p1⟩:=E'.head_d
 cases e1
 cases p1
 obtain⟨w,hw,rw⟩:=rJ r hy
 exact⟨l,vs,j,w,rfl,rfl,SqL.of hl,hw,_,ρ',E'.tail.cons_d rw,pp⟩
def wF(i:Nat):W L:=fun ρ post=>ownV i ρ fun _ xs=>post (.d (.int xs.length)) ρ
theorem rL(i:Nat) (hg:Gl X "len") (hm:X.mg "len"=none) (hN:X.N[i]?=some x:=by rfl) (hv:Vis X.env.scope x:=by first | exact Or.inl rfl | exact Or.inr (Or.inl rfl) | exact Or.inr (Or.inr rfl)) (hd:(x == ("__debug__" : Str))=false:=by decide)
  (hcd:(x == ("__classdict__" : Str))=false:=by decide) (h1:starEach [.Name x p] X.env=[(false,eval (.Name x p) X.env)]:=by rfl) (hpl:(backTo pos (starEach ([]:List Expr) X.env)).any (·.1)=false:=by rfl) :
  PL X (.Call (.Name "len" apos) [.Name x p] [] pos) (wF i):=by
 refine PL.of (tK kT hg hm PySem.boot_len (cb (fO hN hv hd hcd) ik h1) (he:=h1) (hpl:=hpl)) fun σ H Pr ρ post E h=>?_
 obtain⟨l,xs0,q0,h⟩:=iX h
 obtain⟨hσ,vs0,hl0,r⟩:=E.ownAt q0
 exact⟨.ref l,hσ,l,vs0,rfl,.inl (SqL.of hl0),_,ρ,E.cons_d (.int _),by rw[r.length];exact h⟩
def rM(i:Nat)(tb te:W L):W Fl:=fun ρ post=>te ρ fun r ρ1=>toD r fun y=>ownV i ρ1 fun _ _=>tb ρ1 fun r ρ2=>lq r fun j=>ownV i ρ2 fun a xs=>∃k,ixN xs.length j=some k∧post .nx (ρ2.set i (.own a (xs.set k y)))
theorem lS(i:Nat){b:Expr}{ps:Pos}(hb:PL X b tb)(he:PL X e te)(hN:X.N[i]?=some x:=by rfl)(hv:Vis X.env.scope x:=by first | exact Or.inl rfl | exact Or.inr (Or.inl rfl) | exact Or.inr (Or.inr rfl)) (hd:(x == ("__debug__" : Str))=false:=by decide)
  (hcd:(x == ("__classdict__" : Str))=false:=by decide)
  (ha:∀v,assign (.Subscript (.Name x p) b ps) X.env v=(do
   let ov ← holding [v] (eval (.Name x p) X.env)
   let iv ← holding [v,ov] (eval b X.env)
   standAt ps
   holding [v,ov,iv] (setItem ov iv v)
   release [v,ov,iv] []):=by intro _;rfl)
  (hs:swapsWithSole [.Subscript (.Name x p) b ps] e pos.line X.env=pure false:=by rfl) (hw:swappedStores [.Subscript (.Name x p) b ps] e X.env=pure none:=by rfl)
  (h1:(assignEach [.Subscript (.Name x p) b ps] X.env).map (·.2)=[assign (.Subscript (.Name x p) b ps) X.env]:=by rfl):PM X (.Assign [.Subscript (.Name x p) b ps] e pos) (rM i tb te):=by
 refine PM.of (C0 (au he).pe (CZ (fO hN hv hd hcd) hb.pe yO ha) hs hw h1) fun σ H Pr ρ post hlen E h=>?_
 refine⟨Pr,ρ,fun r ρ1=>match r with
  |.d y=>ownV i ρ1 fun _ _=>tb ρ1 fun r ρ2=>lq r fun j=>ownV i ρ2 fun a xs=>∃k,ixN xs.length j=some k∧post .nx (ρ2.set i (.own a (xs.set k y)))
  |_=>False,E,h,fun v H' r ρ' E' pp=>?_⟩
 cases r with
 | d y =>
  obtain⟨l,xs0,q0,pp⟩:=iX pp
  obtain⟨hσ,vs0,hl0,_⟩:=E'.tail.ownAt q0
  refine⟨.ref l,hσ,aS H' ρ',ρ',_,E'.tail.wide,pp,fun w H2 r2 ρ2 E2 pp=>?_⟩
  obtain⟨j,rfl,pp⟩:=df pp
  obtain⟨l',xs,q,k,hk,pp⟩:=iX pp
  obtain⟨_,e1,p1⟩:=E2.head_d
  cases e1
  cases p1
  have E3:REnv X.K Pr H2 (some (.int j)::some v::σ) (.d (.int j)::.d y::ρ2):=REnv.step (τ:=[some v]) (lam:=[.d y]) (w:=[some (.int j)]) (μ:=[.d (.int j)]) E' rfl E2 rfl
  obtain⟨_,e1,p1⟩:=E3.tail.head_d
  cases e1
  obtain⟨hσ',vs,hl,r⟩:=E3.tail.tail.ownAt q
  rw[hσ]at hσ'
  cases hσ'
  refine⟨l,vs,j,k,rfl,rfl,hl,by rw[r.length];exact hk,_,E3.tail.tail.updOwn q (r.set p1 k),pp⟩
 |_=>exact pp.elim
def u6:Option (W L)→Ev→(Option Int→Ev→Prop)→Prop
 |none=>fun ρ k=>k none ρ
 |some t=>fun ρ k=>t ρ fun r ρ1=>lq r fun i=>k (some i) ρ1
def cutD{α:Type}(xs:List α)(lo hi:Option Int):List α:=(xs.drop (HT.sIx xs.length 0 lo)).take (HT.sIx xs.length xs.length hi-HT.sIx xs.length 0 lo)
end
def a9:List Nat→Ev→Ev
 |[],ρ=>ρ
 |j::r,ρ=>(a9 r ρ).set j .un
def bV(fi:List Nat)(ρ:Ev):Ev:=fi.map fun j=>(ρ[j]?).getD .un
def bH(fi:List Nat)(σ:St):St:=fi.map fun j=>(σ[j]?).getD none
def eK:List Nat→Ev→Ev→Ev
 |j::r,c::cs,ρ=>eK r cs (ρ.set j c)
 |_,_,ρ=>ρ
theorem dA:∀(fi:List Nat)(ρ:Ev),(a9 fi ρ).length=ρ.length
 |[],_=>rfl
 |j::r,ρ=>by unfold a9;rw[List.length_set,dA r ρ]
theorem p6:∀(fi:List Nat)(ρ:Ev)(j:Nat),j∉fi→(a9 fi ρ)[j]?=ρ[j]?
 |[],_,_,_=>rfl
 | i::r,ρ,j,h=>by
  unfold a9
  rw[List.getElem?_set_ne (fun e=>h (by simp[e])),p6 r ρ j fun e=>h (List.mem_cons_of_mem _ e)]
theorem tR:∀(fi:List Nat)(ρ:Ev)(j:Nat),j∈fi→j<ρ.length→(a9 fi ρ)[j]?=some .un
 | i::r,ρ,j,h,hl=>by
  unfold a9
  by_cases e:i=j
  ·
   subst e
   rw[List.getElem?_set_self (by rw[dA];exact hl)]
  ·
   rw[List.getElem?_set_ne e]
   exact tR r ρ j ((List.mem_cons.mp h).resolve_left fun z=>e z.symm) hl
section
variable{K:PySem.W.Frag}{Pr H:Hp}{σ:St}{ρ:Ev}
theorem REnv.takeAt(E:REnv K Pr H σ ρ){i:Nat}{l:L}{s:Option V}(h:ρ[i]?=some l)(hs:σ[i]?=some s):REnv K Pr H (s::σ) (l::ρ.set i .un):=E.outL h hs
theorem REnv.takes(E:REnv K Pr H σ ρ):∀(fi:List Nat),fi.Nodup→(∀j∈fi,j<ρ.length)→REnv K Pr H (bH fi σ++σ) (bV fi ρ++a9 fi ρ)
 |[],_,_=>E
 | j::r,nd,hl=>by
  have ih:=E.takes r (List.nodup_cons.mp nd).2 fun i hi=>hl i (List.mem_cons_of_mem _ hi)
  have hj:j<ρ.length:=hl j List.mem_cons_self
  have hjs:j<σ.length:=by rw[E.len];exact hj
  have e1:(bV r ρ++a9 r ρ)[r.length+j]?=some ρ[j]:=by
   rw[List.getElem?_append_right (by simp[bV])]
   simp only[bV,List.length_map,Nat.add_sub_cancel_left]
   rw[p6 r ρ j (List.nodup_cons.mp nd).1]
   exact List.getElem?_eq_getElem hj
  have e2:(bH r σ++σ)[r.length+j]?=some σ[j]:=by
   rw[List.getElem?_append_right (by simp[bH])]
   simp only[bH,List.length_map,Nat.add_sub_cancel_left]
   exact List.getElem?_eq_getElem hjs
  have z:=ih.takeAt e1 e2
  rw[List.set_append_right _ _ (by simp[bV])]at z
  simp only[bV,List.length_map,Nat.add_sub_cancel_left]at z
  have c1:bH (j::r) σ=σ[j]::bH r σ:=by simp[bH,hjs]
  have c2:bV (j::r) ρ=ρ[j]::bV r ρ:=by simp[bV,hj]
  rw[c1,c2]
  exact z
theorem REnv.backs:∀(fi:List Nat){cs ρ:Ev},fi.Nodup→cs.length=fi.length→(∀j∈fi,ρ[j]?=some .un)→(∀j∈fi,j<σ.length)→REnv K Pr H (bH fi σ++σ) (cs++ρ)→REnv K Pr H σ (eK fi cs ρ)
 |[],[],ρ,_,_,_,_,E=>E
 | j::r,c::cs,ρ,nd,hl,hu,hs,E=>by
  have hjs:j<σ.length:=hs j List.mem_cons_self
  have hj:=hu j List.mem_cons_self
  have c1:bH (j::r) σ=σ[j]::bH r σ:=by simp[bH,hjs]
  rw[c1]at E
  have hlr:cs.length=r.length:=by simpa using hl
  have z:=REnv.back (σ:=bH r σ++σ) (ρ:=cs++ρ) (l:=c) E (i:=r.length+j) (by
   rw[List.getElem?_append_right (by omega),hlr,Nat.add_sub_cancel_left];exact hj) (by
   rw[List.getElem?_append_right (by simp[bH])]
   simp only[bH,List.length_map,Nat.add_sub_cancel_left]
   exact List.getElem?_eq_getElem hjs)
  rw[List.set_append_right _ _ (by omega),hlr,Nat.add_sub_cancel_left]at z
  exact REnv.backs r (List.nodup_cons.mp nd).2 hlr (fun i hi=>by
   rw[List.getElem?_set_ne (fun e=>(List.nodup_cons.mp nd).1 (by rw[e];exact hi))];exact hu i (List.mem_cons_of_mem _ hi)) (fun i hi=>hs i (List.mem_cons_of_mem _ hi)) z
 |[],_::_,_,_,hl,_,_,_=>by simp at hl
 |_::_,[],_,_,hl,_,_,_=>by simp at hl
end
def clOf(cells:List (Str×Addr)):List (Str×NameKind)→List (Str×Addr)→List (Str×Addr)
 |[],acc=>acc
 |(n,k)::r,acc=>clOf cells r (if k == .free then(match cells.lookup n with|some c=>(n,c)::acc|none=>acc)else acc)
theorem km{env:Env}:∀(names:List (Str×NameKind))(acc:List (Str×Addr)),(∀x∈names,x.2=.free→∃c,env.cells.lookup x.1=some c) →
  (forIn names acc fun (x:Str×NameKind) (cs:List (Str×Addr))=>(if x.2 == .free then do let c ← cellOf env x.1;pure (ForInStep.yield ((x.1,c)::cs))else pure (ForInStep.yield cs):Sem (ForInStep (List (Str×Addr)))))=pure (clOf env.cells names acc)
 |[],acc,_=>rfl
 | (n,k)::r,acc,h=>by
  rw[List.forIn_cons]
  by_cases hk:(k == NameKind.free)=true
  ·
   obtain⟨c,hc⟩:=h (n,k) List.mem_cons_self (by simpa using hk)
   have e:cellOf env n=pure c:=by unfold cellOf;rw[show env.cells.lookup n=some c from hc]
   simp only[hk,if_true,e,pure_bind,clOf,hc]
   exact km r _ fun x hx=>h x (List.mem_cons_of_mem _ hx)
  ·
   simp only[hk,clOf,if_false,pure_bind]
   exact km r _ fun x hx=>h x (List.mem_cons_of_mem _ hx)
theorem oj{scope:Scope}{env:Env}(h:∀x∈scope.names,x.2=.free→∃c,env.cells.lookup x.1=some c):closureFor scope env=pure (clOf env.cells scope.names []):=by
 have:=km (env:=env) scope.names [] h
 unfold closureFor
 simp only[bind_pure_comp]at this ⊢
 rw[this]
 rfl
theorem tS{cells:List (Str×Addr)}:∀(names:List (Str×NameKind))(acc:List (Str×Addr)),(∀x c,acc.lookup x=some c→cells.lookup x=some c)→∀x c,(clOf cells names acc).lookup x=some c→cells.lookup x=some c
 |[],acc,h,x,c,e=>h x c e
 | (n,k)::r,acc,h,x,c,e=>by
  unfold clOf at e
  refine tS r _ (fun y d ey=>?_) x c e
  split at ey
  ·
   split at ey
   ·
    rename_i q
    rw[List.lookup_cons]at ey
    split at ey
    ·
     rename_i e2
     have:y=n:=by simpa using e2
     cases ey
     rw[this];exact q
    ·
     exact h y d ey
   ·
    exact h y d ey
  ·
   exact h y d ey
theorem lx{n:Str}{c:Addr}{acc:List (Str×Addr)}{x:Str}(h:∃d,acc.lookup x=some d):∃d,((n,c)::acc).lookup x=some d:=by
 rw[List.lookup_cons]
 split
 ·
  exact⟨_,rfl⟩
 ·
  exact h
theorem om{cells:List (Str×Addr)}:∀(names:List (Str×NameKind))(acc:List (Str×Addr))(x:Str),((∃d,acc.lookup x=some d)∨((x,NameKind.free)∈names∧∃c,cells.lookup x=some c))→∃d,(clOf cells names acc).lookup x=some d
 | [],acc,x,h=>by
  rcases h with h|⟨h,_⟩
  ·
   exact h
  ·
   simp at h
 | (n,k)::r,acc,x,h=>by
  unfold clOf
  refine om r _ x ?_
  rcases h with h|⟨hm,c,hc⟩
  ·
   left
   split
   ·
    split
    ·
     exact lx h
    ·
     exact h
   ·
    exact h
  ·
   rcases List.mem_cons.mp hm with e|hm
   ·
    cases e
    left
    simp only[hc,beq_self_eq_true,if_true]
    exact⟨c,by simp[List.lookup_cons]⟩
   ·
    exact .inr ⟨hm,c,hc⟩
def jC(X:Cx)(scope:Scope)(cl:List (Str×Addr))(Nb:List Str)(s₀:Shared)(H₀:Hp)(fp:List Addr):Cx :=
 {X with N:=Nb,s₀:=s₀,H₀:=H₀,env:=compEnvC scope cl s₀.heap.objs.size X.env,outer:=X.stack,stack:=X.stack,ex:=fp,fn:=fun _=>false,pn:=[],xe:=fun _ _=>False}
theorem g8{α β:Type}{F:α→β→Prop}:∀{a:List α}{b:List β},Paired F a b↔a.length=b.length∧∀p∈a.zip b,F p.1 p.2
 |[],[]=>⟨fun _=>⟨rfl,fun _ h=>by simp at h⟩,fun _=>.nil⟩
 |[],_::_=>⟨(fun h=>nomatch h),fun h=>by simp at h⟩
 |_::_,[]=>⟨(fun h=>nomatch h),fun h=>by simp at h⟩
 | x::a,y::b=>by
  constructor
  ·
   intro h
   cases h with
   | cons r t =>
    obtain⟨h1,h2⟩:=g8.mp t
    exact⟨by simp[h1],fun p hp=>by
     rw[List.zip_cons_cons]at hp
     rcases List.mem_cons.mp hp with rfl|hp
     ·
      exact r
     ·
      exact h2 p hp⟩
  ·
   rintro⟨hl,h⟩
   exact .cons (h (x,y) (by simp)) (g8.mpr ⟨by simpa using hl,fun p hp=>h p (by rw[List.zip_cons_cons];exact List.mem_cons_of_mem _ hp)⟩)
theorem oo:∀{σ:St}{ρ:Ev},σ.length=ρ.length→(σ.zip ρ).map (·.2)=ρ
 |[],[],_=>rfl
 | _::σ,l::ρ,h=>by
  have ih:=oo (σ:=σ) (ρ:=ρ) (by simpa using h)
  rw[List.zip_cons_cons,List.map_cons,ih]
 |[],_::_,h=>by simp at h
 |_::_,[],h=>by simp at h
theorem REnv.rearr{K:PySem.W.Frag}{Pr H:Hp}{σ σ2:St}{ρ ρ2:Ev}(E:REnv K Pr H σ ρ)(hl:σ2.length=ρ2.length)(extra:List (Option V×L))(h:(σ.zip ρ).Perm (σ2.zip ρ2++extra)):REnv K Pr H σ2 ρ2:=by
 have pm:(owns ρ).Perm (owns ρ2++owns (extra.map (·.2))):=by
  have q:=jx (h.map (·.2))
  rw[List.map_append,oo E.len,oo hl,ar]at q
  exact q
 refine⟨E.sub,(List.nodup_append.mp (pm.nodup_iff.mp E.nd)).1,fun a ha=>E.off a (pm.mem_iff.mpr (List.mem_append_left _ ha)),g8.mpr ⟨hl,fun p hp=>?_⟩⟩
 exact(g8.mp E.sl).2 p (h.mem_iff.mpr (List.mem_append_left _ hp))
theorem p7{fi:List Nat}{σ τ:St}(h:∀j∈fi,j<σ.length):bH fi (σ++τ)=bH fi σ:=by
 unfold bH
 refine List.map_congr_left fun j hj=>?_
 rw[List.getElem?_append_left (h j hj)]
theorem u7{fi:List Nat}{σ τ:Ev}(h:∀j∈fi,j<σ.length):bV fi (σ++τ)=bV fi σ:=by
 unfold bV
 refine List.map_congr_left fun j hj=>?_
 rw[List.getElem?_append_left (h j hj)]
theorem p8{τ:Ev}:∀{fi:List Nat}{ρ:Ev},(∀j∈fi,j<ρ.length)→a9 fi (ρ++τ)=a9 fi ρ++τ
 |[],_,_=>rfl
 | j::r,ρ,h=>by
  unfold a9
  rw[p8 fun i hi=>h i (List.mem_cons_of_mem _ hi),List.set_append_left _ _ (by rw[dA];exact h j List.mem_cons_self)]
theorem nF{τ:Ev}:∀{fi:List Nat}{cs ρ:Ev},(∀j∈fi,j<ρ.length)→eK fi cs (ρ++τ)=eK fi cs ρ++τ
 |[],[],_,_=>rfl
 |[],_::_,_,_=>rfl
 |_::_,[],_,_=>rfl
 | j::r,c::cs,ρ,h=>by
  unfold eK
  rw[List.set_append_left _ _ (h j List.mem_cons_self)]
  exact nF fun i hi=>by rw[List.length_set];exact h i (List.mem_cons_of_mem _ hi)
theorem dB{env:Env}:∀{names:List (Str×NameKind)}{x:Str},names.lookup x=some .free →
  (names.map fun (n,k)=>if(k == NameKind.free && env.scope.kind == .function && env.kindOf n == some .cell)then(n,NameKind.cell)else(n,k)).lookup x=some .cell ∨
  (names.map fun (n,k)=>if(k == NameKind.free && env.scope.kind == .function && env.kindOf n == some .cell)then(n,NameKind.cell)else(n,k)).lookup x=some .free
 |[],_,h=>by simp at h
 | (n,k)::r,x,h=>by
  have ih:=@dB env r x
  rw[List.map_cons]
  cases hx:x == n with
  | true =>
   simp only[List.lookup_cons,hx]at h
   cases h
   dsimp only
   by_cases hc:(NameKind.free == NameKind.free && env.scope.kind == .function && env.kindOf n == some .cell)=true
   ·
    left;rw[if_pos hc];simp[List.lookup_cons,hx]
   ·
    right;rw[if_neg hc];simp[List.lookup_cons,hx]
  | false =>
   simp only[List.lookup_cons,hx]at h
   dsimp only
   by_cases hc:(k == NameKind.free && env.scope.kind == .function && env.kindOf n == some .cell)=true
   ·
    rw[if_pos hc];simp only[List.lookup_cons,hx];exact ih h
   ·
    rw[if_neg hc];simp only[List.lookup_cons,hx];exact ih h
theorem eV{env:Env}:∀{names:List (Str×NameKind)}{x:Str}{k:NameKind},(∀y∈names,y.2≠.cell)→(k=.cell∨k=.free) →
  (names.map fun (n,k)=>if(k == NameKind.free && env.scope.kind == .function && env.kindOf n == some .cell)then(n,NameKind.cell)else(n,k)).lookup x=some k→(x,NameKind.free)∈names
 |[],_,_,_,_,h=>by simp at h
 | (n,k0)::r,x,k,hc,hk,h=>by
  rw[List.map_cons]at h
  dsimp only at h
  by_cases q:(k0 == NameKind.free && env.scope.kind == .function && env.kindOf n == some .cell)=true
  ·
   rw[if_pos q,List.lookup_cons]at h
   have e0:k0=.free:=by
    have:=(Bool.and_eq_true_iff.mp (Bool.and_eq_true_iff.mp q).1).1
    simpa using this
   split at h
   ·
    rename_i e
    have:x=n:=by simpa using e
    subst this e0
    exact List.mem_cons_self
   ·
    exact List.mem_cons_of_mem _ (eV (fun y hy=>hc y (List.mem_cons_of_mem _ hy)) hk h)
  ·
   rw[if_neg q,List.lookup_cons]at h
   split at h
   ·
    rename_i e
    have:x=n:=by simpa using e
    subst this
    have e1:k0=k:=by simpa using h
    subst e1
    rcases hk with z|z
    ·
     exact absurd z (hc (x,k0) List.mem_cons_self)
    ·
     subst z;exact List.mem_cons_self
   ·
    exact List.mem_cons_of_mem _ (eV (fun y hy=>hc y (List.mem_cons_of_mem _ hy)) hk h)
section
variable{prog:Program}{w:World}{A:Around}{R:Result→Shared→Prop}
theorem wG{elt target iter:Expr}{ifs:List Expr}{scope:Scope}{pos:Pos}{it acc:Value}{env:Env}(I:Nat→Shared→Prop)
  (turn:∀n s,I n s→wpAny (model prog w) A (pyNext it) (fun r s₁=>match r with
   |none=>R (.ok .next) s₁
   | some v=>wpAny (model prog w) A (letOwnedTupleGo target it v) (fun _ s₀=>wpAny (model prog w) A (assign target env v) (fun _ s₂ =>
     wpAny (model prog w) A (forIn ifs true fun c r=>if r=true then do let ok ← isTrue c env (eval c env);pure (ForInStep.yield ok)else pure (ForInStep.yield r)) (fun ok s₃ =>
      if ok=true then wpAny (model prog w) A (eval elt env) (fun x s₄ =>
       wpAny (model prog w) A (call (.builtin "list.append") [acc,x]) (fun _ s₅=>∃ m,m < n∧I m s₅) (fun _ _=>False) s₄) (fun _ _=>False) s₃
      else ∃m,m<n∧I m s₃) (fun _ _=>False) s₂) (fun _ _=>False) s₀) (fun _ _=>False) s₁) (fun _ _=>False) s)
  (n:Nat) {s:Shared} (h:I n s) :
  codeAny (model prog w) A (.compLoop (.ListComp elt [⟨target,iter,ifs,0⟩] scope pos) 0 it acc env) R s:=by
 refine codeAny_loop rfl I (fun n s hI=>?_) n h
 show wpAny _ A ((compTurn (.ListComp elt [⟨target,iter,ifs,0⟩] scope pos) 0 it acc env).onRaise (fun x=>do noteFrame x env;theTreesLotGoes x)) _ _ s
 refine wpAny_noted ?_
 rw[compTurn_list]
 have fe:∀{α:Type}{t:Sem α}{Q:α→Shared→Prop}{E:Value→Shared→Prop}{s:Shared},wpAny (model prog w) A t Q (fun _ _=>False) s→wpAny (model prog w) A t Q E s:=fun h=>wpAny_mono h (fun _ _ q=>q) fun _ _ z=>z.elim
 refine wpAny_bind (wpAny_standAt (wpAny_bind (wpAny_mono (turn n s hI) (fun r s₁ h₁=>?_) fun _ _ h'=>h'.elim)))
 cases r with
 |none=>exact wpAny_pure h₁
 | some v =>
  refine wpAny_bind (wpAny_mono h₁ (fun _ s₀ h₀=>?_) fun _ _ z=>z.elim)
  refine wpAny_bind (wpAny_mono h₀ (fun _ s₂ h₂=>wpAny_bind (wpAny_mono h₂ (fun ok s₃ h₃=>?_) fun _ _ h'=>h'.elim)) fun _ _ h'=>h'.elim)
  cases ok with
  |false=>exact wpAny_pure ⟨rfl,h₃⟩
  | true =>
   exact wpAny_bind (wpAny_bind (wpAny_mono h₃ (fun x s₄ h₄=>wpAny_bind (wpAny_mono h₄ (fun _ s₅ h₅=>wpAny_pure (wpAny_pure ⟨rfl,h₅⟩)) fun _ _ h'=>h'.elim)) fun _ _ h'=>h'.elim))
end
def PTc(X:Cx)(tg:Expr)(n:Nat)(g:Tg):Prop:=∃gg:TG,PG X tg gg∧∀v σ H Pr ρ x k,σ.length=X.N.length→REnv X.K Pr H σ ρ→Rep X.K H v x→g x ρ k→gg v σ H fun σ' H'=>H'=H∧σ'.drop n=σ.drop n∧∃ρ',REnv X.K Pr H σ' ρ'∧k ρ'
theorem lT{X:Cx}{i n:Nat}{x:Str}{pos:Pos}(hn:i<n)(hN:X.N.Nodup)(hi:X.N[i]?=some x)(hx:Loc X.env.scope x)(hf:X.fn x=true∨X.env.scope.names.lookup x=some .local:=by first|exact .inl rfl|exact .inr rfl|assumption):PTc X (.Name x pos) n (bQ i) :=
 ⟨_,nW hN hi hx hf,fun v σ H Pr ρ x k hl E r h=>⟨rfl,by rw[List.drop_set_of_lt hn],_,(E.cons_d r).store (by rw[hl];exact(List.getElem?_eq_some_iff.mp hi).1),h⟩⟩
def PIf(X:Cx)(ifs:List Expr)(t:W Bool):Prop :=
 ∀(pins:List (Addr×Obj))(s:Shared)(σ:St)(H Pr:Hp)(ρ:Ev)(post:Bool→Ev→Prop),Inv X pins σ H s→REnv X.K Pr H σ ρ→t ρ post →
  wpAny (model X.prog X.w) X.A (forIn ifs true fun c r=>if r=true then do let ok ← isTrue c X.env (eval c X.env);pure (ForInStep.yield ok)else pure (ForInStep.yield r)) (EB X pins σ Pr post) X.xe s
def ou:W Bool:=fun ρ post=>post true ρ
theorem lU{X:Cx}:PIf X [] ou:=fun pins s σ H Pr ρ post I E h=>wpAny_tests_nil ⟨H,ρ,I,E,h⟩
theorem By{X:Cx}{c:Expr}{t:W Bool}(h:PB X c t):PIf X [c] t:=fun pins s σ H Pr ρ post I E ht=>wpAny_tests_one (h pins s σ H Pr ρ post I E ht)
def eL(g:Tg)(ti:W Bool)(te:W L):List D→Ev→List D→(List D→Ev→Prop)→Prop
 |[],ρ,acc,k=>k acc ρ
 |x::xs,ρ,acc,k=>g x ρ fun ρ1=>ti ρ1 fun b ρ2=>if b=true then te ρ2 fun r ρ3=>toD r fun y=>eL g ti te xs ρ3 (acc++[y]) k else eL g ti te xs ρ2 acc k
def oy(n:Nat)(fi:List Nat)(src:W (List D))(g:Tg)(ti:W Bool)(te:W L):W L:=fun ρ post=>src ρ fun xs ρ1=>xs.length≤sizeLine ∧
 eL g ti te xs (List.replicate n .un++bV fi ρ1) [] fun ys ρb=>∀a,post (.own a ys) (eK fi (ρb.drop n) (a9 fi ρ1))
section
variable{X:Cx}
theorem wH{elt tg iter:Expr}{ifs:List Expr}{scope sc:Scope}{pos:Pos}{N Nt Nf:List Str}{fi:List Nat}{src:W (List D)}{g:Tg}{ti:W Bool}{te:W L}
  (hsc:X.env.scope=sc) (hXN:X.N=N) (hc:X.calm=true) (hi:PIL X tg iter src)
  (hkind:scope.kind=.function) (hnames:∀x∈scope.names,x.2=.local→scope.names.lookup x.1=some .local) (hcell:∀y∈scope.names,y.2≠.cell)
  (hfr:∀x∈scope.names,x.2=.free→sc.names.lookup x.1=some .cell∨sc.names.lookup x.1=some .free)
  (hnd:fi.Nodup) (hNf:Nf.map some=fi.map (fun j=>N[j]?)) (hNk:∀x∈Nf,scope.names.lookup x=some .free) (hfl:∀j∈fi,j<N.length)
  (hg:∀cl s₀ H₀ fp,PTc (jC X scope cl (Nt++Nf) s₀ H₀ fp) tg Nt.length g) (hti:∀cl s₀ H₀ fp,PIf (jC X scope cl (Nt++Nf) s₀ H₀ fp) ifs ti) (hte:∀cl s₀ H₀ fp,PL (jC X scope cl (Nt++Nf) s₀ H₀ fp) elt te)
  {pins:List (Addr×Obj)} {s:Shared} {σ:St} {H Pr:Hp} {ρ:Ev} {post:L→Ev→Prop} {use:Option (Value→Sem Unit)} {Q:Value→Shared→Prop} (I:Inv X pins σ H s) (E:REnv X.K Pr H σ ρ) (h:oy Nt.length fi src g ti te ρ post)
  (hRR:∀D C s7 H6 acc ρ'' m,Inv X pins σ H6 s7→s7.heap.Ns C m→H6 C=none→C≠X.env.locals→X.s₀.heap.objs.size≤C→(∀x c,X.env.cells.lookup x=some c→c≠C)→(∀p∈X.pn++pins,p.1≠C)→REnv X.K Pr H6 (some (.ref D)::σ) (.own D acc::ρ'')→post (.own D acc) ρ'' →
   compPost (model X.prog X.w) X.A X.xe use Q (.ref D) C (.ok .next) s7)
  (hs:∀x,foldedSetIterable iter X.env x=pure x):wpAny (model X.prog X.w) X.A (comprehension (.ListComp elt [⟨tg,iter,ifs,0⟩] scope pos) scope X.env (firstIterPos [⟨tg,iter,ifs,0⟩] pos) (newList []) false (eval iter X.env) use) Q X.xe s:=by
 have hcells:∀x∈scope.names,x.2=.free→∃c,X.env.cells.lookup x.1=some c:=fun x hx hk=>I.ok.has x.1 (by
  show X.env.scope.names.lookup x.1=_∨X.env.scope.names.lookup x.1=_
  rw[hsc];exact hfr x hx hk)
 have hsub:=tS (cells:=X.env.cells) scope.names [] (fun x c e=>by simp at e)
 refine wpAny_comprehension_free (use:=use) rfl hs (oj hcells) hkind hnames (thn (hi pins s σ H Pr ρ _ I E h) fun v s1 h1=>thn h1 fun itv s2 h2=>?_)
 obtain⟨it,fp,tn,J,H2,xs,ρ2,e,I2,T,st2,f2,E2,G,hlen,w0⟩:=h2
 subst e
 refine wpAny_newObj_type (T:="list") ?_
 generalize hD:s2.heap.objs.size=D
 have fD:H2 D=none:=by rw[← hD];exact I2.fresh
 have I3:Inv X pins σ (upd H2 D (.lst [])) {s2 with heap:=s2.heap.push {cls:=.type "list",dict:=none,data:=.seq ([]:List Value).toArray} }:=by
  have:=Inv.lnew (ys:=[]) (its:=[]) (t':=s2.toks) I2 .nil (Nat.zero_le _)
  rw[hD]at this
  exact this
 have E3:=E2.cons_own (p:=D) (vs:=[]) (xs:=[]) fD .nil
 have sz3:(s2.heap.push {cls:=.type "list",dict:=none,data:=.seq ([]:List Value).toArray}).objs.size=D+1:=by rw[Heap.size_push,hD]
 generalize hs3:({s2 with heap:=s2.heap.push {cls:=.type "list",dict:=none,data:=.seq ([]:List Value).toArray} }:Shared)=s3 at I3
 have hs3h:s3.heap=s2.heap.push {cls:=.type "list",dict:=none,data:=.seq ([]:List Value).toArray}:=by rw[← hs3]
 have fpD:∀b∈fp,b≠D:=fun b hb=>by
  obtain⟨o,e,_⟩:=T.obj 0 _ st2 b hb
  rw[← hD];exact Nat.ne_of_lt (Heap.lt_size e)
 have old3:∀b o,s2.heap.get? b=some o→s3.heap.get? b=some o:=fun b o e=>by rw[hs3h];exact Heap.get?_push_of_some _ e
 refine wpAny_newFunctionEnv (around:=some X.env) hcell (by intro y hy;simp at hy) (fun h4 hns4 hsb4=>?_) hkind
 have hns4':h4.Ns s3.heap.objs.size (fun _=>none):=by
  have:(fun x=>(([]:List (Str×Value)).reverse.lookup x))=fun _=>(none:Option Value):=by funext x;rfl
  rw[this]at hns4
  exact hns4
 have old4:∀b o,s3.heap.get? b=some o→h4.get? b=some o:=fun b o e=>by
  rw[hsb4.2 b (Nat.ne_of_lt (Heap.lt_size e))];exact Heap.get?_push_of_some _ e
 have hσl:σ.length=N.length:=by rw[← hXN];exact I.len
 have hρ2:σ.length=ρ2.length:=E2.len
 have hjσ:∀j∈fi,j<σ.length:=fun j hj=>by rw[hσl];exact hfl j hj
 have hjρ:∀j∈fi,j<ρ2.length:=fun j hj=>by rw[← hρ2];exact hjσ j hj
 have hfpl:∀b∈fp,b<s3.heap.objs.size:=fun b hb=>by
  obtain⟨o,e,_⟩:=T.obj 0 _ st2 b hb
  exact Heap.lt_size (old3 b o e)
 have hlNf:Nf.length=fi.length:=by have:=congrArg List.length hNf;simpa using this
 have Bok:(jC X scope (clOf X.env.cells scope.names []) (Nt++Nf) s3 (upd H2 D (.lst [])) fp).Ok:=by
  refine⟨I3.ok.mod,hkind,I.ok.glob,I.ok.blt,Nat.le_refl _,fun x y c e1 e2=>I.ok.inj x y c (hsub x c e1) (hsub y c e2),fun x hx=>?_,fun x c hf _=>(Bool.false_ne_true hf).elim,I.ok.hd,I.ok.frames,.inl rfl,fun b hb=>⟨Nat.ne_of_lt (hfpl b hb),fun x c e=>(f2 b hb).2.2.2.2.1 x c (hsub x c e)⟩,I3.bs,Nat.le_trans I.ok.bsz I3.sz,fun b o e hb=>?_,fun b hb hm=>?_,I3.stack,I3.stkFree,I3.tbs⟩
  ·
   have hm:(x,NameKind.free)∈scope.names:=by
    rcases hx with hx|hx
    ·
     exact eV (env:=X.env) hcell (.inl rfl) hx
    ·
     exact eV (env:=X.env) hcell (.inr rfl) hx
   exact om scope.names [] x (.inr ⟨hm,hcells _ hm rfl⟩)
  ·
   rcases(f2 b hb).2.2.2.1 with z|z
   ·
    exact I.ok.noex b o e z
   ·
    exact absurd (Nat.lt_of_lt_of_le (Heap.lt_size (I.ok.bs b o e).1) z) (Nat.lt_irrefl _)
  ·
   rcases List.mem_cons.mp (I3.stkSub b hm)with z|z
   ·
    exact(f2 b hb).2.1 z
   ·
    exact(f2 b hb).2.2.1 z
 have I4:Inv (jC X scope (clOf X.env.cells scope.names []) (Nt++Nf) s3 (upd H2 D (.lst [])) fp) [] (List.replicate Nt.length none++bH fi σ) (upd H2 D (.lst [])) {s3 with heap:=h4,toks:=s3.toks+([]:List (Str×Value)).length}:=by
  refine⟨Bok,rfl,I3.bare,Un.kept old4,⟨_,hns4',fun i x v e1 e2 e3=>?_⟩,fun x c e=>?_,I3.fresh,fun x c e=>(I3.freeC x c (hsub x c e)).imp id fun z=>⟨rfl,z.2⟩,fun p hp=>absurd (show p∈([]:List (Addr×Obj))from hp) (by simp),I3.hok.kept old4,?_⟩
  ·
   have e1:(Nt++Nf)[i]?=some x:=e1
   have hi':Nt.length≤i:=by
    by_cases q:i<Nt.length
    ·
     rw[List.getElem?_append_left (by simpa using q),List.getElem?_replicate]at e2
     split at e2<;>cases e2
    ·
     omega
   rw[List.getElem?_append_right hi']at e1
   rw[List.getElem?_append_right (by simpa using hi')]at e2
   simp only[List.length_replicate]at e2
   generalize i-Nt.length=k at e1 e2
   have hk:k<fi.length:=by
    have:=(List.getElem?_eq_some_iff.mp e1).1
    omega
   have e4:(Nf.map some)[k]?=(fi.map fun j=>N[j]?)[k]?:=by rw[hNf]
   rw[List.getElem?_map,List.getElem?_map,e1,List.getElem?_eq_getElem hk]at e4
   have e5:N[fi[k]]?=some x:=by simpa using e4.symm
   have e6:σ[fi[k]]?=some (some v):=by
    unfold bH at e2
    rw[List.getElem?_map,List.getElem?_eq_getElem hk]at e2
    have hjl:=hjσ fi[k] (List.getElem_mem hk)
    rw[List.getElem?_eq_getElem hjl]
    simpa[List.getElem?_eq_getElem hjl]using e2
   have hxm:x∈Nf:=List.mem_of_getElem? e1
   have hfree:=hNk x hxm
   have hmem:(x,NameKind.free)∈scope.names:=PySem.mem_of_lookup hfree
   have hkx:=hfr _ hmem rfl
   obtain⟨m,_,hl⟩:=I3.loc
   obtain⟨u,ru,lk⟩:=hl fi[k] x v (by rw[hXN];exact e5) e6 (by rw[hsc];exact .inr hkx)
   refine⟨u,ru,.inr ⟨dB (env:=X.env) hfree,?_⟩⟩
   rcases lk with⟨z,_⟩|⟨_,c,hc1,hc2⟩
   ·
    have z:X.env.scope.names.lookup x=some .local:=z
    rw[hsc]at z
    rcases hkx with q|q
    ·
     rw[z]at q;cases q
    ·
     rw[z]at q;cases q
   ·
    obtain⟨d,hd⟩:=om (cells:=X.env.cells) scope.names [] x (.inr ⟨hmem,c,hc1⟩)
    have:d=c:=by have:=hsub x d hd;rw[hc1]at this;exact(Option.some.inj this).symm
    subst this
    obtain⟨o,ho,hdd⟩:=hc2
    exact⟨d,hd,o,old4 _ o ho,hdd⟩
  ·
   obtain⟨v,o,ho,hd⟩:=I3.cell x c (hsub x c e)
   exact⟨v,o,old4 c o ho,hd⟩
  ·
   show(List.replicate Nt.length none++bH fi σ).length=(Nt++Nf).length
   simp[bH,hlNf]
 have E4:REnv X.K Pr (upd H2 D (.lst [])) (some (.ref D)::(σ++(List.replicate Nt.length none++bH fi σ))) (.own D []::(a9 fi ρ2++(List.replicate Nt.length .un++bV fi ρ2))):=by
  have a1:REnv X.K Pr (upd H2 D (.lst [])) (σ++[some (.ref D)]) (ρ2++[.own D []]):=E3.rearr (by simp[hρ2]) [] (by
   rw[List.append_nil,List.zip_append hρ2]
   exact(List.perm_append_comm (l₁:=[(some (V.ref D),L.own D [])]) (l₂:=σ.zip ρ2)))
  have a2:=a1.takes fi hnd fun j hj=>by have:=hjρ j hj;simp;omega
  rw[p7 hjσ,u7 hjρ,p8 hjρ]at a2
  have a3:=a2.uns Nt.length
  have hcl:(bH fi σ).length=(bV fi ρ2).length:=by simp[bH,bV]
  have hul:σ.length=(a9 fi ρ2).length:=by rw[dA];exact hρ2
  refine a3.rearr (by simp[hul,hcl]) [] ?_
  have l1:(bH fi σ++(σ++[some (V.ref D)])++List.replicate Nt.length none).zip (bV fi ρ2++(a9 fi ρ2++[L.own D []])++List.replicate Nt.length L.un)=((bH fi σ).zip (bV fi ρ2)++(σ.zip (a9 fi ρ2)++[(some (V.ref D),L.own D [])]))++(List.replicate Nt.length none).zip (List.replicate Nt.length L.un):=by
   rw[List.zip_append (by simp only[List.length_append,hcl,hul];rfl),List.zip_append hcl,List.zip_append hul]
   rfl
  have l2:(some (V.ref D)::(σ++(List.replicate Nt.length none++bH fi σ))).zip (L.own D []::(a9 fi ρ2++(List.replicate Nt.length L.un++bV fi ρ2)))=(some (V.ref D),L.own D [])::(σ.zip (a9 fi ρ2)++((List.replicate Nt.length none).zip (List.replicate Nt.length L.un)++(bH fi σ).zip (bV fi ρ2))):=by
   rw[List.zip_cons_cons,List.zip_append hul,List.zip_append (by simp)]
  rw[List.append_nil,l1,l2]
  generalize (bH fi σ).zip (bV fi ρ2)=z1
  generalize σ.zip (a9 fi ρ2)=z2
  generalize (List.replicate Nt.length none).zip (List.replicate Nt.length L.un)=z3
  show(z1++(z2++[(some (V.ref D),L.own D [])])++z3).Perm ((some (V.ref D),L.own D [])::(z2++(z3++z1)))
  have p1:(z1++(z2++[(some (V.ref D),L.own D [])])++z3).Perm ((z2++[(some (V.ref D),L.own D [])])++z3++z1):=by
   rw[List.append_assoc]
   exact List.perm_append_comm
  refine p1.trans ?_
  rw[List.append_assoc,List.append_assoc]
  exact List.perm_middle
 clear E3
 let B:Cx:=jC X scope (clOf X.env.cells scope.names []) (Nt++Nf) s3 (upd H2 D (.lst [])) fp
 have hul:σ.length=(a9 fi ρ2).length:=by rw[dA];exact hρ2
 have stat:∀{H':Hp},(∀b∈fp,H' b=none)→∀b∈fp,FpOk B [] H' b:=fun hn b hb=>by
  refine⟨hn b hb,Nat.ne_of_lt (hfpl b hb),fun hm=>?_,.inl hb,fun x c e=>(f2 b hb).2.2.2.2.1 x c (hsub x c e),fun p hp=>absurd (show p∈([]:List (Addr×Obj))from hp) (by simp)⟩
  rcases List.mem_cons.mp (I3.stkSub b hm)with z|z
  ·
   exact(f2 b hb).2.1 z
  ·
   exact(f2 b hb).2.2.1 z
 have loop:∀s5:Shared,s5={s3 with heap:=h4,toks:=s3.toks+([]:List (Str×Value)).length}→codeAny (model X.prog X.w) X.A (.compLoop (.ListComp elt [⟨tg,iter,ifs,0⟩] scope pos) 0 (.ref it) (.ref D) B.env)
   (compPost (model X.prog X.w) X.A X.xe use Q (.ref D) s3.heap.objs.size) s5:=by
  rintro s5 rfl
  refine wG (fun n s'=>∃i σ' H' ρ' acc,n+i=xs.length∧Inv B [] σ' H' s'∧tn i s'.heap∧(∀b∈fp,H' b=none)∧σ'.drop Nt.length=bH fi σ∧REnv X.K Pr H' (some (.ref D)::(σ++σ')) (.own D acc::(a9 fi ρ2++ρ'))∧acc.length≤i ∧
   eL g ti te (xs.drop i) ρ' acc fun ys ρb=>∀a,post (.own a ys) (eK fi (ρb.drop Nt.length) (a9 fi ρ2))) ?_ xs.length
   ⟨0,_,_,_,[],by omega,I4,T.keep 0 _ _ st2 fun b hb o e=>old4 b o (old3 b o e),fun b hb=>by rw[ay (fpD b hb)];exact(f2 b hb).1,by simp,E4,Nat.le_refl _,by simpa using w0⟩
  rintro n s6 ⟨i,σ6,H6,ρ6,acc,hn,I6,st6,fr6,dr6,E6,hal,w6⟩
  have pr:Pres H2 H6:=fun b o p e=>by
   have ne:b≠D:=fun z=>by rw[z,fD]at e;cases e
   have e':B.H₀ b=some o:=by show upd H2 D (.lst []) b=some o;rw[ay ne];exact e
   cases o with
   |tup ys=>exact I6.base.tups b ys e'
   |frz ob u=>exact I6.base.frzs b ob u e'
   |tbl t=>exact I6.base.tbls b t e'
   |_=>exact p.elim
  obtain⟨go,stop⟩:=G H6 pr
  have hτ:(some (V.ref D)::σ).length=(L.own D acc::a9 fi ρ2).length:=by simp[hul]
  by_cases hlt:i<xs.length
  ·
   obtain⟨hgo,hy⟩:=go i xs[i] (List.getElem?_eq_getElem hlt)
   rw[List.drop_eq_getElem_cons hlt]at w6
   refine thn (T.item B rfl rfl rfl hc i [] s6 σ6 H6 (fun _ _=>False) I6 (stat fr6) st6 hgo) fun r s7 ⟨u,hr,h7⟩=>?_
   subst hr
   refine thn h7 fun _ s8 ⟨x,H8,I8,r8,y8,st8,fr8⟩=>?_
   obtain⟨gr,rx⟩:=hy x H8 y8
   have I8':=I8.pinned (stat fr8) (T.obj _ _ st8)
   have E8:=E6.grown gr
   have E8a:REnv X.K (aS H8 ρ6) H8 σ6 ρ6:=(REnv.drop (τ:=some (V.ref D)::σ) (lam:=L.own D acc::a9 fi ρ2) E8 hτ).wide
   obtain⟨gg,hgg,hgs⟩:=hg (clOf X.env.cells scope.names []) s3 (upd H2 D (.lst [])) fp
   refine thn (hgg _ s8 σ6 H8 x u _ I8' r8 (hgs x σ6 H8 _ ρ6 xs[i] _ I8.len E8a rx w6)) fun _ s9 ⟨σ9,H9,I9,e9,dr9,ρ9,E9,q9⟩=>?_
   subst e9
   have F9:REnv X.K Pr H9 (some (V.ref D)::(σ++σ9)) (L.own D acc::(a9 fi ρ2++ρ9)):=REnv.step (τ:=some (V.ref D)::σ) (lam:=L.own D acc::a9 fi ρ2) (w:=[]) (μ:=[]) E8 hτ E9 rfl
   have F9a:REnv X.K (aS H9 ρ9) H9 σ9 ρ9:=(REnv.drop (τ:=some (V.ref D)::σ) (lam:=L.own D acc::a9 fi ρ2) F9 hτ).wide
   refine thn (hti _ _ _ _ _ s9 σ9 H9 _ ρ9 _ I9 F9a q9) fun ok sA ⟨HA,ρA,IA,EA,qA⟩=>?_
   have FA:REnv X.K Pr HA (some (V.ref D)::(σ++σ9)) (L.own D acc::(a9 fi ρ2++ρA)):=REnv.step (τ:=some (V.ref D)::σ) (lam:=L.own D acc::a9 fi ρ2) (w:=[]) (μ:=[]) F9 hτ EA rfl
   have again:∀{sZ:Shared}{HZ:Hp}{ρZ:Ev}{acc':List L2.D},Inv B ([]++pJ fp s8.heap) σ9 HZ sZ→REnv X.K Pr HZ (some (.ref D)::(σ++σ9)) (.own D acc'::(a9 fi ρ2++ρZ))→acc'.length≤i+1 →
     (eL g ti te (xs.drop (i+1)) ρZ acc' fun ys ρb=>∀a,post (.own a ys) (eK fi (ρb.drop Nt.length) (a9 fi ρ2)))→∃m,m<n∧∃i σ' H' ρ' acc,m+i=xs.length∧Inv B [] σ' H' sZ∧tn i sZ.heap∧(∀b∈fp,H' b=none)∧σ'.drop Nt.length=bH fi σ ∧
     REnv X.K Pr H' (some (.ref D)::(σ++σ')) (.own D acc::(a9 fi ρ2++ρ'))∧acc.length≤i∧eL g ti te (xs.drop i) ρ' acc fun ys ρb=>∀a,post (.own a ys) (eK fi (ρb.drop Nt.length) (a9 fi ρ2)):=fun {sZ HZ ρZ acc'} IZ EZ hz qZ=>by
    refine⟨n-1,by omega,i+1,σ9,HZ,ρZ,acc',by omega,IZ.unpinned,T.keep _ _ _ st8 fun b hb o e=>(IZ.pin (b,o) (List.mem_append_right _ (List.mem_append_right _ (g6 hb e)))).1,fun b hb=>?_,dr9.trans dr6,EZ,hz,qZ⟩
    obtain⟨o,e,d⟩:=T.obj _ _ st8 b hb
    exact(IZ.pin (b,o) (List.mem_append_right _ (List.mem_append_right _ (g6 hb e)))).2.1
   cases ok with
   | false =>
    rw[if_neg Bool.false_ne_true]at qA ⊢
    exact again IA FA (by omega) qA
   | true =>
    rw[if_pos rfl]at qA ⊢
    have FAa:REnv X.K (aS HA ρA) HA σ9 ρA:=(REnv.drop (τ:=some (V.ref D)::σ) (lam:=L.own D acc::a9 fi ρ2) FA hτ).wide
    refine thn (hte _ _ _ _ _ sA σ9 HA _ ρA _ IA FAa qA) fun ux sB qB=>?_
    obtain⟨vy,HB,y,ρB,IB,rB,EB,qB⟩:=EL.frz (X:=B) (post:=fun y ρ3=>eL g ti te (xs.drop (i+1)) ρ3 (acc++[y]) fun ys ρb=>∀a,post (.own a ys) (eK fi (ρb.drop Nt.length) (a9 fi ρ2))) qB
    have FB:REnv X.K Pr HB (some vy::(some (V.ref D)::(σ++σ9))) (.d y::(L.own D acc::(a9 fi ρ2++ρB))):=REnv.step (τ:=some (V.ref D)::σ) (lam:=L.own D acc::a9 fi ρ2) (w:=[some vy]) (μ:=[.d y]) FA hτ EB rfl
    obtain⟨_,e1,p1⟩:=FB.head_d
    cases e1
    have slB:=FB.tail.sl
    cases slB with
    | cons q0 _ =>
     obtain⟨_,vs,hDB,rvs⟩:=q0
     refine thn (pR (X:=B) _ sB σ9 HB (.ref D) [vy] (.ref D) [ux] (fun z H'=>H'=upd HB D (.lst (vs++[vy]))) IB rfl (.cons rB .nil) ⟨D,vs,vy,rfl,rfl,hDB,by rw[rvs.length];omega,rfl⟩) fun _ sC ⟨z,HC,IC,_,eC⟩=>?_
     subst eC
     exact again IC (FB.tail.write (rvs.append (.cons p1 .nil))) (by simp;omega) qB
  ·
   have e:i=xs.length:=by omega
   subst e
   refine thn (T.done B rfl rfl rfl hc xs.length [] s6 σ6 H6 (fun _ _=>False) I6 (stat fr6) st6 stop) fun r s7 ⟨hr,I7⟩=>?_
   subst hr
   rw[List.drop_length]at w6
   obtain⟨m,hm,_⟩:=id I7.loc
   have I8:Inv X pins σ H6 s7:=I3.call' (ch:=fp) I7.os I7.base I7.hok I7.bare fun b hb=>⟨(f2 b hb).2.2.2.1,(f2 b hb).2.1,(f2 b hb).2.2.2.2.1,(f2 b hb).2.2.2.2.2⟩
   have f4:=I3.fpOk (H':=H6) (b:=s3.heap.objs.size) (Nat.le_refl _) I7.free
   ·
    have hlen6:σ6.length=ρ6.length:=(REnv.drop (τ:=some (V.ref D)::σ) (lam:=L.own D acc::a9 fi ρ2) E6 hτ).len
    have a1:REnv X.K Pr H6 (bH fi σ++(σ++[some (V.ref D)])) (ρ6.drop Nt.length++(a9 fi ρ2++[L.own D acc])):=by
     have hcd:(bH fi σ).length=(ρ6.drop Nt.length).length:=by rw[← dr6,List.length_drop,List.length_drop,hlen6]
     refine E6.rearr (by simp[hcd,hul,hlen6]) ((σ6.take Nt.length).zip (ρ6.take Nt.length)) ?_
     have l0:σ6.zip ρ6=(σ6.take Nt.length).zip (ρ6.take Nt.length)++(bH fi σ).zip (ρ6.drop Nt.length):=by
      rw[← dr6,← List.zip_append (by simp[hlen6]),List.take_append_drop,List.take_append_drop]
     have l1:(some (V.ref D)::(σ++σ6)).zip (L.own D acc::(a9 fi ρ2++ρ6))=(some (V.ref D),L.own D acc)::(σ.zip (a9 fi ρ2)++σ6.zip ρ6):=by rw[List.zip_cons_cons,List.zip_append hul]
     have l2:(bH fi σ++(σ++[some (V.ref D)])).zip (ρ6.drop Nt.length++(a9 fi ρ2++[L.own D acc]))=(bH fi σ).zip (ρ6.drop Nt.length)++(σ.zip (a9 fi ρ2)++[(some (V.ref D),L.own D acc)]):=by
      rw[List.zip_append hcd,List.zip_append hul];rfl
     rw[l1,l2,l0]
     generalize (bH fi σ).zip (ρ6.drop Nt.length)=z1
     generalize σ.zip (a9 fi ρ2)=z2
     generalize (σ6.take Nt.length).zip (ρ6.take Nt.length)=z3
     have p1:((some (V.ref D),L.own D acc)::(z2++(z3++z1))).Perm ((z2++[(some (V.ref D),L.own D acc)])++(z3++z1)):=by
      rw[List.append_assoc]
      exact List.perm_middle.symm
     refine p1.trans ?_
     have p2:((z2++[(some (V.ref D),L.own D acc)])++(z3++z1)).Perm ((z3++z1)++(z2++[(some (V.ref D),L.own D acc)])):=List.perm_append_comm
     refine p2.trans ?_
     rw[List.append_assoc]
     exact List.perm_append_comm
    have a2:=REnv.backs (σ:=σ++[some (V.ref D)]) (cs:=ρ6.drop Nt.length) (ρ:=a9 fi ρ2++[L.own D acc]) fi hnd (by rw[List.length_drop,← hlen6,← List.length_drop,dr6];simp[bH]) (fun j hj=>by
     rw[List.getElem?_append_left (by rw[dA];exact hjρ j hj)];exact tR fi ρ2 j hj (hjρ j hj)) (fun j hj=>by have:=hjσ j hj;simp;omega) (by rw[p7 hjσ];exact a1)
    rw[nF fun j hj=>by rw[dA];exact hjρ j hj]at a2
    have hpl:σ.length=(eK fi (ρ6.drop Nt.length) (a9 fi ρ2)).length:=by have:=a2.len;simpa using this
    refine hRR D s3.heap.objs.size s7 H6 acc (eK fi (ρ6.drop Nt.length) (a9 fi ρ2)) m I8 hm f4.1 f4.2.1 I3.sz f4.2.2.2.2.1 f4.2.2.2.2.2 (a2.rearr (by simp[hpl]) [] ?_) (w6 D)
    rw[List.append_nil,List.zip_append hpl,List.zip_cons_cons]
    exact List.perm_append_comm (l₂:=[(some (V.ref D),L.own D acc)])
 exact codeAny_compStart_list (loop _ rfl) (T.self _ 0 _ _ _ (T.keep 0 _ _ st2 fun b hb o e=>old4 b o (old3 b o e)) (loop _ rfl))
theorem ko{elt tg iter:Expr}{ifs:List Expr}{scope sc:Scope}{pos:Pos}{N Nt Nf:List Str}{fi:List Nat}{src:W (List D)}{g:Tg}{ti:W Bool}{te:W L}
  (hsc:X.env.scope=sc) (hXN:X.N=N) (hc:X.calm=true) (hi:PIL X tg iter src)
  (hkind:scope.kind=.function) (hnames:∀x∈scope.names,x.2=.local→scope.names.lookup x.1=some .local) (hcell:∀y∈scope.names,y.2≠.cell)
  (hfr:∀x∈scope.names,x.2=.free→sc.names.lookup x.1=some .cell∨sc.names.lookup x.1=some .free)
  (hnd:fi.Nodup) (hNf:Nf.map some=fi.map (fun j=>N[j]?)) (hNk:∀x∈Nf,scope.names.lookup x=some .free) (hfl:∀j∈fi,j<N.length)
  (hg:∀cl s₀ H₀ fp,PTc (jC X scope cl (Nt++Nf) s₀ H₀ fp) tg Nt.length g) (hti:∀cl s₀ H₀ fp,PIf (jC X scope cl (Nt++Nf) s₀ H₀ fp) ifs ti) (hte:∀cl s₀ H₀ fp,PL (jC X scope cl (Nt++Nf) s₀ H₀ fp) elt te)
  (hs:∀x,foldedSetIterable iter X.env x=pure x:=by intro _;rfl):PL X (.ListComp elt [⟨tg,iter,ifs,0⟩] scope pos) (oy Nt.length fi src g ti te):=by
 intro pins s σ H Pr ρ post I E h
 rw[eval_ListComp]
 refine wH (use:=none) hsc hXN hc hi hkind hnames hcell hfr hnd hNf hNk hfl hg hti hte I E h (fun D C s7 H6 acc ρ'' m I7 hm h1 h2 h3 h4 h5 E7 p=>?_) hs
 exact⟨m,hm,fun h' hsb=>⟨.ref D,H6,_,ρ'',I7.turned (t':=s7.toks) (fun b o hb e=>(hsb.2 b hb).trans e) h1 (Ne.symm (Ne.symm h2)) (.inr h3) h4 h5,rfl,E7,p⟩⟩
end
section
variable{X:Cx}{e a b:Expr}{pos:Pos}{ta tb te:W L}{x y:Str}
def wPar(i j:Nat)(ta tb:W L):W Fl:=fun ρ post=>ta ρ fun r ρ1=>toD r fun v=>tb ρ1 fun r2 ρ2=>toD r2 fun w=>post .nx ((ρ2.set i (.d v)).set j (.d w))
theorem Dt{i j:Nat}{px py pt:Pos} {kt k2 pt2} (hc:X.calm=true) (hN:X.N.Nodup) (hi:X.N[i]?=some x) (hj:X.N[j]?=some y) (hij:i≠j)
  (hx:X.env.scope.names.lookup x=some .local) (hy:X.env.scope.names.lookup y=some .local) (ha:PL X a ta) (hb:PL X b tb)
  (hw:swappedStores [.Tuple [.Name x px,.Name y py] kt pt] (.Tuple [a,b] k2 pt2) X.env=pure (some [x,y]))
  (hs:swapsWithSole [.Tuple [.Name x px,.Name y py] kt pt] (.Tuple [a,b] k2 pt2) pos.line X.env=pure false:=by rfl)
  (h1:starEach [a,b] X.env=(false,eval a X.env)::starEach [b] X.env:=by rfl) (h2:starEach [b] X.env=[(false,eval b X.env)]:=by rfl) :
  PM X (.Assign [.Tuple [.Name x px,.Name y py] kt pt] (.Tuple [a,b] k2 pt2) pos) (wPar i j ta tb):=by
 refine PM.of (C1 hc hN hi hj hij hx hy (cb (au ha).pe (cb (au hb).pe ik h2) h1) hw hs) fun σ H Pr ρ post hlen E h=>?_
 refine⟨Pr,ρ,fun r ρ1=>match r with
  |.d v=>tb ρ1 fun r2 ρ2=>toD r2 fun w=>post .nx ((ρ2.set i (.d v)).set j (.d w))
  |_=>False,E,h,fun v H1 r ρ1 E1 pp=>?_⟩
 cases r with
 | d dv =>
  refine⟨aS H1 ρ1,ρ1,fun r ρ2=>match r with
   |.d w=>post .nx ((ρ2.set i (.d dv)).set j (.d w))
   |_=>False,E1.tail.wide,pp,fun w H2 r2 ρ2 E2 pp=>?_⟩
  cases r2 with
  | d dw =>
   have E3:REnv X.K Pr H2 (some w::some v::σ) (.d dw::.d dv::ρ2):=REnv.step (τ:=[some v]) (lam:=[.d dv]) (w:=[some w]) (μ:=[.d dw]) E1 rfl E2 rfl
   have il:i<σ.length:=by rw[hlen];exact(List.getElem?_eq_some_iff.mp hi).1
   have jl:j<σ.length:=by rw[hlen];exact(List.getElem?_eq_some_iff.mp hj).1
   obtain⟨_,e1,r1⟩:=E3.head_d
   cases e1
   have E4:REnv X.K Pr H2 (σ.set i (some v)) (ρ2.set i (.d dv)):=E3.tail.store il
   exact⟨v,w,rfl,_,(E4.cons_d r1).store (by simpa using jl),pp⟩
  |_=>exact pp.elim
 |_=>exact pp.elim
def Bz(is:List Nat)(te:W L):W Fl:=fun ρ post=>te ρ fun r ρ1=>toD r fun v=>jy is v ρ1 fun ρ2=>post .nx ρ2
theorem BA{tg:Expr}{is:List Nat}(hg:PT1 X tg (jy is))(he:PL X e te)(hs:swapsWithSole [tg] e pos.line X.env=pure false:=by rfl)(hw:swappedStores [tg] e X.env=pure none:=by rfl)
  (h1:(assignEach [tg] X.env).map (·.2)=[assign tg X.env]:=by rfl):PM X (.Assign [tg] e pos) (Bz is te):=by
 intro pins s σ H Pr ρ post I E h
 obtain⟨gg,hg,hgg⟩:=hg
 refine wpAny_Assign_stores (thn (he pins s σ H Pr ρ _ I E h) fun v s1 q=>?_) hs hw
 obtain⟨w,H1,d,ρ1,I1,r1,E1,q1⟩:=EL.frz (post:=fun d ρ1=>jy is d ρ1 fun ρ2=>post .nx ρ2) q
 rw[h1]
 obtain⟨_,e1,p1⟩:=E1.head_d
 cases e1
 exact thn (hg pins s1 σ H1 w v _ I1 r1 (hgg w σ H1 Pr ρ1 d _ I1.len E1.tail p1 q1)) fun _ s2 ⟨σ',H',I',e',_,ρ',E',q⟩=>by
  subst e'
  exact⟨σ',_,ρ',I',E',q⟩
def lV:D→Bool
 |.non=>true | .bl _=>true | .int _=>true | .str _=>true
 |_=>false
def eqF:D→D→Bool
 |.non,.non=>true
 |.bl a,.bl b=>a == b
 |.bl a,.int b=>(if a then 1 else 0) == b
 |.int a,.bl b=>a == (if b then 1 else 0)
 |.int a,.int b=>a == b
 |.str a,.str b=>a == b
 |_,_=>false
theorem oz{K:PySem.W.Frag}{H:Hp}{v:V}{d:D}(r:Rep K H v d)(h:lV d=true):mR v=true:=by
 cases r<;>first|rfl|(exact absurd h (by simp[lV]))
theorem Du{K:PySem.W.Frag}{H:Hp}{v w:V}{d f:D}(r:Rep K H v d)(q:Rep K H w f)(h:lV d=true)(h':lV f=true):eqV v w=eqF d f:=by
 cases r<;>cases q<;>first|rfl|(exact absurd h (by simp[lV]))|(exact absurd h' (by simp[lV]))
def inF(x:D)(ys:List D):Bool:=ys.any fun y=>eqF y x
theorem wJ{K:PySem.W.Frag}{H:Hp}{v:V}{x:D}(r:Rep K H v x)(h:lV x=true):∀{vs:List V}{ys:List D},Reps K H vs ys→ys.all lV=true→inV v vs=inF x ys∧vs.all mR=true
 |_,_,.nil,_=>⟨rfl,rfl⟩
 | _,_,.cons r0 t,ha=>by
  rw[List.all_cons,Bool.and_eq_true]at ha
  obtain⟨i1,i2⟩:=wJ r h t ha.2
  unfold inV inF at i1 ⊢
  rw[List.any_cons,List.any_cons,List.all_cons,i1,Du r0 r ha.1 h,oz r0 ha.1,i2]
  exact⟨rfl,rfl⟩
def y7(neg:Bool):Op2:=fun x y k=>lV x=true∧gj y fun ys=>ys.all lV=true∧k (.d (.bl (if neg then !inF x ys else inF x ys)))
theorem Dv:OpD X (compareOp .In) (y7 false):=OpD.of vZ fun σ H Pr ρ x y dx dy post E px py ⟨hx,h⟩=>by
 cases py with
 | lst hz rs =>
  obtain⟨ha,h⟩:=h
  obtain⟨i1,i2⟩:=wJ px hx rs ha
  exact⟨_,_,rfl,.inl hz.l,oz px hx,i2,_,E.cons_d (.bl _),by rw[i1];exact h⟩
 | tup hz rs =>
  obtain⟨ha,h⟩:=h
  obtain⟨i1,i2⟩:=wJ px hx rs ha
  exact⟨_,_,rfl,.inr hz,oz px hx,i2,_,E.cons_d (.bl _),by rw[i1];exact h⟩
 |_=>exact h.elim
def PO'(X:Cx)(lo:Option Expr)(t:Option (W L)):Prop:=match lo,t with
 |none,none=>True
 |some e,some t=>PL X e t
 |_,_=>False
theorem p9{K:PySem.W.Frag}{H:Hp}{vs:List V}{xs:List D}(r:Reps K H vs xs)(l u:Option Int):Reps K H (cutV vs l u) (cutD xs l u):=by
 unfold cutV cutD
 rw[r.length]
 exact(r.drop _).take _
def tPO(K:PySem.W.Frag)(t:Option (W L)):TO:=fun σ H Q=>∃Pr ρ post,REnv K Pr H σ ρ∧u6 t ρ post∧∀i H' ρ',REnv K Pr H' σ ρ'→post i ρ'→Q i H'
theorem Dw{lo:Option Expr}{t:Option (W L)}(h:PO' X lo t):PO X lo (tPO X.K t):=by
 cases lo with
 | none =>
  cases t with
  | none =>
   intro pins s σ H Q I ⟨Pr,ρ,post,E,hw,q⟩
   exact A9 pins s σ H Q I (q none H ρ E hw)
  |some t=>exact h.elim
 | some e =>
  cases t with
  |none=>exact h.elim
  | some t =>
   intro pins s σ H Q I ⟨Pr,ρ,post,E,hw,q⟩
   refine Ba (PL.pe (show PL X e t from h)) pins s σ H Q I ⟨Pr,ρ,_,E,hw,fun v H' r ρ' E' pp=>?_⟩
   obtain⟨i,rfl,pp⟩:=df pp
   obtain⟨_,e1,p1⟩:=E'.head_d
   cases e1
   cases p1
   exact⟨i,rfl,q (some i) H' ρ' E'.tail pp⟩
end
def selW{α:Type}(o:Option L)(t u:W α)(ρ:Ev)(post:α→Ev→Prop):Prop:=match o with
 |some (.own _ _)=>t ρ post
 |_=>u ρ post
def dC{α:Type}(i:Nat)(t u:W α):W α:=fun ρ post=>selW ρ[i]? t u ρ post
theorem y9{α:Type}(a:Addr)(xs:List D)(t u:W α)(ρ:Ev)(post:α→Ev→Prop):selW (some (.own a xs)) t u ρ post=t ρ post:=(rfl)
theorem Dx{α:Type}(x:D)(t u:W α)(ρ:Ev)(post:α→Ev→Prop):selW (some (.d x)) t u ρ post=u ρ post:=(rfl)
theorem BB{α:Type}(a:Option Addr)(ls:List L)(t u:W α)(ρ:Ev)(post:α→Ev→Prop):selW (some (.bx a ls)) t u ρ post=u ρ post:=(rfl)
theorem fQ{X:Cx}{e:Expr}{i:Nat}{t u:W L}(h:PL X e t)(h':PL X e u):PL X e (dC i t u):=fun pins s σ H Pr ρ post I E q=>by
 unfold dC selW at q
 split at q
 ·
  exact h pins s σ H Pr ρ post I E q
 ·
  exact h' pins s σ H Pr ρ post I E q
theorem BC{K:PySem.W.Frag}{c:Str}{C:Addr}{T:String}(h:fY K c C=true)(hm:PySem.W.kitMeta T=true):PySem.W.kitOne K (.ref C) (.type T)=some ((["ValueError","Exception","BaseException","object"]:List String).contains T):=by
 obtain⟨L,cd,S⟩:=fZ h
 unfold PySem.W.kitOne PySem.W.kitCls
 rw[if_neg (show ¬((Value.ref C == Value.type T)=true)from fun z=>by cases z)]
 dsimp only
 rw[if_pos hm]
 show PySem.W.mroIn K C (.type T)=_
 rw[S.mroIn,lN]
theorem qa{T:String}(h0:∀K d,(∀c ns xs,d≠.exc c ns xs)→PySem.W.kitOne K (tyD d) (.type T)=some (isTy T d))(hm:PySem.W.kitMeta T=true):∀K d t,TyD K d t→PySem.W.kitOne K t (.type T)=some (isTy T d):=by
 intro K d t h
 cases d with
 | exc c ns xs =>
  obtain⟨C,e,h⟩:=h
  rw[e]
  exact BC h hm
 |_=>cases h;exact h0 K _ (fun _ _ _ z=>nomatch z)
theorem BD:∀ K d t,TyD K d t→PySem.W.kitOne K t (.type "int")=some (isTy "int" d):=qa (fun K d hd=>by cases d <;> first | rfl | exact absurd rfl (hd _ _ _)) (by decide +kernel)
theorem zb:∀ K d t,TyD K d t→PySem.W.kitOne K t (.type "bool")=some (isTy "bool" d):=qa (fun K d hd=>by cases d <;> first | rfl | exact absurd rfl (hd _ _ _)) (by decide +kernel)
theorem BE:∀ K d t,TyD K d t→PySem.W.kitOne K t (.type "str")=some (isTy "str" d):=qa (fun K d hd=>by cases d <;> first | rfl | exact absurd rfl (hd _ _ _)) (by decide +kernel)
theorem zd:∀ K d t,TyD K d t→PySem.W.kitOne K t (.type "list")=some (isTy "list" d):=qa (fun K d hd=>by cases d <;> first | rfl | exact absurd rfl (hd _ _ _)) (by decide +kernel)
theorem qc:∀ K d t,TyD K d t→PySem.W.kitOne K t (.type "tuple")=some (isTy "tuple" d):=qa (fun K d hd=>by cases d <;> first | rfl | exact absurd rfl (hd _ _ _)) (by decide +kernel)
def u9(K:PySem.W.Frag)(mg:Str→Option Value)(x:Str)(d:D):Prop:=∃v u,mg x=some u∧RelV v u∧∀H,Rep K H v d
theorem pl_G{X:Cx}{x:Str}{d:D}{pos:Pos}(g:u9 X.K X.mg x d)(hg:Gl X x) (hdb:(x == ("__debug__" : Str))=false:=by decide):PL X (.Name x pos) (wC d):=by
 obtain⟨v,u,h1,h2,h3⟩:=g
 exact Bm hg h1 h2 h3 hdb
def EF(o:Obj)(d:D):Prop:=∃ its n vs ds,d=.tup ds∧o.cls=.type "tuple"∧o.data=.seq its n∧its.size≤sizeLine∧Vals vs its.toList∧∀ K H,Reps K H vs ds
theorem ze{K:PySem.W.Frag}{mg:Str→Option Value}{x:Str}{d:D}{l:Addr}{o:Obj}(h1:mg x=some (.ref l))(h2:K.lookup l=some o)(h3:EF o d):u9 K mg x d:=by
 obtain⟨its,n,vs,ds,rfl,hc,hd,hz,hv,hr⟩:=h3
 exact⟨.ref l,_,h1,rfl,fun H=>.tup (.inr ⟨o,its,n,h2,hc,hd,hz,hv⟩) (hr K H)⟩
theorem tT{K:PySem.W.Frag}{mg:Str→Option Value}{x:Str}{s:Str}{t:Tok}(h1:mg x=some (.str s t)):u9 K mg x (.str s):=⟨.str s,_,h1,⟨t,rfl⟩,fun H=>.str s⟩
theorem qd{K:PySem.W.Frag}{H:Hp}:∀ns:List Int,Reps K H (ns.map V.int) (ns.map D.int)
 |[]=>.nil
 |n::ns=>.cons (.int n) (qd ns)
theorem wK{K:PySem.W.Frag}{H:Hp}{a:Addr}{ns:List Int}{fs:FS}{n:Nat}(hl:ns.length≤n)(hO:Only H)(hS:SqL K H a (ns.map V.int))(h:fs [.d (.lst (ns.map .int))] (fun r _=>r=.d (.bl true))):spF K 1 fs [.ref a] H (fun v _=>v=.bl true) fun _ _ _=>False:=by
 have hz:SqZ K H a (ns.map V.int):=by
  rcases hS with(h|⟨o,h⟩)|h
  ·
   rcases hO a with z|⟨o,xs,z⟩|⟨q,z⟩
   ·
    rw[z]at h;cases h
   ·
    rw[z]at h;cases h
   ·
    rw[z]at h;cases h
  ·
   exact .inl ⟨o,h⟩
  ·
   exact .inr h
 refine⟨rfl,fun _=>none,[.d (.lst (ns.map .int))],_,⟨(fun b o e=>nomatch e),(show([]:List Addr).Nodup from List.nodup_nil),(fun a h=>absurd (show a∈([]:List Addr)from h) (by simp)),.cons ⟨.ref a,rfl,.lst hz (qd ns)⟩ .nil⟩,h,fun v H' r ls' E p=>?_⟩
 subst p
 obtain⟨_,e,r⟩:=E.head_d
 cases e
 cases r
 rfl
section
variable{X:Cx}
def EG:Op2:=fun x y k=>match y with
 |.non=>k (.d (.bl (match x with | .non=>true|_=>false)))
 |_=>False
def qe:Op2:=fun x y k=>match y with
 |.non=>k (.d (.bl (match x with | .non=>false|_=>true)))
 |_=>False
theorem tU:OpD X (compareOp .IsNot) qe:=Bw.imp fun x y k h=>by
 unfold qe at h
 split at h
 ·
  exact⟨rfl,h⟩
 ·
  exact h.elim
end
end L2
namespace L2
open PySem
theorem tV(a b:Int):Int.gcd b (a.fmod b)=Int.gcd a b:=by
 rw[Int.fmod_def,Int.gcd_sub_mul_left_right,Int.gcd_comm]
theorem ir(a:Int){b:Int}(h:b≠0):(a.fmod b).natAbs<b.natAbs:=by
 rw[Int.fmod_eq_emod]
 have h1:=Int.emod_nonneg a h
 have h2:a % b<(b.natAbs:Int):=Int.emod_lt a h
 split
 ·
  omega
 ·
  rename_i q
  have:a % b≠0:=fun e=>q (.inr (Int.dvd_of_emod_eq_zero e))
  omega
def frD(q:Rat):D:=.tup [.int q.num,.int (q.den:Int)]
theorem rN{t b:Int}(h:b≠0):0<Int.gcd t b:=Int.gcd_pos_of_ne_zero_right _ h
def bW(t b:Int):Int:=if b<0 then -(Int.gcd t b:Int)else(Int.gcd t b:Int)
theorem tX{t b:Int}(h:b≠0):bW t b≠0:=by
 have:=rN (t:=t) h
 unfold bW
 split<;>omega
theorem wL(t b:Int):(bW t b).natAbs=Int.gcd t b:=by
 unfold bW
 split<;>omega
theorem tY{t b:Int}(h:b≠0):(bW t b).natAbs≤b.natAbs:=by
 rw[wL]
 exact Nat.le_of_dvd (by omega) (by have:=Int.gcd_dvd_right t b;exact Int.natAbs_dvd_natAbs.mpr this |> fun q=>by simpa using q)
theorem lW{a g:Int}(hg:g≠0)(h:g∣a):a.fdiv (-g)=-(a / g):=by
 obtain⟨k,rfl⟩:=h
 rw[Int.mul_ediv_cancel_left _ hg,show g*k=(-g)*(-k) by rw[Int.neg_mul_neg],Int.mul_fdiv_cancel_left _ (by omega)]
theorem wM{t b:Int}(h:b≠0):t.fdiv (bW t b)=(Rat.divInt t b).num:=by
 have hg:=rN (t:=t) h
 have hd:(Int.gcd t b:Int)∣t:=Int.gcd_dvd_left t b
 rw[Rat.num_divInt,Int.gcd_comm b t]
 unfold bW
 split
 ·
  rename_i hb
  rw[lW (by omega) hd,Int.sign_eq_neg_one_of_neg hb,Int.neg_one_mul,Int.neg_ediv_of_dvd hd]
 ·
  rename_i hb
  rw[Int.sign_eq_one_of_pos (by omega),Int.one_mul,Int.fdiv_eq_ediv_of_nonneg _ (by omega)]
theorem BF{t b:Int}(h:b≠0):b.fdiv (bW t b)=((Rat.divInt t b).den:Int):=by
 have hg:=rN (t:=t) h
 have hd:(Int.gcd t b:Int)∣b:=Int.gcd_dvd_right t b
 rw[Rat.den_divInt,if_neg h,Int.gcd_comm b t,Int.natCast_ediv]
 unfold bW
 split
 ·
  rename_i hb
  rw[lW (by omega) hd,← Int.neg_ediv_of_dvd hd]
  congr 1
  omega
 ·
  rename_i hb
  rw[Int.fdiv_eq_ediv_of_nonneg _ (by omega)]
  congr 1
  omega
theorem AH{t b:Int}(h:b≠0):(Rat.divInt t b).den≤b.natAbs:=by
 rw[Rat.den_divInt,if_neg h]
 exact Nat.div_le_self _ _
theorem AI{t b:Int}(h:b≠0):(Rat.divInt t b).num.natAbs≤t.natAbs:=by
 rw[← wM h]
 exact PySem.natAbs_fdiv_le _ _
theorem den_pos(q:Rat):0<q.den:=Nat.pos_of_ne_zero q.den_nz
theorem wN(p q:Rat):Rat.divInt (p.num*(q.den:Int)+q.num*(p.den:Int)) ((p.den:Int)*(q.den:Int))=p+q:=by
 have hp:=den_pos p
 have hq:=den_pos q
 have:=Rat.divInt_add_divInt p.num q.num (d₁:=(p.den:Int)) (d₂:=(q.den:Int)) (by omega) (by omega)
 rw[Rat.num_divInt_den,Rat.num_divInt_den]at this
 exact this.symm
theorem AJ(p q:Rat):Rat.divInt (p.num*(q.den:Int)-q.num*(p.den:Int)) ((p.den:Int)*(q.den:Int))=p-q:=by
 have:=wN p (-q)
 rw[Rat.sub_eq_add_neg,← this]
 simp only[Rat.neg_num,Rat.neg_den,Int.neg_mul,Int.sub_eq_add_neg]
def RB(n:Nat)(q:Rat):Prop:=q.num.natAbs<2^n∧q.den<2^n
theorem RB.mono{m n:Nat}{q:Rat}(h:RB m q)(hl:m≤n):RB n q:=⟨Nat.lt_of_lt_of_le h.1 (Nat.pow_le_pow_right (by decide) hl),Nat.lt_of_lt_of_le h.2 (Nat.pow_le_pow_right (by decide) hl)⟩
theorem RB.neg{n:Nat}{q:Rat}(h:RB n q):RB n (-q):=⟨by rw[Rat.neg_num,Int.natAbs_neg];exact h.1,by rw[Rat.neg_den];exact h.2⟩
theorem RB.bn{n:Nat}{q:Rat}(h:RB n q)(hl:n≤1000000):bU q.num:=Nat.lt_of_lt_of_le h.1 (Nat.pow_le_pow_right (by decide) hl)
theorem RB.bd{n:Nat}{q:Rat}(h:RB n q)(hl:n≤1000000):bU (q.den:Int):=by
 unfold bU
 rw[Int.natAbs_natCast]
 exact Nat.lt_of_lt_of_le h.2 (Nat.pow_le_pow_right (by decide) hl)
theorem bI{a b m n:Nat}(h1:a<2^m)(h2:b<2^n):a*b<2^(m+n):=by
 rw[Nat.pow_add]
 exact Nat.mul_lt_mul'' h1 h2
theorem RB.add{m n:Nat}{p q:Rat}(hp:RB m p)(hq:RB n q):RB (m+n+1) (p+q):=by
 have dp:=den_pos p
 have dq:=den_pos q
 have hne:((p.den:Int)*(q.den:Int))≠0:=Int.mul_ne_zero (by omega) (by omega)
 rw[← wN p q]
 have a1:=bI hp.1 hq.2
 have a2:=bI hq.1 hp.2
 have a3:=bI hp.2 hq.2
 have e:(2:Nat)^(m+n+1)=2^(m+n)+2^(m+n):=by rw[Nat.pow_succ];omega
 rw[Nat.add_comm n m]at a2
 constructor
 ·
  refine Nat.lt_of_le_of_lt (AI hne) ?_
  refine Nat.lt_of_le_of_lt (Int.natAbs_add_le _ _) ?_
  rw[Int.natAbs_mul,Int.natAbs_mul,Int.natAbs_natCast,Int.natAbs_natCast,e]
  omega
 ·
  refine Nat.lt_of_le_of_lt (AH hne) ?_
  rw[Int.natAbs_mul,Int.natAbs_natCast,Int.natAbs_natCast,e]
  omega
@[simp] theorem lX(i j:Int):eqD (.int i) (.int j)=decide (i=j):=by
 simp[eqD,toP,PyData.eqv]
 by_cases h:i=j<;>simp[h]
@[simp] theorem BG(i j:Str):eqD (.str i) (.str j)=decide (i=j):=by
 simp[eqD,toP,PyData.eqv]
 by_cases h:i=j<;>simp[h]
@[simp] theorem Dy(i j:Bool):eqD (.bl i) (.bl j)=decide (i=j):=by
 simp[eqD,toP,PyData.eqv]
 cases i<;>cases j<;>rfl
@[simp] theorem va(i:Int):cS (.int i):=rfl
@[simp] theorem wO(i:Bool):cS (.bl i):=rfl
@[simp] theorem vb:cS .non:=rfl
mutual
def okD:Nat→D→Bool
 |_,.non=>true
 |_,.bl _=>true
 |_,.int _=>true
 |_,.str x=>PyData.strOk x
 |0,.tup _=>false
 |0,.lst _=>false
 |n+1,.tup xs=>okDs n xs
 |n+1,.lst xs=>okDs n xs
 |_,.dct _=>false
 |_,.exc _ _ _=>false
 |_,.fn _ _=>false
def okDs:Nat→List D→Bool
 |_,[]=>true
 |n,x::xs=>okD n x && okDs n xs
end
mutual
theorem oA:∀(n:Nat)(d:D),okD n d=true→(toP d).canLay0=true∧(toP d).depth≤n
 |_,.non,_=>⟨rfl,Nat.zero_le _⟩
 |_,.bl _,_=>⟨rfl,Nat.zero_le _⟩
 |_,.int _,_=>⟨rfl,Nat.zero_le _⟩
 |_,.str x,h=>⟨by simpa[okD,toP,PyData.canLay0]using h,Nat.zero_le _⟩
 |0,.tup _,h=>by simp[okD]at h
 |0,.lst _,h=>by simp[okD]at h
 | n+1,.tup xs,h=>by
  obtain⟨h1,h2⟩:=oB n xs (by simpa[okD]using h)
  exact⟨h1,Nat.succ_le_succ h2⟩
 | n+1,.lst xs,h=>by
  obtain⟨h1,h2⟩:=oB n xs (by simpa[okD]using h)
  exact⟨h1,Nat.succ_le_succ h2⟩
 |_,.dct _,h=>by simp[okD]at h
 |_,.exc _ _ _,h=>by simp[okD]at h
 |_,.fn _ _,h=>by simp[okD]at h
theorem oB:∀(n:Nat)(ds:List D),okDs n ds=true→PyData.canLayAll0 (toPs ds)=true∧PyData.depthAll (toPs ds)≤n
 |_,[],_=>⟨rfl,Nat.zero_le _⟩
 | n,d::ds,h=>by
  have h':okD n d=true∧okDs n ds=true:=by simpa[okDs]using h
  obtain⟨a1,a2⟩:=oA n d h'.1
  obtain⟨b1,b2⟩:=oB n ds h'.2
  exact⟨by simp[toPs,PyData.canLayAll0,a1,b1],by simp only[toPs,PyData.depthAll];omega⟩
end
theorem jD{n:Nat}{d:D}(h:okD n d=true)(hn:n≤64):cS d:=by
 obtain⟨h1,h2⟩:=oA n d h
 unfold cS SeqAt.shaped
 rw[h1,decide_eq_true (by omega)]
 rfl
theorem wQ(xs ys:List D):eqD (.tup xs) (.tup ys)=PyData.eqvAll (toPs xs) (toPs ys):=by simp[eqD,toP,PyData.eqv]
theorem BH(xs ys:List D):eqD (.lst xs) (.lst ys)=PyData.eqvAll (toPs xs) (toPs ys):=by simp[eqD,toP,PyData.eqv]
theorem gm(x y:D)(xs ys:List D):PyData.eqvAll (toPs (x::xs)) (toPs (y::ys))=(eqD x y && PyData.eqvAll (toPs xs) (toPs ys)):=by simp[toPs,PyData.eqvAll,eqD]
theorem oC:PyData.eqvAll (toPs []) (toPs [])=true:=by simp[toPs,PyData.eqvAll]
theorem zf(q:Rat):cS (frD q):=jD (n:=1) (by simp[frD,okD,okDs]) (by decide)
theorem AK(p q:Rat):eqD (frD p) (frD q)=decide (p=q):=by
 unfold frD
 rw[wQ,gm,gm,oC,lX,lX,Bool.and_true]
 by_cases h:p=q
 ·
  subst h;simp
 ·
  rw[decide_eq_false h]
  by_cases h1:p.num=q.num
  ·
   have:¬((p.den:Int)=(q.den:Int)):=fun e=>h (Rat.ext h1 (by omega))
   simp[this]
  ·
   simp[h1]
end L2
namespace L2
open PySem PySem.Spec PyProof.Rows
section
variable{X:Cx}{a b c:Expr}{pos p:Pos}{ta tb tc:W L}
def tZ(o o':Op2)(ta tb tc:W L):W L:=fun ρ post=>ta ρ fun r ρ1=>lq r fun i=>tb ρ1 fun r ρ2=>lq r fun j=>o (.int i) (.int j) fun z=>isBl z fun k=>if k=true then tc ρ2 fun r ρ3=>lq r fun l=>o' (.int j) (.int l) fun z=>post z ρ3 else post (.d (.bl false)) ρ2
def CmpI(X:Cx)(op:CmpOp)(o:Op2):Prop:=∃f:Int→Int→Bool,OpR X (compareOp op) (rI0 fun i j=>.bl (f i j))∧∀i j k,o (.int i) (.int j) k→k (.d (.bl (f i j)))
theorem EH:CmpI X .Lt opLt:=⟨_,C7,fun _ _ _ h=>h⟩
theorem EJ:CmpI X .LtE opLe:=⟨_,Es,fun _ _ _ h=>h⟩
theorem zg{op op':CmpOp}{o o':Op2}{f f':Int→Int→Bool}(h1:∀i j k,o (.int i) (.int j) k→k (.d (.bl (f i j))))(h2:∀i j k,o' (.int i) (.int j) k→k (.d (.bl (f' i j))))
  (σ:St) (H Pr:Hp) (ρ:Ev) (post:L→Ev→Prop) (Q:VK) (hQ:∀v H' r ρ',REnv X.K Pr H' (some v::σ) (r::ρ')→post r ρ'→Q v H') (E:REnv X.K Pr H σ ρ) (h:tZ o o' ta tb tc ρ post) :
  AE (rI0 fun i j=>.bl (f i j)) (rI0 fun i j=>.bl (f' i j)) (tL X.K ta) (tL X.K tb) (tL X.K tc) σ H Q:=by
 refine⟨Pr,ρ,_,E,h,fun v H1 r ρ1 E1 p=>?_⟩
 obtain⟨i,rfl,p⟩:=df p
 obtain⟨_,e1,r1⟩:=E1.head_d
 cases e1
 cases r1
 refine⟨Pr,ρ1,_,E1.tail,p,fun v H2 r ρ2 E2 p=>?_⟩
 obtain⟨j,rfl,p⟩:=df p
 obtain⟨_,e1,r1⟩:=E2.head_d
 cases e1
 cases r1
 refine⟨i,j,rfl,rfl,f i j,rfl,?_⟩
 have q:=h1 i j _ p
 cases hk:f i j with
 | false =>
  rw[hk]at q
  exact hQ _ _ _ ρ2 (E2.tail.cons_d (.bl false)) q
 | true =>
  rw[hk]at q
  refine⟨Pr,ρ2,_,E2.tail,q,fun v H3 r ρ3 E3 p=>?_⟩
  obtain⟨l,rfl,p⟩:=df p
  obtain⟨_,e1,r1⟩:=E3.head_d
  cases e1
  cases r1
  exact⟨j,l,rfl,rfl,hQ _ _ _ ρ3 (E3.tail.cons_d (.bl _)) (h2 j l _ p)⟩
theorem zh{op op':CmpOp}{o o':Op2}(ho:CmpI X op o)(ho':CmpI X op' o')(ha:PL X a ta)(hb:PL X b tb)(hc:PL X c tc)(hm:lastMarks [op,op'] [b,c]=false:=by with_unfolding_all rfl) :
  PL X (.Compare a [op,op'] [b,c] pos) (tZ o o' ta tb tc):=by
 obtain⟨f,r1,h1⟩:=ho
 obtain⟨f',r2,h2⟩:=ho'
 exact PL.of (yJ r1 r2 ha.pe hb.pe hc.pe hm) fun σ H Pr ρ post E h=>zg (op:=op) (op':=op') h1 h2 σ H Pr ρ post _ (fun v H' r ρ' E' p=>⟨r,ρ',E',p⟩) E h
end
end L2
namespace L2
open PySem PySem.Spec PyProof.Rows PySem.Builtin.Str
section
variable{X:Cx}{a:Expr}{pos p2:Pos}{ta:W L}{x:Str}
theorem Dz:SlR X (fun x lo hi H Q=>∃z,x=.str z∧z.length≤sizeLine∧Q (.str (Txt.slice z lo hi)) H):=by
 intro pins s σ H x v vl vu lo hi sl Q I rx hs pl pu h
 obtain⟨z,rfl,hz,q⟩:=h
 obtain⟨t,rfl⟩:=rx
 refine⟨"str",_,F.slot_str_getitem.lookup,typeIs_str _ _ _,?_⟩
 obtain⟨l',rfl,rfl⟩:∃l':Option (Int×Tok),vl=partValue l'∧lo=l'.map (·.1):=by
  cases pl
  ·
   exact⟨none,rfl,rfl⟩
  ·
   exact⟨some (_,_),rfl,rfl⟩
 obtain⟨u',rfl,rfl⟩:∃l':Option (Int×Tok),vu=partValue l'∧hi=l'.map (·.1):=by
  cases pu
  ·
   exact⟨none,rfl,rfl⟩
  ·
   exact⟨some (_,_),rfl,rfl⟩
 exact wpAny_getItem_str_slice (l:=l') (u:=u') (st:=none) hs rfl (post_val_or_str ⟨Nat.le_trans (Txt.slice_le z _ _) hz,fun t' k=>⟨.str _,H,I.tok k,⟨t',rfl⟩,q⟩⟩)
def wSl2(ta:W L)(lo hi:Option (W L)):W L:=fun ρ post=>ta ρ fun r ρ1=>toD r fun d=>u6 lo ρ1 fun l ρ2=>u6 hi ρ2 fun u ρ3=>match d with
 |.lst xs=>∀a,post (.own a (cutD xs l u)) ρ3
 |.str z=>z.length≤sizeLine∧post (.d (.str (Txt.slice z l u))) ρ3
 |.tup xs=>¬(HT.sIx xs.length 0 l=0∧HT.sIx xs.length xs.length u=xs.length)∧post (.d (.tup (cutD xs l u))) ρ3
 |_=>False
theorem dD{lo hi:Option Expr}{tl th:Option (W L)}(ha:PL X a ta)(hl:PO' X lo tl)(hh:PO' X hi th):PL X (.Subscript a (.Slice lo hi none p2) pos) (wSl2 ta tl th):=by
 refine PL.of (yN (SlR.or Bb (SlR.or Dz Dc)) (au ha).pe (Dw hl) (Dw hh)) fun σ H Pr ρ post E h=>?_
 refine⟨Pr,ρ,fun r ρ1=>match r with
  | .d d=>u6 tl ρ1 fun l ρ2=>u6 th ρ2 fun u ρ3=>match d with
   |.lst xs=>∀a,post (.own a (cutD xs l u)) ρ3
   |.str z=>z.length≤sizeLine∧post (.d (.str (Txt.slice z l u))) ρ3
   |.tup xs=>¬(HT.sIx xs.length 0 l=0∧HT.sIx xs.length xs.length u=xs.length)∧post (.d (.tup (cutD xs l u))) ρ3
   |_=>False
  |_=>False,E,h,fun v H1 r ρ1 E1 pp=>?_⟩
 cases r with
 | d d =>
  obtain⟨_,e1,p1⟩:=E1.head_d
  cases e1
  refine⟨aS H1 ρ1,ρ1,_,E1.tail.wide,pp,fun l H2 ρ2 E2 pp=>?_⟩
  have F2:REnv X.K Pr H2 (some v::σ) (.d d::ρ2):=REnv.step (τ:=[some v]) (lam:=[.d d]) (w:=[]) (μ:=[]) E1 rfl E2 rfl
  refine⟨aS H2 ρ2,ρ2,_,F2.tail.wide,pp,fun u H3 ρ3 E3 pp=>?_⟩
  have F3:REnv X.K Pr H3 (some v::σ) (.d d::ρ3):=REnv.step (τ:=[some v]) (lam:=[.d d]) (w:=[]) (μ:=[]) F2 rfl E3 rfl
  obtain⟨_,e1,p1⟩:=F3.head_d
  cases e1
  cases p1 with
  |lst hz rs=>exact .inl ⟨_,_,rfl,hz.l,fun q hq=>⟨_,_,F3.tail.cons_own hq (p9 rs l u),pp q⟩⟩
  |str z=>exact .inr (.inl ⟨z,rfl,pp.1,_,_,F3.tail.cons_d (.str _),pp.2⟩)
  |tup hz rs=>exact .inr (.inr ⟨_,_,rfl,hz,by rw[rs.length];exact pp.1,fun q hq=>⟨_,_,F3.tail.cons_tup hq (p9 rs l u),pp.2⟩⟩)
  |_=>exact pp.elim
 |_=>exact pp.elim
def EK(K:PySem.W.Frag):V→List V→Hp→VK→Prop:=fun x vs H Q=>∃z a ys zs,x=.str z∧vs=[.ref a]∧(SqL K H a ys∨SqT K H a ys)∧ys=zs.map V.str∧(zs.map (·.length)).sum+zs.length*z.length≤16777216∧Q (.str (Txt.join z zs)) H
theorem lY:∀{zs:List Str}{us:List Value},Vals (zs.map V.str) us→StrsAre us zs
 |[],_,.nil=>.nil
 | z::zs,_,.cons r t=>by
  obtain⟨t',rfl⟩:=r
  exact .cons z t' (lY t)
theorem BI:MtR X "str.join" (EK X.K):=by
 intro pins s σ H x vs v us Q I rx rv h
 obtain⟨z,a,ys,zs,rfl,rfl,hq,rfl,hz,q⟩:=h
 obtain⟨t,rfl⟩:=rx
 obtain⟨u,rfl,ru⟩:=rv.one
 cases ru
 rcases hq with hq|hq
 ·
  obtain⟨its,r,pl,_⟩:=I.list hq
  exact join_list pl.isList (by simpa using lY r) hz fun t' k=>⟨.str _,H,I.tok k,⟨t',rfl⟩,q⟩
 ·
  obtain⟨its,r,pl,_⟩:=I.tuple hq
  exact join_tuple pl (by simpa using lY r) hz fun t' k=>⟨.str _,H,I.tok k,⟨t',rfl⟩,q⟩
end
section
variable{X:Cx}{e a b c:Expr}{es:List Expr}{pos p apos cpos:Pos}{te:W L}{x y:Str}
def BJ(z:Str)(te:W L):W L:=fun ρ post=>te ρ fun r ρ1=>toD r fun d=>gj d fun xs=>∃zs,xs=zs.map D.str∧(zs.map (·.length)).sum+zs.length*z.length≤16777216∧post (.d (.str (Txt.join z zs))) ρ1
theorem lZ{K:PySem.W.Frag}{H:Hp}:∀{zs:List Str}{vs:List V},Reps K H vs (zs.map D.str)→vs=zs.map V.str
 |[],_,.nil=>rfl
 | z::zs,_,.cons r t=>by
  cases r
  rw[lZ t]
  rfl
theorem BK{z:Str}{j:Nat}{pz:Pos}(he:PL X e te)(hs1:starEach [e] X.env=[(false,eval e X.env)]:=by rfl) (hbase:attributeBase (.Constant (.str z) j pz) "join" X.env (eval (.Constant (.str z) j pz) X.env)=eval (.Constant (.str z) j pz) X.env:=by rfl)
  (hfew:((backTo cpos (starEach [e] X.env)).all (fun x=>!x.1) && (backToKw cpos (keywordEach [] X.env)).all (fun x=>x.1.isSome)
   && decide (([e]).length+([]:List Keyword).length+(if([]:List Keyword).isEmpty then 0 else 1)<30))=true:=by rfl)
  (hline:(apos.endLine == cpos.line)=true:=by rfl) (hplain:(backTo cpos (starEach ([]:List Expr) X.env)).any (·.1)=false:=by rfl) :
  PL X (.Call (.Attribute (.Constant (.str z) j pz) "join" apos) [e] [] cpos) (BJ z te):=by
 refine PL.of (Dh PySem.F.plainAttrs_str PySem.F.slot_str_join PySem.F.type_str_join BI vI (cb (au he).pe ik hs1) (hbase:=hbase) (hfew:=hfew) (hline:=hline) (hs:=hs1) (hplain:=hplain)) fun σ H Pr ρ post E h=>?_
 refine⟨rfl,Pr,ρ,fun r ρ1=>match r with
  |.d d=>gj d fun xs=>∃zs,xs=zs.map D.str∧(zs.map (·.length)).sum+zs.length*z.length≤16777216∧post (.d (.str (Txt.join z zs))) ρ1
  |_=>False,E,h,fun v H' r ρ' E' pp=>?_⟩
 cases r with
 | d d =>
  obtain⟨_,e1,p1⟩:=E'.head_d
  cases e1
  cases p1 with
  | lst hz rs =>
   obtain⟨zs,rfl,hl,pp⟩:=pp
   exact⟨z,_,_,zs,rfl,rfl,.inl hz.l,lZ rs,hl,_,_,E'.tail.cons_d (.str _),pp⟩
  | tup hz rs =>
   obtain⟨zs,rfl,hl,pp⟩:=pp
   exact⟨z,_,_,zs,rfl,rfl,.inr hz,lZ rs,hl,_,_,E'.tail.cons_d (.str _),pp⟩
  |_=>exact pp.elim
 |_=>exact pp.elim
theorem Inv.turnedL{pins:List (Addr×Obj)}{σ:St}{H:Hp}{s:Shared}{h':Heap}{t':Nat}{fp:List Addr}(I:Inv X pins σ H s)(k:∀b o,b∉fp→s.heap.get? b=some o→h'.get? b=some o)(hf:∀b∈fp,FpOk X pins H b):Inv X pins σ H {s with heap:=h',toks:=t' }:=by
 have nit:∀b u,H b=some u→b∉fp:=fun b u e z=>by rw[(hf b z).1]at e;cases e
 refine I.step (g':=s.gens) (d':=s.drawn) (ch:=fp) (fun b hb=>?_) (fun b o _ _ hc e _=>k b o hc e) (fun b o _ _ hc e _=>⟨o.slots,k b o hc e⟩) (fun _ _ _ _ n=>n)
  (fun b o hc e=>⟨o,k b o hc e⟩) (fun _ _ e=>e) (fun _ _ _ e=>e) (fun _ _ e=>e) (fun m hm=>?_) (fun b u e=>?_) I.bare
 ·
  obtain⟨f0,f1,f2,f3,f4,f5⟩:=hf b hb
  exact⟨f3,f1,f4,f5⟩
 ·
  obtain⟨o,es,ep,ho,r⟩:=hm
  exact⟨o,es,ep,k _ o (fun z=>(hf _ z).2.1 rfl) ho,r⟩
 ·
  refine(I.hok b u e).stay (fun c v hc q=>k c v ?_ q) (fun _ q=>q) (fun _ _ q=>q) fun _ _ _ _ q=>q
  rcases hc with z|z
  ·
   rw[z];exact nit b u e
  ·
   exact nit c _ z
def Ite(K:PySem.W.Frag)(a:Addr):It :=
 ⟨fun i H=>∃xs x,SqL K H a xs∧xs[i]?=some x,fun i H v H'=>∃p x,v=.ref p∧H p=none∧H'=upd H p (.tup [.int i,x])∧∀xs,SqL K H a xs→xs[i]?=some x,fun i H=>∃xs,SqL K H a xs∧xs.length≤i⟩
theorem wR{P:Program}{w:World}{K:PySem.W.Frag}{k:Nat}(q it a:Addr)(hne:q≠it):Turn P w K (.Tuple es k pos) (Ite K a) [q,it] q (fun i h=>(∃old,IsEnum h q it i old)∧h.IsListIter it a i) where
 mem:=by simp
 obj:=fun i h st b hb=>by
  obtain⟨⟨old,he⟩,o,e,c,d⟩:=st
  rcases List.mem_cons.mp hb with rfl|hb
  ·
   exact⟨_,he,fun v z=>by
    have z':Data.fields _=Data.cell v:=z
    cases z'⟩
  ·
   have e':b=it:=by simpa using hb
   subst e'
   exact⟨o,e,fun v z=>by rw[d]at z;cases z⟩
 keep:=fun i h h' st kk=>⟨let ⟨old,he⟩:=st.1;⟨old,kk q (by simp) _ he⟩,st.2.at fun o e=>kk it (by simp) o e⟩
 item:=by
  intro X hP hw hK hc i pins s σ H E I hf st hg
  subst hP hw hK
  obtain⟨xs,x,hq,hx⟩:=hg
  obtain⟨its,rv,p,hz⟩:=I.list hq
  obtain⟨u,hu,ru⟩:=rv.get hx
  obtain⟨⟨old,he⟩,hit⟩:=st
  have hai:a≠it:=fun z=>by
   subst z
   obtain⟨o,e,c,d⟩:=hit
   obtain⟨o',e',c',_⟩:=p.isList
   rw[e]at e';cases e'
   rw[c]at c';exact absurd c' (by simp)
  have hqa:q≠a:=fun z=>by
   subst z
   obtain⟨o',e',c',_⟩:=p.isList
   rw[he]at e';cases e'
   exact absurd c' (by simp)
  have D:=Draws.list (prog:=X.prog) (w:=X.w) (A:=X.A.in1) (I.ok.hd hc) it a hai its.toArray
  have hlt:i<its.toArray.size:=by
   rw[List.size_toArray]
   exact(List.getElem?_eq_some_iff.mp hu).1
  refine wpAny_pyNext_enum_itemD D he ⟨hit,p.isList⟩ hlt hne (by simp[hne,hqa]) fun x' h' tk hPx hout hst' htup hsz hk=>?_
  have hx':x'=u:=by
   have:its.toArray[i]?=some u:=by simpa using hu
   rw[this]at hPx;exact(Option.some.inj hPx).symm
  subst hx'
  refine⟨.ref s.heap.objs.size,rfl,wpAny_letOwnedTupleGo_enum (s:={s with heap:=h',toks:=tk+1}) hout fun h'' he'' hs''=>?_⟩
  have qlt:q<s.heap.objs.size:=Heap.lt_size he
  have ilt:it<s.heap.objs.size:=by obtain⟨o,e,_⟩:=hit;exact Heap.lt_size e
  have I1:Inv X pins σ (upd H s.heap.objs.size (.tup [.int i,x])) {s with heap:=s.heap.push {cls:=.type "tuple",data:=.seq #[.int i tk,x'] },toks:=tk} :=
   I.laid (fun b ob q=>Heap.get?_push_of_some _ q) (Nat.le_refl _) ⟨by show 2≤sizeLine;decide,[.int i tk,x'],.cons ⟨tk,rfl⟩ (.cons ru .nil),⟨_,Heap.get?_push_size _ rfl,rfl,_,rfl⟩⟩
  have hf1:∀b∈[q,it],FpOk X pins (upd H s.heap.objs.size (.tup [.int i,x])) b:=fun b hb=>by
   refine⟨?_,(hf b hb).2⟩
   rw[ay ?_]
   ·
    exact(hf b hb).1
   ·
    rcases List.mem_cons.mp hb with rfl|hb
    ·
     exact Nat.ne_of_lt qlt
    ·
     rw[List.mem_singleton.mp hb];exact Nat.ne_of_lt ilt
  have I2:=I1.turnedL (h':=h'') (t':=tk+1) (fp:=[q,it]) (fun b o hb e=>by
   have hbq:b≠q:=fun z=>hb (by simp[z])
   have hbi:b≠it:=fun z=>hb (by simp[z])
   refine(hs''.2 b hbq).trans ?_
   rcases Heap.get?_push_cases e with⟨rfl,rfl⟩|e
   ·
    exact htup
   ·
    exact hk b o hbq hbi e) hf1
  refine⟨.ref s.heap.objs.size,_,I2,rfl,⟨_,x,rfl,I.fresh,rfl,fun ys hy=>by rw[I.list_inj hy hq];exact hx⟩,⟨⟨_,by simpa using he''⟩,hst'.1.extBut hs''.extBut (Ne.symm hne)⟩,fun b hb=>(hf1 b hb).1⟩
 done:=by
  intro X hP hw hK hc i pins s σ H E I hf st hg
  subst hP hw hK
  obtain⟨xs,hq,hx⟩:=hg
  obtain⟨its,rv,p,hz⟩:=I.list hq
  obtain⟨⟨old,he⟩,hit⟩:=st
  have hai:a≠it:=fun z=>by
   subst z
   obtain⟨o,e,c,d⟩:=hit
   obtain⟨o',e',c',_⟩:=p.isList
   rw[e]at e';cases e'
   rw[c]at c';exact absurd c' (by simp)
  have hl:=rv.length
  have hT:s.TypeIs (.ref q) "enumerate":=⟨_,he,rfl⟩
  unfold pyNext
  refine wpAny_bind (wpAny_attempt (wpAny_callSpecial?_slot (name:=Str.ofString "__next__") hT F.slot_enumerate_next
   (wpAny_call_entry F.slot_enumerate_next hT F.entry_enumerate_next ?_ (F.args_enumerate_next_1 _))))
  show wpAny _ _ (field (.ref q) 2 >>= _) _ _ _
  refine wpAny_bind (wpAny_field he rfl (x:=.ref it) rfl ?_)
  refine wpAny_bind (wpAny_nextOf_list_end (I.ok.hd hc) hit p.isList (by simp;omega) fun h' x he' hx'=>?_)
  obtain⟨o,ho,hcc⟩:=hx'
  refine wpAny_bind (wpAny_isInstance (T:="StopIteration") (b:=true) ⟨o,ho,hcc⟩ isSubtype_stop ?_)
  refine wpAny_pure ⟨rfl,?_⟩
  exact I.turnedL (t':=s.toks) (fp:=[q,it]) (fun b o hb e=>he' b o (fun z=>hb (by simp[z])) e) hf
 self:=fun _ _ _ _ _ st h=>let ⟨_,he⟩:=st.1;wpAny_pyIter_enum he h
def dO(xs:List D):List D:=xs.zipIdx.map fun p=>.tup [.int (p.2:Int),p.1]
theorem vc{K:PySem.W.Frag}{H:Hp}{a:Addr}{vs:List V}{xs:List D}(h:SqZ K H a vs)(r:Reps K H vs xs):wm K H (Ite K a) (dO xs):=fun H' p=>by
 have h':=(h.pres p).l
 have hlen:(dO xs).length=vs.length:=by rw[r.length];simp[dO]
 refine⟨fun i x e=>?_,⟨vs,h',by rw[hlen];exact Nat.le_refl _⟩⟩
 have hi:i<vs.length:=by rw[← hlen];exact(List.getElem?_eq_some_iff.mp e).1
 have hi2:i<xs.length:=by rw[← r.length];exact hi
 have ex:x=.tup [.int (i:Int),xs[i]]:=by
  have:(dO xs)[i]?=some (.tup [.int (i:Int),xs[i]]):=by simp[dO,hi2]
  rw[this]at e
  exact(Option.some.inj e).symm
 obtain⟨v,ev,rv⟩:=r.get (i:=i) (List.getElem?_eq_getElem hi2)
 refine⟨⟨vs,v,h',ev⟩,fun w H2 ⟨q,y,e1,e2,e3,e4⟩=>?_⟩
 have e5:=e4 vs h'
 rw[ev]at e5
 cases e5
 subst e1 e3 ex
 refine⟨.inr ⟨_,_,e2,rfl⟩,.tup (.inl (.inl (a7 ..))) (.cons (.int _) (.cons ((rv.pres p).new e2) .nil))⟩
def wU(t:W L):W (List D):=fun ρ post=>t ρ fun r ρ1=>toD r fun d=>match d with
 |.lst xs=>post (dO xs) ρ1
 |_=>False
theorem oE{k:Nat}{t:W L} (hg:Gl X "enumerate") (hm:X.mg "enumerate"=none) (ha:PL X a t) (hs:starEach [a] X.env=[(false,eval a X.env)]:=by rfl):PIL X (.Tuple es k apos) (.Call (.Name "enumerate" p) [a] [] pos) (wU t):=by
 intro pins s σ H Pr ρ post I E h
 refine Call_ (ij I hg hm boot_enumerate (PyProof.Rows.callWith_type1 (thn (ae (au ha) ag hs pos pins s σ H Pr ρ (fun ls ρ1=>match ls with
  |[.d (.lst xs)]=>post (dO xs) ρ1
  |_=>False) I E ?_) fun us s1 ⟨vs,H1,ls,ρ1,I1,r1,hl,hb,E1,_,q1⟩=>?_) hs rfl))
 ·
  show t ρ _
  have e:(fun r ρ1=>toD r fun d=>match d with | .lst xs=>post (dO xs) ρ1|_=>False)=(fun r ρ1=>toD r fun x=>aNil ρ1 fun xs ρ2=>match L.d x::xs with | [.d (.lst xs)]=>post (dO xs) ρ2|_=>False):=by
   funext r ρ1
   cases r with
   |un=>rfl
   |d d=>cases d<;>rfl
   |own=>rfl
   | bx b ls =>
    show dj (bh (.bx b ls)) _=dj (bh (.bx b ls)) _
    cases bh (.bx b ls)with
    |none=>rfl
    |some d=>cases d<;>rfl
   |dic b ls=>rfl
  rw[← e]
  exact h
 ·
  dsimp only at q1
  split at q1
  ·
   rename_i xs
   cases vs with
   |nil=>exact absurd hl (by simp)
   | cons v vs =>
    have:vs=[]:=by
     have:vs.length=0:=by simpa using hl
     exact List.length_eq_zero_iff.mp this
    subst this
    obtain⟨_,e1,p1⟩:=REnv.head_d (σ:=σ) (ρ:=ρ1) E1
    cases e1
    cases p1 with
    | lst hz rs =>
     obtain⟨u,rfl,ru⟩:=r1.one
     cases ru
     obtain⟨its,rv,pl,hz'⟩:=I1.list hz.l
     refine call_enumerate_list pl.isList fun h' hE hI hsz hk=>?_
     refine wpAny_pyIter_enum (s:={s1 with heap:=h' }) hE ?_
     have E2:REnv X.K Pr H1 σ ρ1:=REnv.tail (σ:=σ) (ρ:=ρ1) E1
     refine⟨s1.heap.objs.size+1,[s1.heap.objs.size+1,s1.heap.objs.size],_,_,H1,_,ρ1,rfl,I1.kept (t':=s1.toks) hk,wR _ _ _ (Nat.succ_ne_self _),⟨⟨_,hE⟩,hI⟩,fun b hb=>?_,E2,vc hz rs,q1⟩
     have hb':s1.heap.objs.size≤b:=by
      rcases List.mem_cons.mp hb with rfl|hb
      ·
       exact Nat.le_succ _
      ·
       rw[List.mem_singleton.mp hb];exact Nat.le_refl _
     exact I1.fpOk hb' (I1.hok.fresh hb')
  ·
   exact q1.elim
end
section
variable{X:Cx}{es:List Expr}{pos:Pos}{x:Str}
def PTcs(X:Cx)(es:List Expr)(n:Nat)(is:List Nat):Prop:=∃gg:TGs,PGs X es gg∧es.length=is.length∧∀vs σ H Pr ρ xs k,σ.length=X.N.length→REnv X.K Pr H σ ρ→Reps X.K H vs xs→eT is xs ρ k→gg vs σ H fun σ' H'=>H'=H∧σ'.drop n=σ.drop n∧∃ρ',REnv X.K Pr H σ' ρ'∧k ρ'
theorem BL{n:Nat}:PTcs X [] n []:=⟨_,vL,rfl,fun vs σ H Pr ρ xs k hl E r h=>by
 cases r with
 |nil=>exact⟨rfl,rfl,rfl,ρ,E,h⟩
 |cons _ _=>exact h.elim⟩
theorem t4{i n:Nat}{is:List Nat}{x:Str}(hn:i<n)(hN:X.N.Nodup)(hi:X.N[i]?=some x)(hx:Loc X.env.scope x)(hr:PTcs X es n is)(hf:X.fn x=true∨X.env.scope.names.lookup x=some .local:=by first|exact .inl rfl|exact .inr rfl|assumption)
  (hs:(assignEach (.Name x pos::es) X.env).map (·.2)=assign (.Name x pos) X.env::(assignEach es X.env).map (·.2):=by rfl):PTcs X (.Name x pos::es) n (i::is):=by
 obtain⟨gg,hg,hlen,q⟩:=hr
 refine⟨_,tG (nW hN hi hx hf) hg hs,by simp[hlen],fun vs σ H Pr ρ xs k hl E r h=>?_⟩
 cases r with
 |nil=>exact h.elim
 | cons r0 t =>
  refine⟨_,_,rfl,?_⟩
  have:=q _ (σ.set i (some _)) H Pr _ _ k (by simpa using hl) ((E.cons_d r0).store (by rw[hl];exact(List.getElem?_eq_some_iff.mp hi).1)) t h
  rw[List.drop_set_of_lt hn]at this
  exact this
theorem DA{is:List Nat}{k n:Nat}(hc:X.calm=true)(h:PTcs X es n is)(hn:(assignEach es X.env).length=is.length:=by rfl)(hst:(assignEach es X.env).findIdx? (·.1)=none:=by rfl):PTc X (.Tuple es k pos) n (jy is):=by
 obtain⟨gg,hg,hlen,q⟩:=h
 refine⟨_,AC hc hg hn hst,fun v σ H Pr ρ x k hl E r h=>?_⟩
 cases r with
 |tup hs rs=>exact⟨_,_,rfl,hs,by rw[rs.length];exact iV h,q _ σ H Pr ρ _ k hl E rs h⟩
 |_=>exact h.elim
end
end L2
namespace L2
open PySem PySem.Spec PyProof.Rows
mutual
def noL:D→Bool
 |.lst _=>false
 |.dct _=>false
 |.exc _ _ _=>false
 |.fn _ _=>false
 |.tup xs=>noLs xs
 |_=>true
def noLs:List D→Bool
 |[]=>true
 |x::xs=>noL x && noLs xs
end
mutual
def noLr:L→Bool
 |.un=>true
 |.d x=>noL x
 |.own _ xs=>noLs xs
 |.bx _ ls=>l5 ls
 |.dic _ kvs=>kvs.all fun p=>noL p.2
def l5:List L→Bool
 |[]=>true
 |l::ls=>noLr l && l5 ls
end
theorem l6:noLr .un=true:=by simp[noLr]
theorem AL(x:D):noLr (.d x)=noL x:=by simp[noLr]
theorem g9(a:Addr)(xs:List D):noLr (.own a xs)=noLs xs:=by simp[noLr]
theorem BM(a:Option Addr)(ls:List L):noLr (.bx a ls)=l5 ls:=by simp[noLr]
theorem zi(a:Addr)(kvs:List (Key×D)):noLr (.dic a kvs)=kvs.all fun p=>noL p.2:=by simp[noLr]
theorem wV:l5 []=true:=by simp[l5]
theorem vd(l:L)(ls:List L):l5 (l::ls)=(noLr l && l5 ls):=by simp[l5]
section
variable{X:Cx}{pins:List (Addr×Obj)}{σ:St}{H:Hp}{s:Shared}
theorem Inv.thaw{a:Addr}{o:Obj}{xs:List V}(I:Inv X pins σ H s)(h:H a=some (.frz o (.lst xs)))(h0:∀o u,X.H₀ a≠some (.frz o u)):Inv X pins σ (upd H a (.lst xs)) s:=by
 have ne:∀b,H b=none→b≠a:=fun b n e=>by subst e;rw[h]at n;cases n
 have nt:∀b xs,H b=some (.tup xs)→b≠a:=fun b xs n e=>by subst e;rw[h]at n;cases n
 have no:∀b z,H b=some (.own z)→b≠a:=fun b z n e=>by subst e;rw[h]at n;cases n
 have nf:∀b o,H b=some (.frz o (.own b))→b≠a:=fun b o n e=>by subst e;rw[h]at n;cases n
 have nw:=(I.hok a _ h).2
 refine⟨I.ok,I.os,I.bare,⟨I.base.keep,I.base.slot,fun b ob e n hx=>?_,I.base.there,fun b xs e=>?_,fun b ob z e=>?_,fun b ps e=>?_⟩,I.loc,I.cell,?_,fun x c e=>?_,fun p hp=>?_,fun b z e=>?_,I.len⟩
 ·
  have q:=I.base.free b ob e n hx
  rw[ay (ne b q)];exact q
 ·
  have q:=I.base.tups b xs e
  rw[ay (nt b xs q)];exact q
 ·
  have q:=I.base.frzs b ob z e
  rw[ay (fun y=>by subst y;exact h0 _ _ e)];exact q
 ·
  have q:=I.base.tbls b ps e
  rw[ay (fun z=>by subst z;rw[h]at q;cases q)];exact q
 ·
  rw[ay (ne _ I.free)];exact I.free
 ·
  rcases I.freeC x c e with z|⟨hf,o,z⟩
  ·
   exact .inl (by rw[ay (ne _ z)];exact z)
  ·
   exact .inr ⟨hf,o,by rw[ay (nf _ _ z)];exact z⟩
 ·
  obtain⟨e,n,r⟩:=I.pin p hp
  exact⟨e,by rw[ay (ne _ n)];exact n,r⟩
 ·
  by_cases hb:b=a
  ·
   subst hb
   rw[a7]at e
   cases e
   exact nw.stay (fun c v _ q=>q) (fun c q=>by rw[ay (no c _ q)];exact q) (fun c xs q=>by rw[ay (nt c xs q)];exact q) fun c ob _ _ q=>by rw[ay (nf c ob q)];exact q
  ·
   rw[ay hb]at e
   exact(I.hok b z e).stay (fun c v _ q=>q) (fun c q=>by rw[ay (no c _ q)];exact q) (fun c xs q=>by rw[ay (nt c xs q)];exact q) fun c ob _ _ q=>by rw[ay (nf c ob q)];exact q
end
def iu(H' H2:Hp)(S:List Addr):Prop:=(∀b,b∉S→H2 b=H' b)∧(∀a∈S,∃o vs,H' a=some (.frz o (.lst vs))∧H2 a=some (.lst vs))
theorem rO{X:Cx}{pins:List (Addr×Obj)}{σ:St}{s:Shared}:∀(S:List Addr){H:Hp},S.Nodup→Inv X pins σ H s→(∀a∈S,∃o vs,H a=some (.frz o (.lst vs)))→(∀a∈S,∀o u,X.H₀ a≠some (.frz o u))→∃H2,Inv X pins σ H2 s∧iu H H2 S
 |[],H,_,I,_,_=>⟨H,I,fun _ _=>rfl,fun _ h=>by simp at h⟩
 | a::S,H,nd,I,h,h0=>by
  obtain⟨na,nd⟩:=List.nodup_cons.mp nd
  obtain⟨o,vs,ea⟩:=h a List.mem_cons_self
  have I1:=I.thaw ea (h0 a List.mem_cons_self)
  obtain⟨H2,I2,T1,T2⟩:=rO S nd I1 (fun b hb=>by
   obtain⟨o,us,e⟩:=h b (List.mem_cons_of_mem _ hb)
   exact⟨o,us,by rw[ay (fun z:b=a=>na (by rw[← z];exact hb))];exact e⟩) fun b hb=>h0 b (List.mem_cons_of_mem _ hb)
  refine⟨H2,I2,fun b hb=>?_,fun b hb=>?_⟩
  ·
   rw[T1 b (fun z=>hb (List.mem_cons_of_mem _ z)),ay (fun z:b=a=>hb (by rw[z];exact List.mem_cons_self))]
  ·
   rcases List.mem_cons.mp hb with rfl|hb
   ·
    exact⟨o,vs,ea,by rw[T1 b na,a7]⟩
   ·
    obtain⟨o',us,e1,e2⟩:=T2 b hb
    rw[ay (fun z:b=a=>na (by rw[← z];exact hb))]at e1
    exact⟨o',us,e1,e2⟩
section
variable{K:PySem.W.Frag}{H' H2:Hp}{S:List Addr}
mutual
theorem Rep.thaw(T:iu H' H2 S):∀{v:V}{d:D},noL d=true→Rep K H' v d→Rep K H2 v d
 |_,_,_,.non=>.non
 |_,_,_,.bl b=>.bl b
 |_,_,_,.int i=>.int i
 |_,_,_,.str x=>.str x
 | _,_,h,.tup hs r=>by
  refine .tup ?_ (Reps.thaw T (by simpa[noL]using h) r)
  rcases hs with(e|⟨u,e⟩)|e
  ·
   exact .inl (.inl (by rw[T.1 _ fun z=>by obtain⟨o,vs,e1,_⟩:=T.2 _ z;rw[e1]at e;cases e];exact e))
  ·
   exact .inl (.inr ⟨u,by rw[T.1 _ fun z=>by obtain⟨o,vs,e1,_⟩:=T.2 _ z;rw[e1]at e;cases e];exact e⟩)
  ·
   exact .inr e
 |_,_,h,.lst hs r=>by simp[noL]at h
 |_,_,h,.dct e=>by simp[noL]at h
 |_,_,h,.exc _ _ _ _ _ _ _ _=>by simp[noL]at h
 |_,_,h,.fn _ _ _ _ _ _ _ _ _=>by simp[noL]at h
theorem Reps.thaw(T:iu H' H2 S):∀{vs:List V}{ds:List D},noLs ds=true→Reps K H' vs ds→Reps K H2 vs ds
 |_,_,_,.nil=>.nil
 | _,_,h,.cons r t=>by
  simp only[noLs,Bool.and_eq_true]at h
  exact .cons (Rep.thaw T h.1 r) (Reps.thaw T h.2 t)
end
theorem iu.lst(T:iu H' H2 S){a:Addr}{vs:List V}(h:H' a=some (.lst vs)):a∉S∧H2 a=some (.lst vs):=by
 have n:a∉S:=fun z=>by
  obtain⟨o,us,e,_⟩:=T.2 a z
  rw[h]at e;cases e
 exact⟨n,(T.1 a n).trans h⟩
theorem iu.tup(T:iu H' H2 S){a:Addr}{vs:List V}(h:SqT K H' a vs):SqT K H2 a vs:=by
 rcases h with(e|⟨u,e⟩)|e
 ·
  exact .inl (.inl (by rw[T.1 _ fun z=>by obtain⟨o,vs,e1,_⟩:=T.2 _ z;rw[e1]at e;cases e];exact e))
 ·
  exact .inl (.inr ⟨u,by rw[T.1 _ fun z=>by obtain⟨o,vs,e1,_⟩:=T.2 _ z;rw[e1]at e;cases e];exact e⟩)
 ·
  exact .inr e
mutual
theorem aJ.thaw(T:iu H' H2 S):∀{s:Option V}(l:L),noLr l=true→aJ K H' s l→aJ K H2 s l
 |_,.un,_,_=>by unfold aJ;exact True.intro
 | _,.d x,h,q=>by
  unfold aJ at q ⊢
  obtain⟨v,e,r⟩:=q
  exact⟨v,e,r.thaw T (by simpa[noLr]using h)⟩
 | _,.own a xs,h,q=>by
  unfold aJ at q ⊢
  obtain⟨e,vs,ha,r⟩:=q
  exact⟨e,vs,(T.lst ha).2,r.thaw T (by simpa[noLr]using h)⟩
 | _,.bx none ls,h,q=>by
  unfold aJ at q ⊢
  obtain⟨a,vs,e,ha,r⟩:=q
  exact⟨a,vs,e,T.tup ha,bF.thaw T ls (by simpa[noLr]using h) r⟩
 | _,.bx (some a) ls,h,q=>by
  unfold aJ at q ⊢
  obtain⟨e,vs,ha,r⟩:=q
  exact⟨e,vs,(T.lst ha).2,bF.thaw T ls (by simpa[noLr]using h) r⟩
 | _,.dic a kvs,h,q=>by
  unfold aJ at q ⊢
  obtain⟨e,vs,ha,r⟩:=q
  have h':∀p∈kvs,noL p.2=true:=by simpa[noLr]using h
  refine⟨e,vs,?_,Paired.impMem r fun p hp q z=>⟨z.1,z.2.thaw T (h' p hp)⟩⟩
  rw[T.1 a fun z=>by obtain⟨o,us,e1,_⟩:=T.2 _ z;rw[e1]at ha;cases ha]
  exact ha
theorem bF.thaw(T:iu H' H2 S):∀{vs:List V}(ls:List L),l5 ls=true→bF K H' vs ls→bF K H2 vs ls
 |_,[],_,q=>by unfold bF at q ⊢;exact q
 | _,l::ls,h,q=>by
  unfold bF at q ⊢
  simp only[l5,Bool.and_eq_true]at h
  obtain⟨v,us,e,h1,h2⟩:=q
  exact⟨v,us,e,aJ.thaw T l h.1 h1,bF.thaw T ls h.2 h2⟩
end
end
def cT:L→Bool
 |.d _=>true
 |l=>noLr l
theorem bK:cT .un=true:=by simp[cT,noLr]
theorem BN(x:D):cT (.d x)=true:=rfl
theorem jE(a:Addr)(xs:List D):cT (.own a xs)=noLs xs:=by simp[cT,noLr]
theorem wW(a:Addr)(kvs:List (Key×D)):cT (.dic a kvs)=kvs.all fun p=>noL p.2:=by simp[cT,noLr]
theorem zj(a:Option Addr)(ls:List L):cT (.bx a ls)=l5 ls:=by simp[cT,noLr]
def cn(i:Nat)(ρ:Ev):Bool:=(ρ.set i .un).all cT
theorem kq{K:PySem.W.Frag}{H0 H' H2:Hp}{S:List Addr}(T:iu H' H2 S)(p:Pres H0 H2):∀{σ:St}{ρ ρ0:Ev},ρ.length=ρ0.length →
  (∀(j:Nat)(l:L),ρ[j]?=some l→noLr l=true∨∃x,l=.d x∧ρ0[j]?=some (.d x))→Paired (aJ K H0) σ ρ0→Paired (aJ K H') σ ρ→Paired (aJ K H2) σ ρ
 |[],[],_,_,_,_,_=>.nil
 | s::σ,l::ρ,l0::ρ0,hl,h,.cons q0 t0,.cons q t=>by
  refine .cons ?_ (kq T p (by simpa using hl) (fun j l e=>h (j+1) l e) t0 t)
  rcases h 0 l rfl with hh|⟨x,rfl,e⟩
  ·
   exact q.thaw T l hh
  ·
   have e:l0=.d x:=by simpa using e
   subst e
   exact q0.pres p (.d x) fun a ha=>by simp[aE]at ha
 |[],_::_,_,_,_,_,t=>nomatch t
 |_::_,[],_,_,_,_,t=>nomatch t
mutual
theorem aJ.lsts{K:PySem.W.Frag}{H:Hp}:∀{s:Option V}(l:L){x:D},aJ K H s l→bh l=some x→∀a∈aE l,∃vs,H a=some (.lst vs)
 |_,.un,_,_,_,a,ha=>by simp[aE]at ha
 |_,.d x,_,_,_,a,ha=>by simp[aE]at ha
 |_,.dic _ _,_,_,h,_,_=>by simp[bh]at h
 | _,.own b xs,_,h,_,a,ha=>by
  simp only[aJ]at h
  have e:a=b:=by simpa[aE]using ha
  subst e
  obtain⟨_,vs,q,_⟩:=h
  exact⟨_,q⟩
 | _,.bx none ls,_,h,hx,a,ha=>by
  simp only[aJ]at h
  simp only[bh,Option.map_eq_some_iff]at hx
  obtain⟨xs,hx,_⟩:=hx
  obtain⟨b,vs,e,_,r⟩:=h
  exact bF.lsts ls r hx a (by simpa[aE]using ha)
 | _,.bx (some b) ls,_,h,hx,a,ha=>by
  simp only[aJ]at h
  simp only[bh,Option.map_eq_some_iff]at hx
  obtain⟨xs,hx,_⟩:=hx
  obtain⟨e,vs,q,r⟩:=h
  rcases(by simpa[aE]using ha:a=b∨a∈cP ls)with z|z
  ·
   subst z;exact⟨_,q⟩
  ·
   exact bF.lsts ls r hx a z
theorem bF.lsts{K:PySem.W.Frag}{H:Hp}:∀{vs:List V}(ls:List L){xs:List D},bF K H vs ls→bO ls=some xs→∀a∈cP ls,∃vs,H a=some (.lst vs)
 |_,[],_,_,_,a,ha=>by simp[cP]at ha
 | _,l::ls,_,h,hx,a,ha=>by
  simp only[bF]at h
  obtain⟨v,us,e,h1,h2⟩:=h
  simp only[bO]at hx
  split at hx
  ·
   rename_i x1 xs1 e1 e2
   rcases(by simpa[cP]using ha:a∈aE l∨a∈cP ls)with z|z
   ·
    exact aJ.lsts l h1 e1 a z
   ·
    exact bF.lsts ls h2 e2 a z
  ·
   cases hx
end
theorem qf{X:Cx}{pins:List (Addr×Obj)}{σ0:St}{s s1:Shared}{Pr H H1 H':Hp}{σ τ:St}{ρ lam:Ev}{i:Nat}{k:L}{x:D}{v:Option V}(I:Inv X pins σ0 H s)(E:REnv X.K Pr H σ ρ)(hi:ρ[i]?=some k)(hSa:∀a∈aE k,∃vs,H a=some (.lst vs))(F:jv H H1 (aE k))(hfl:cn i ρ=true)
  (I':Inv X pins σ0 H' s1) (E1:REnv X.K Pr H1 σ (ρ.set i (.d x))) (E':REnv X.K (aS H1 (ρ.set i (.d x))) H' (τ++σ) (lam++ρ.set i (.d x))) (hlen:τ.length=lam.length) (hr:lam.all noLr=true):∃H2,Inv X pins σ0 H2 s1∧REnv X.K Pr H2 (τ++σ) (lam++ρ):=by
 have hil:i<ρ.length:=(List.getElem?_eq_some_iff.mp hi).1
 have prm:=cA hi (l:=.d x) rfl
 have hnd:(aE k++owns (ρ.set i (.d x))).Nodup:=prm.nodup_iff.mp E.nd
 obtain⟨nd1,nd2,nd3⟩:=List.nodup_append.mp hnd
 have hna:∀a∈aE k,a∉owns (ρ.set i (.d x)):=fun a ha z=>nd3 a ha a z rfl
 have hb:∀b u,H1 b=some u→b∉owns (ρ.set i (.d x))→H' b=some u:=fun b u e hno=>by
  refine E'.sub b u ?_
  unfold aS
  rw[if_neg hno]
  exact e
 have hS:∀a∈aE k,∃o vs,H' a=some (.frz o (.lst vs)):=fun a ha=>by
  obtain⟨vs,e⟩:=hSa a ha
  obtain⟨o,eo⟩:=F.2.2 a ha vs e
  exact⟨o,vs,hb a _ eo (hna a ha)⟩
 obtain⟨H2,I2,T⟩:=rO (aE k) nd1 I' hS fun a ha o u e=>by
  have z:=I.base.frzs a o u e
  obtain⟨vs,q⟩:=hSa a ha
  rw[q]at z;cases z
 have back:∀a∈aE k,H2 a=H a:=fun a ha=>by
  obtain⟨vs,e⟩:=hSa a ha
  obtain⟨o,eo⟩:=F.2.2 a ha vs e
  obtain⟨o',vs',e1,e2⟩:=T.2 a ha
  rw[hb a _ eo (hna a ha)]at e1
  cases e1
  rw[e2,e]
 have P:Pres H H2:=fun b u hp e=>by
  have hno:b∉owns ρ:=fun z=>by
   obtain⟨ws,hz,mu⟩:=E.at_own z
   rw[hz]at e;cases e;exact mu.no hp
  have hnk:b∉aE k:=fun z=>hno (prm.mem_iff.mpr (List.mem_append_left _ z))
  rw[T.1 b hnk]
  exact hb b u (F.1 b u hp e) fun z=>hno (prm.mem_iff.mpr (List.mem_append_right _ z))
 obtain⟨sl1,sl2⟩:=Paired.unapp hlen E'.sl
 have ndE:=E'.nd
 rw[ar]at ndE
 obtain⟨ne1,ne2,ne3⟩:=List.nodup_append.mp ndE
 have lamS:∀a∈owns lam,a∉aE k∧Pr a=none∧a∉owns (ρ.set i (.d x)):=fun a ha=>by
  obtain⟨vs,e,mu⟩:=E'.at_own (a:=a) (by rw[ar];exact List.mem_append_left _ ha)
  have h1:a∉aE k:=fun z=>by
   obtain⟨o,us,e1,_⟩:=T.2 _ z
   rw[e1]at e
   cases e
   exact mu
  have h3:a∉owns (ρ.set i (.d x)):=fun z=>ne3 a ha a z rfl
  refine⟨h1,?_,h3⟩
  have hoff:=E'.off a (by rw[ar];exact List.mem_append_left _ ha)
  unfold aS at hoff
  rw[if_neg h3]at hoff
  cases ep:Pr a with
  |none=>rfl
  |some w=>rw[E1.sub a w ep]at hoff;cases hoff
 have slt:Paired (aJ X.K H2) σ (ρ.set i .un):=by
  have q:Paired (aJ X.K H') σ (ρ.set i .un):=by
   have:=(Paired.set_r (b:=L.un) i sl2 fun _ _=>by unfold aJ;exact True.intro)
   rwa [List.set_set]at this
  refine kq T P (ρ0:=ρ) (by simp) (fun j l e=>?_) E.sl q
  by_cases hj:j=i
  ·
   subst hj
   rw[List.getElem?_set_self hil]at e
   cases e
   exact .inl l6
  ·
   have h1:=List.all_eq_true.mp hfl l (List.mem_of_getElem? (i:=j) e)
   rw[List.getElem?_set_ne (Ne.symm hj)]at e
   cases l with
   |un=>exact .inl l6
   |d y=>exact .inr ⟨y,rfl,e⟩
   |own b ys=>exact .inl h1
   |bx b ls=>exact .inl h1
   |dic b ls=>exact .inl h1
 have slr:Paired (aJ X.K H2) τ lam:=Paired.impMem sl1 fun l hl s q=>q.thaw T l (List.all_eq_true.mp hr l hl)
 refine⟨H2,I2,fun b u e=>?_,?_,fun b hbm=>?_,Paired.app slr ?_⟩
 ·
  have hno:b∉owns ρ:=fun z=>by have:=E.off b z;rw[e]at this;cases this
  have hnk:b∉aE k:=fun z=>hno (prm.mem_iff.mpr (List.mem_append_left _ z))
  rw[T.1 b hnk]
  refine hb b u ?_ fun z=>hno (prm.mem_iff.mpr (List.mem_append_right _ z))
  rw[F.2.1 b hnk]
  exact E.sub b u e
 ·
  rw[ar,List.nodup_append]
  refine⟨ne1,E.nd,fun c hc d hd z=>?_⟩
  subst z
  obtain⟨h1,h2,h3⟩:=lamS c hc
  rcases List.mem_append.mp (prm.mem_iff.mp hd)with z|z
  ·
   exact h1 z
  ·
   exact h3 z
 ·
  rw[ar]at hbm
  rcases List.mem_append.mp hbm with z|z
  ·
   exact(lamS b z).2.1
  ·
   exact E.off b z
 ·
  obtain⟨sv,hs,q⟩:=E.slot hi
  have:=Paired.set_r (b:=k) i slt fun s es=>by
   rw[hs]at es
   cases es
   exact q.pres P k back
  rw[List.set_set]at this
  have e2:ρ.set i k=ρ:=by
   refine List.ext_getElem? fun j=>?_
   by_cases hj:j=i
   ·
    subst hj;rw[List.getElem?_set_self hil,hi]
   ·
    rw[List.getElem?_set_ne (Ne.symm hj)]
  rwa [e2]at this
def pkW(o:Option L)(i:Nat)(t:W L)(ρ:Ev)(post:L→Ev→Prop):Prop:=match o with
 |some (.own _ xs)=>cn i ρ=true∧t (ρ.set i (.d (.lst xs))) fun r ρ'=>noLr r=true∧ρ'=ρ.set i (.d (.lst xs))∧post r ρ
 |some (.bx b ls)=>cn i ρ=true∧toDB b ls fun x=>t (ρ.set i (.d x)) fun r ρ'=>noLr r=true∧ρ'=ρ.set i (.d x)∧post r ρ
 |_=>t ρ post
def oF(i:Nat)(t:W L):W L:=fun ρ post=>pkW ρ[i]? i t ρ post
theorem BO(a:Addr)(xs:List D)(i:Nat)(t:W L)(ρ:Ev)(post:L→Ev→Prop):pkW (some (.own a xs)) i t ρ post=(cn i ρ=true∧t (ρ.set i (.d (.lst xs))) fun r ρ'=>noLr r=true∧ρ'=ρ.set i (.d (.lst xs))∧post r ρ):=(rfl)
theorem DB(b:Option Addr)(ls:List L)(i:Nat)(t:W L)(ρ:Ev)(post:L→Ev→Prop):pkW (some (.bx b ls)) i t ρ post=(cn i ρ=true∧toDB b ls fun x=>t (ρ.set i (.d x)) fun r ρ'=>noLr r=true∧ρ'=ρ.set i (.d x)∧post r ρ):=(rfl)
theorem EM(x:D)(i:Nat)(t:W L)(ρ:Ev)(post:L→Ev→Prop):pkW (some (.d x)) i t ρ post=t ρ post:=(rfl)
theorem rP{X:Cx}{pins:List (Addr×Obj)}{s:Shared}{σ:St}{H Pr:Hp}{ρ:Ev}{i:Nat}{k:L}{x:D}(I:Inv X pins σ H s)(E:REnv X.K Pr H σ ρ)(hi:ρ[i]?=some k)(hx:bh k=some x):∃H1,Inv X pins σ H1 s∧REnv X.K Pr H1 σ (ρ.set i (.d x))∧jv H H1 (aE k)∧∀a∈aE k,∃vs,H a=some (.lst vs):=by
 obtain⟨sv,hs,sl⟩:=E.slot hi
 obtain⟨H1,I1,E1,F⟩:=frzL k I (E.outL hi hs) hx
 have hil:i<ρ.length:=(List.getElem?_eq_some_iff.mp hi).1
 have E2:=E1.back (i:=i) (by rw[List.getElem?_set_self hil]) hs
 rw[List.set_set]at E2
 exact⟨H1,I1,E2,F,sl.lsts k hx⟩
theorem kr{X:Cx}{e:Expr}(i:Nat){t:W L}(h:PL X e t):PL X e (oF i t):=by
 intro pins s σ H Pr ρ post I E hw
 have go:∀(k:L)(x:D),ρ[i]?=some k→bh k=some x→cn i ρ=true→(t (ρ.set i (.d x)) fun r ρ'=>noLr r=true∧ρ'=ρ.set i (.d x)∧post r ρ)→wpAny (model X.prog X.w) X.A (eval e X.env) (EL X pins σ Pr post) X.xe s:=by
  intro k x hi hx hfl hw
  obtain⟨H1,I1,E1,F,Sa⟩:=rP I E hi hx
  refine thn (h pins s σ _ _ _ _ I1 E1.wide hw) fun u s1 ⟨v,H',r,ρ',I',rv,E',hr,eρ,hp⟩=>?_
  subst eρ
  obtain⟨H2,I2,E2⟩:=qf (τ:=[some v]) (lam:=[r]) (v:=some v) I E hi Sa F hfl I' E1 E' rfl (by simpa using hr)
  exact⟨v,H2,r,ρ,I2,rv,E2,hp⟩
 unfold oF pkW at hw
 split at hw
 ·
  rename_i a xs hi
  exact go _ _ hi rfl hw.1 hw.2
 ·
  rename_i b ls hi
  obtain⟨x,hx,hw'⟩:=n8 hw.2
  exact go _ _ hi hx hw.1 hw'
 ·
  exact h pins s σ H Pr ρ post I E hw
def pkB(o:Option L)(i:Nat)(t:W Bool)(ρ:Ev)(post:Bool→Ev→Prop):Prop:=match o with
 |some (.own _ xs)=>cn i ρ=true∧t (ρ.set i (.d (.lst xs))) fun r ρ'=>ρ'=ρ.set i (.d (.lst xs))∧post r ρ
 |some (.bx b ls)=>cn i ρ=true∧toDB b ls fun x=>t (ρ.set i (.d x)) fun r ρ'=>ρ'=ρ.set i (.d x)∧post r ρ
 |_=>t ρ post
def t5(i:Nat)(t:W Bool):W Bool:=fun ρ post=>pkB ρ[i]? i t ρ post
theorem BP(a:Addr)(xs:List D)(i:Nat)(t:W Bool)(ρ:Ev)(post:Bool→Ev→Prop):pkB (some (.own a xs)) i t ρ post=(cn i ρ=true∧t (ρ.set i (.d (.lst xs))) fun r ρ'=>ρ'=ρ.set i (.d (.lst xs))∧post r ρ):=(rfl)
theorem DC(b:Option Addr)(ls:List L)(i:Nat)(t:W Bool)(ρ:Ev)(post:Bool→Ev→Prop):pkB (some (.bx b ls)) i t ρ post=(cn i ρ=true∧toDB b ls fun x=>t (ρ.set i (.d x)) fun r ρ'=>ρ'=ρ.set i (.d x)∧post r ρ):=(rfl)
theorem EN(x:D)(i:Nat)(t:W Bool)(ρ:Ev)(post:Bool→Ev→Prop):pkB (some (.d x)) i t ρ post=t ρ post:=(rfl)
theorem BQ{X:Cx}{e:Expr}(i:Nat){t:W Bool}(h:PB X e t):PB X e (t5 i t):=by
 intro pins s σ H Pr ρ post I E hw
 have go:∀(k:L)(x:D),ρ[i]?=some k→bh k=some x→cn i ρ=true→(t (ρ.set i (.d x)) fun r ρ'=>ρ'=ρ.set i (.d x)∧post r ρ)→wpAny (model X.prog X.w) X.A (isTrue e X.env (eval e X.env)) (EB X pins σ Pr post) X.xe s:=by
  intro k x hi hx hfl hw
  obtain⟨H1,I1,E1,F,Sa⟩:=rP I E hi hx
  refine thn (h pins s σ _ _ _ _ I1 E1.wide hw) fun u s1 ⟨H',ρ',I',E',eρ,hp⟩=>?_
  subst eρ
  obtain⟨H2,I2,E2⟩:=qf (τ:=[]) (lam:=[]) (v:=none) I E hi Sa F hfl I' E1 E' rfl rfl
  exact⟨H2,ρ,I2,E2,hp⟩
 unfold t5 pkB at hw
 split at hw
 ·
  rename_i a xs hi
  exact go _ _ hi rfl hw.1 hw.2
 ·
  rename_i b ls hi
  obtain⟨x,hx,hw'⟩:=n8 hw.2
  exact go _ _ hi hx hw.1 hw'
 ·
  exact h pins s σ H Pr ρ post I E hw
variable{X:Cx}
variable{X:Cx}
variable{X:Cx}
section
variable{X:Cx}{e a b c:Expr}{es:List Expr}{pos p p2:Pos}{ta:W L}{x y:Str}
def kZ:List (Op2×W L)→D→W L
 |[],_=>fun _ _=>False
 |[(o,t)],dx=>fun ρ post=>t ρ fun y ρ1=>toD y fun dy=>o dx dy fun r=>isBl r fun k=>post (.d (.bl k)) ρ1
 |(o,t)::q::r,dx=>fun ρ post=>t ρ fun y ρ1=>toD y fun dy=>o dx dy fun z=>isBl z fun k=>if k=true then kZ (q::r) dy ρ1 post else post (.d (.bl false)) ρ1
def oG(ta:W L)(ls:List (Op2×W L)):W L:=fun ρ post=>ta ρ fun x ρ1=>toD x fun dx=>kZ ls dx ρ1 post
inductive l7 (X:Cx):List CmpOp→List Expr→List (Op2×W L)→Prop where
 |one {op:CmpOp} {e:Expr} {o:Op2} {t:W L} (ho:OpD X (compareOp op) o) (h:PL X e t):l7 X [op] [e] [(o,t)]
 |cons {op:CmpOp} {e:Expr} {o:Op2} {t:W L} {ops:List CmpOp} {es:List Expr} {ls:List (Op2×W L)} (ho:OpD X (compareOp op) o) (h:PL X e t) (r:l7 X ops es ls):l7 X (op::ops) (e::es) ((o,t)::ls)
theorem oH{op:CmpOp}{o:Op2}{pins:List (Addr×Obj)}{s:Shared}{σ:St}{H Pr:Hp}{ρ:Ev}{v:V}{u:Value}{dx:D}{R:Bool→D→Ev→Prop}{t:W L}{Q:Value→Value→Shared→Prop}(ho:OpD X (compareOp op) o)(h:PL X e t)
  (I:Inv X pins σ H s) (rv:RelV v u) (E:REnv X.K Pr H (some v::σ) (.d dx::ρ)) (ht:t ρ fun y ρ1=>toD y fun dy=>o dx dy fun r=>isBl r fun k=>R k dy ρ1)
  (hQ:∀u2 s3 w2 dy H3 ρ1 k,Inv X pins σ H3 s3→RelV w2 u2→REnv X.K Pr H3 (some w2::σ) (.d dy::ρ1)→R k dy ρ1→Q u2 (.bool k) s3) :
  wpAny (model X.prog X.w) X.A (eval e X.env) (fun b s₁=>wpAny (model X.prog X.w) X.A (compareOp op u b) (fun c s₂=>Q b c s₂) X.xe s₁) X.xe s:=by
 refine thn (h pins s σ H _ ρ _ I E.tail.wide ht) fun u2 s2 q=>?_
 obtain⟨y,H2,dy,ρ2,I2,r2,E2,q2⟩:=EL.frz (post:=fun dy ρ1=>o dx dy fun r=>isBl r fun k=>R k dy ρ1) q
 have E3:REnv X.K Pr H2 (some y::some v::σ) (.d dy::.d dx::ρ2):=REnv.step (τ:=[some v]) (lam:=[.d dx]) (w:=[some y]) (μ:=[.d dy]) E rfl E2 rfl
 obtain⟨_,e1,p1⟩:=E3.head_d
 obtain⟨_,e2,p2⟩:=E3.tail.head_d
 cases e1
 cases e2
 have E4:REnv X.K Pr H2 σ ρ2:=E3.tail.tail
 have E5:REnv X.K Pr H2 (some y::σ) (.d dy::ρ2):=E4.cons_d p1
 have E5w:=E5
 refine thn (ho pins s2 σ H2 (aS H2 ρ2) ρ2 v y u u2 dx dy _ I2 rv r2 E4.wide p2 p1 q2) fun w s3 ⟨z,H3,r,I3,rz,E6,pp⟩=>?_
 obtain⟨k,rfl,pp⟩:=n9 pp
 obtain⟨_,e3,p3⟩:=E6.head_d
 cases e3
 cases p3
 cases rz
 have P3:Pres H2 H3:=n6 E4 E6.sub
 have E7:REnv X.K Pr H3 σ ρ2:=E4.narrow E6.tail
 exact hQ u2 s3 y dy H3 ρ2 k I3 r2 (E7.cons_d (p1.pres P3)) pp
theorem zk{ops:List CmpOp}{es:List Expr}{ls:List (Op2×W L)}(h:l7 X ops es ls):∀(pins:List (Addr×Obj))(s:Shared)(σ:St)(H Pr:Hp)(ρ:Ev)(post:L→Ev→Prop)(v:V)(u:Value)(dx:D)(pos:Pos),Inv X pins σ H s→RelV v u→REnv X.K Pr H (some v::σ) (.d dx::ρ)→kZ ls dx ρ post →
  wpAny (model X.prog X.w) X.A (compareChain pos u ops (evalEach es X.env)) (EL X pins σ Pr post) X.xe s:=by
 induction h with
 | one ho h =>
  intro pins s σ H Pr ρ post v u dx pos I rv E hl
  refine chain_last ?_
  exact oH (R:=fun k _ ρ1=>post (.d (.bl k)) ρ1) (Q:=fun _ c s=>EL X pins σ Pr post c s) ho h I rv E hl fun u2 s3 w2 dy H3 ρ1 k I3 r3 E3 q=>⟨.bl k,H3,_,ρ1,I3,rfl,E3.tail.cons_d (.bl k),q⟩
 | @cons op e o t ops es ls ho h r ih =>
  intro pins s σ H Pr ρ post v u dx pos I rv E hl
  cases r with
  | one ho2 h2 =>
   refine chain_link (oH (R:=fun k dy ρ1=>if k=true then kZ [_] dy ρ1 post else post (.d (.bl false)) ρ1) (Q:=fun b c s=>wpAny (model X.prog X.w) X.A (truthy c) (fun t s₃=>if t then _ else EL X pins σ Pr post c s₃) X.xe s) ho h I rv E hl fun u2 s3 w2 dy H3 ρ1 k I3 r3 E3 q=>?_)
   refine wpAny_truthy_bool ?_
   cases k with
   |false=>exact ite_ff ⟨.bl false,H3,_,ρ1,I3,rfl,E3.tail.cons_d (.bl false),q⟩
   |true=>exact ite_tt (ih pins s3 σ H3 Pr ρ1 post w2 u2 dy pos I3 r3 E3 q)
  | cons ho2 h2 r2 =>
   cases r2 with
   | one ho3 h3 =>
    refine chain_link (oH (R:=fun k dy ρ1=>if k=true then kZ (_::_::_) dy ρ1 post else post (.d (.bl false)) ρ1) (Q:=fun b c s=>wpAny (model X.prog X.w) X.A (truthy c) (fun t s₃=>if t then _ else EL X pins σ Pr post c s₃) X.xe s) ho h I rv E hl fun u2 s3 w2 dy H3 ρ1 k I3 r3 E3 q=>?_)
    refine wpAny_truthy_bool ?_
    cases k with
    |false=>exact ite_ff ⟨.bl false,H3,_,ρ1,I3,rfl,E3.tail.cons_d (.bl false),q⟩
    |true=>exact ite_tt (ih pins s3 σ H3 Pr ρ1 post w2 u2 dy pos I3 r3 E3 q)
   | cons ho3 h3 r3 =>
    refine chain_link (oH (R:=fun k dy ρ1=>if k=true then kZ (_::_::_) dy ρ1 post else post (.d (.bl false)) ρ1) (Q:=fun b c s=>wpAny (model X.prog X.w) X.A (truthy c) (fun t s₃=>if t then _ else EL X pins σ Pr post c s₃) X.xe s) ho h I rv E hl fun u2 s3 w2 dy H3 ρ1 k I3 r3 E3 q=>?_)
    refine wpAny_truthy_bool ?_
    cases k with
    |false=>exact ite_ff ⟨.bl false,H3,_,ρ1,I3,rfl,E3.tail.cons_d (.bl false),q⟩
    |true=>exact ite_tt (ih pins s3 σ H3 Pr ρ1 post w2 u2 dy pos I3 r3 E3 q)
theorem qg{op op':CmpOp}{ops:List CmpOp}{r1 r2:Expr}{rs:List Expr}{ls:List (Op2×W L)}(ha:PL X a ta)(h:l7 X (op::op'::ops) (r1::r2::rs) ls)(hm:lastMarks (op::op'::ops) (r1::r2::rs)=false:=by with_unfolding_all rfl):PL X (.Compare a (op::op'::ops) (r1::r2::rs) pos) (oG ta ls):=by
 intro pins s σ H Pr ρ post I E ht
 refine Compare_chain (thn (ha pins s σ H Pr ρ _ I E ht) fun u s1 q=>?_) hm
 obtain⟨v,H1,dx,ρ1,I1,rv,E1,q1⟩:=EL.frz (post:=fun dx ρ1=>kZ ls dx ρ1 post) q
 exact zk h pins s1 σ H1 Pr ρ1 post v u dx pos I1 rv E1 q1
theorem rQ{prog:Program}{w:World}{A:Around}{ks:List Bool}{us:List Value}(h:us=ks.map Value.bool):TruthOf prog w A (fun i v=>us.toArray[i]?=some v) (fun i=>ks.getD i true):=fun i v s Q E hv hQ=>by
 subst h
 rw[List.getElem?_toArray,List.getElem?_map]at hv
 cases q:ks[i]? with
 |none=>rw[q]at hv;cases hv
 | some k =>
  rw[q]at hv
  cases hv
  refine wpAny_truthy_bool ?_
  have:ks.getD i true=k:=by rw[List.getD_eq_getElem?_getD,q];rfl
  have hQ':Q (ks.getD i true) s:=hQ
  rw[this]at hQ'
  exact hQ'
theorem wX(ks:List Bool):(List.range ks.length).any (fun i=>ks.getD i true)=ks.any id:=by
 apply Bool.eq_iff_iff.mpr
 simp only[List.any_eq_true,List.mem_range,id]
 constructor
 ·
  rintro⟨i,hi,e⟩
  rw[List.getD_eq_getElem?_getD,List.getElem?_eq_getElem hi]at e
  exact⟨_,List.getElem_mem hi,e⟩
 ·
  rintro⟨x,hx,e⟩
  obtain⟨i,hi,e2⟩:=List.getElem_of_mem hx
  refine⟨i,hi,?_⟩
  rw[List.getD_eq_getElem?_getD,List.getElem?_eq_getElem hi]
  simpa[e2]using e
theorem nG:∀{ks:List Bool}{us:List Value},Vals (ks.map V.bl) us→us=ks.map Value.bool
 |[],_,.nil=>rfl
 | k::ks,_,.cons r t=>by
  have e:=nG t
  subst e
  cases r
  rfl
theorem qh(hc:X.calm=true):iU X (.builtin "any") (fun xs H Q=>∃(p:Addr)(ks:List Bool),xs=[.ref p]∧SqL X.K H p (ks.map V.bl)∧Q (.bl (ks.any id)) H):=by
 intro pins s σ H xs us Q I r ⟨p,ks,e,hq,q⟩
 subst e
 obtain⟨u,rfl,r1⟩:=rl r
 cases r1
 obtain⟨its,rv,pl,hz⟩:=I.list hq
 have e:=nG rv
 refine call_any_walk (wpAny_pyIter_list pl.isList ?_)
 have hne:p≠s.heap.objs.size:=fun z=>by
  obtain⟨o,n,eo,_⟩:=pl
  have:=Heap.lt_size eo
  rw[z]at this
  exact absurd this (Nat.lt_irrefl _)
 refine⟨s.heap.objs.size,_,_,_,_,_,(fun i=>ks.getD i true),rfl,Walks.list (A:=X.A.in1) (I.ok.hd hc) _ p hne its.toArray,⟨⟨_,Heap.get?_push_size _ rfl,rfl,rfl⟩,pl.isList.at fun o eo=>Heap.get?_push_of_some _ eo⟩,rQ e,fun h' tk hk=>?_⟩
 have hl:its.toArray.size=ks.length:=by rw[e];simp
 rw[hl,wX]
 refine⟨.bl _,H,I.kept (h':=h') (t':=tk) fun b o eb=>hk b o (fun hm=>?_) (Heap.get?_push_of_some _ eb),rfl,q⟩
 have e2:b=s.heap.objs.size:=by simpa using hm
 have:=Heap.lt_size eb
 rw[e2]at this
 exact absurd this (Nat.lt_irrefl _)
theorem jF{K:PySem.W.Frag}{H:Hp}:∀{vs:List V}{ks:List Bool},Reps K H vs (ks.map D.bl)→vs=ks.map V.bl
 |[],[],_=>rfl
 | _::_,k::ks,.cons r t=>by
  cases r
  rw[jF t];rfl
 |[],_::_,r=>nomatch r
 |_::_,[],r=>nomatch r
def DD:OpN:=fun ds k=>∃ks:List Bool,ds=[.lst (ks.map D.bl)]∧k (.d (.bl (ks.any id)))
theorem DE(hc:X.calm=true):fT X (.builtin "any") DD:=fT.of (qh hc) fun σ H Pr ρ vs ds post E ps ⟨ks,e,h⟩=>by
 subst e
 obtain⟨v,rfl,r⟩:=oh ps
 cases r with
 | lst hz rs =>
  have e:=jF rs
  subst e
  exact⟨_,ks,rfl,hz.l,_,E.cons_d (.bl _),h⟩
end
end L2
set_option exponentiation.threshold 2000
namespace L2
open PySem PySem.Spec PyProof.Rows
section
variable{e a:Expr}{x:Str}
mutual
def eM:D→Bool
 |.int i=>decide (i.natAbs<2^1900)
 |.tup xs=>iY xs
 |.lst xs=>iY xs
 |_=>true
def iY:List D→Bool
 |[]=>true
 |x::xs=>eM x && iY xs
end
theorem BR:(2:Nat)^1900<10^600:=by decide +kernel
theorem wY{i:Int}(h:i.natAbs<2^1900):(PyData.shown (.int i)).length≤601:=by
 have e:=PySem.int_text_length_le10 (k:=600) (by decide) (Nat.lt_trans h BR)
 show(Str.ofString (toString i)).length≤601
 rw[PySem.ofString_length];exact e
mutual
theorem jG:∀d:D,eM d=true→(toP d).intsShort 601=true∧(toP d).showable=true
 |.non,_=>⟨rfl,rfl⟩
 |.bl _,_=>⟨rfl,rfl⟩
 |.str _,_=>⟨rfl,rfl⟩
 |.dct _,_=>⟨rfl,rfl⟩
 |.exc _ _ _,_=>⟨rfl,rfl⟩
 |.fn _ _,_=>⟨rfl,rfl⟩
 | .int i,h=>by
  have h':i.natAbs<2^1900:=by simpa only[eM,decide_eq_true_eq]using h
  refine⟨by simp only[toP,PyData.intsShort,decide_eq_true_eq];exact wY h',?_⟩
  simp only[toP,PyData.showable,decide_eq_true_eq]
  by_cases h0:i.natAbs=0
  ·
   rw[h0];decide
  ·
   exact(Nat.log2_lt h0).mpr (Nat.lt_of_lt_of_le h' (Nat.pow_le_pow_right (by decide) (by decide)))
 | .tup xs,h=>by
  obtain⟨h1,h2⟩:=l8 xs (by simpa only[eM]using h)
  exact⟨by simpa only[toP,PyData.intsShort]using h1,by simpa only[toP,PyData.showable]using h2⟩
 | .lst xs,h=>by
  obtain⟨h1,h2⟩:=l8 xs (by simpa only[eM]using h)
  exact⟨by simpa only[toP,PyData.intsShort]using h1,by simpa only[toP,PyData.showable]using h2⟩
theorem l8:∀ds:List D,iY ds=true→PyData.intsShortAll 601 (toPs ds)=true∧PyData.showableAll (toPs ds)=true
 |[],_=>⟨rfl,rfl⟩
 | d::ds,h=>by
  simp only[iY,Bool.and_eq_true]at h
  obtain⟨h1,h2⟩:=jG d h.1
  obtain⟨h3,h4⟩:=l8 ds h.2
  exact⟨by simp only[toPs,PyData.intsShortAll,h1,h3,Bool.and_self],by simp only[toPs,PyData.showableAll,h2,h4,Bool.and_self]⟩
end
structure t6 (d:D):Prop where
 ok:okD 40 d=true
 sh:eM d=true
 wt:(toP d).weight≤20000
theorem t6.len{d:D}(h:t6 d):(toP d).shown.length≤sizeLine:=by
 have h1:=PyData.shown_le 601 (by decide) (toP d) (PyData.leavesShort_of_canLay0 601 _ (oA 40 d h.ok).1 (jG d h.sh).1)
 have h2:=h.wt
 have e:sizeLine=16777216:=by decide
 rw[e]
 omega
def fzW(f:Fl)(o:Option L)(j:Nat)(ρ1:Ev)(post:Fl→Ev→Prop):Prop:=match f with
 | .nx=>(match o with
  |some (.own _ xs)=>post .nx (ρ1.set j (.d (.lst xs)))
  |_=>post .nx ρ1)
 |f=>post f ρ1
theorem BS(a:Addr)(xs:List D)(j:Nat)(ρ1:Ev)(post:Fl→Ev→Prop):fzW .nx (some (.own a xs)) j ρ1 post=post .nx (ρ1.set j (.d (.lst xs))):=(rfl)
theorem EO(x:D)(j:Nat)(ρ1:Ev)(post:Fl→Ev→Prop):fzW .nx (some (.d x)) j ρ1 post=post .nx ρ1:=(rfl)
end
structure FX (K:PySem.W.Frag) (mg:Str→Option Value) (g:Str) (st:Stmt) (a:Addr) (fd:FuncData) (P:List Str):Prop where
 f:Fun K g g st a fd
 b:kf K fd P []
 m:mg g=some (.ref a)
abbrev fdM(g:Str)(st:Stmt)(md:Value)(c:Nat):FuncData:=PySem.W.fnOf g g (fX st) (dh st) (ak st) .none .none .none md none (.ref c) .none
theorem FX.mk'{K:PySem.W.Frag}{mg:Str→Option Value}{h:Heap}(X:K.In h)(G:h.Ns mainGlobals mg){g:Str}{st:Stmt}{a:Addr}{c:Nat}{md:Value}{P:List Str}(e1:PySem.W.nsIn K mainGlobals g=some (some (.ref a)))
  (e2:K.lookup a=some ⟨.type "function",none,.func (fdM g st md c),#[]⟩) (e3:PySem.W.codeIn K (.ref c) g=true) (e4:PySem.W.keepIn K (.ref a)=true)
  (e5:∀(kV doc pm:Value)(an:Option Addr)(cdv ct:Value)(us:List Value),us.length=P.length→bindArgs (PySem.W.fnOf g g (fX st) (dh st) (ak st) .none kV doc pm an cdv ct) ⟨us,[]⟩=pure (P.zip us)):FX K mg g st a (fdM g st md c) P :=
 ⟨ny e2 e3 e4,(ny e2 e3 e4).binds e5,PySem.W.mg_of X G e1⟩
section
variable{X:Cx}{k k' n:Nat}{f:Addr}{fd:FuncData}{ps:List Str}{fs:FS}{g:Str}{st:Stmt}{e:Expr}{es:List Expr}{bs:List (Option Nat)}{t:W (List L)}{p pos:Pos}
theorem aH(F:FnOk X.prog X.w X.K X.mg X.base CX0 k f fd ps (spF X.K n fs))(T:FX X.K X.mg g st f fd ps)(hr:Room k' X.A)(ha:PAL X (e::es) bs t)(hk:k≤k':=by decide)(hg:Gl X g:=by rfl)(hn:bs.length=n:=by rfl) (hdb:(g == ("__debug__" : Str))=false:=by decide) (he:starEach (e::es) X.env=(false,eval e X.env)::starEach es X.env:=by rfl) (hpl:(backTo pos (starEach es X.env)).any (·.1)=false:=by rfl) :
  PL X (.Call (.Name g p) (e::es) [] pos) (aF fs t):=Bn F (hr.mono hk) hg T.m T.f.kp T.b Bd ha hn hdb he hpl
theorem bp(F:FnOk X.prog X.w X.K X.mg X.base CX0 k f fd ps (spF X.K n fs))(T:FX X.K X.mg g st f fd ps)(hr:Room k' X.A)(j i:Nat)(ha:PAL X (e::es) bs t)(hk:k≤k':=by decide)(hg:Gl X g:=by rfl)(hj:bs[j]?=some (some i):=by rfl)(hn:bs.length=n:=by rfl) (hdb:(g == ("__debug__" : Str))=false:=by decide) (he:starEach (e::es) X.env=(false,eval e X.env)::starEach es X.env:=by rfl) (hpl:(backTo pos (starEach es X.env)).any (·.1)=false:=by rfl) :
  PL X (.Call (.Name g p) (e::es) [] pos) (ba fs j i t):=y1 F (hr.mono hk) hg T.m T.f.kp T.b Bd j i ha hj hn hdb he hpl
end
section
variable{X:Cx}
theorem zl:OpR X (binaryOp .Add) (fun x y H Q=>∃l b xs zs,x=.ref l∧y=.ref b∧SqT X.K H l xs∧SqT X.K H b zs∧xs≠[]∧zs≠[]∧xs.length+zs.length≤sizeLine∧∀p,H p=none→Q (.ref p) (upd H p (.tup (xs++zs)))):=by
 intro pins s σ H x y v u Q I rx ry h
 obtain⟨l,b,xs,zs,rfl,rfl,hH,hB,n1,n2,hz,q⟩:=h
 cases rx
 cases ry
 obtain⟨its,r,⟨o,e,c,n,f⟩,z⟩:=I.tuple hH
 obtain⟨its2,r2,⟨o2,e2,c2,m,f2⟩,z2⟩:=I.tuple hB
 obtain⟨cl,dd,dt,sl⟩:=o
 obtain⟨cl2,dd2,dt2,sl2⟩:=o2
 simp only at c f c2 f2
 subst c f c2 f2
 have hl:=r.length
 have hl2:=r2.length
 have k1:its≠[]:=fun e=>n1 (List.length_eq_zero_iff.mp (by rw[hl,e];rfl))
 have k2:its2≠[]:=fun e=>n2 (List.length_eq_zero_iff.mp (by rw[hl2,e];rfl))
 refine concat_meets ⟨_,e,rfl⟩ ⟨_,e2,rfl⟩ noFill_tuple_add seq_tuple_add PySem.F.slot_tuple_add PySem.F.entry_tuple_add (PySem.F.args_tuple_add_2 _ _) (tuple_addW2 l b its.toArray its2.toArray n m dd dd2 sl sl2 (by simpa using k1) (by simpa using k2) (by rw[List.size_toArray,List.size_toArray];omega)) ⟨e,e2,?_⟩
 have ea:its.toArray++its2.toArray=(its++its2).toArray:=by simp
 rw[ea]
 exact⟨.ref _,upd H s.heap.objs.size (.tup (xs++zs)),I.laid (o:=.tup (xs++zs)) (fun _ _ q=>Heap.get?_push_of_some _ q) (Nat.le_refl _) ⟨by rw[List.length_append];omega,its++its2,r.append r2,⟨_,Heap.get?_push_size _ rfl,rfl,_,rfl⟩⟩,rfl,q _ I.fresh⟩
def t7:Op2:=fun x y k=>match x,y with
 |.tup xs,.tup ys=>xs≠[]∧ys≠[]∧xs.length+ys.length≤sizeLine∧k (.d (.tup (xs++ys)))
 |_,_=>False
theorem BU:OpD X (binaryOp .Add) t7:=(OpD.of zl (op:=fun x y k=>∃xs ys,x=.tup xs∧y=.tup ys∧xs≠[]∧ys≠[]∧xs.length+ys.length≤sizeLine∧k (.d (.tup (xs++ys)))) (fun σ H Pr ρ x y dx dy post E px py ⟨xs,ys,e1,e2,m1,m2,z,h⟩=>by
  subst e1 e2
  cases px with
  | tup h1 r1 =>
   cases py with
   | tup h2 r2 =>
    refine⟨_,_,_,_,rfl,rfl,h1,h2,fun e=>m1 ?_,fun e=>m2 ?_,by rw[r1.length,r2.length];exact z,fun p hp=>⟨_,E.cons_tup hp (r1.append r2),h⟩⟩
    ·
     exact List.length_eq_zero_iff.mp (by rw[← r1.length,e];rfl)
    ·
     exact List.length_eq_zero_iff.mp (by rw[← r2.length,e];rfl))).imp fun x y k h=>by
 unfold t7 at h
 split at h
 ·
  exact⟨_,_,rfl,rfl,h⟩
 ·
  exact h.elim
end
mutual
def depD:D→Nat
 |.tup xs=>rR xs+1
 |.lst xs=>rR xs+1
 |_=>0
def rR:List D→Nat
 |[]=>0
 |x::xs=>max (depD x) (rR xs)
end
theorem t8{n:Nat}:∀{xs:List D},(∀x∈xs,depD x≤n)→rR xs≤n
 |[],_=>Nat.zero_le _
 | y::ys,h=>by
  simp only[rR]
  have:=h y List.mem_cons_self
  have:=t8 (xs:=ys) fun x hx=>h x (List.mem_cons_of_mem _ hx)
  omega
end L2
namespace L2
open PySem PySem.Spec PyProof.Rows PySem.Builtin.Str
inductive Sk where
 |l|t
abbrev Zi:=Sk×Addr×Addr
def Zi.ofs(js:List Zi):List Addr:=js.map (·.2.1)
def DF(z O:Addr)(js:List Zi)(h h':Heap):Prop:=∀c o,c∉z::O::Zi.ofs js→h.get? c=some o→h'.get? c=some o
def Sk.nm:Sk→String
 |.l=>"list_iterator"
 |.t=>"tuple_iterator"
section
variable{z O:Addr}{js:List Zi}
theorem DF.mono{h h':Heap}(k:DF z O js h h'){c:Addr}{o:Obj}(hc:c∉z::O::Zi.ofs js)(e:h.get? c=some o):h'.get? c=some o:=k c o hc e
end
end L2
namespace L2
open PySem PySem.Spec PyProof.Rows
end L2
namespace L2
open PySem PySem.Spec PyProof.Rows PySem.W
def BV(K:Frag)(C fI:Addr):Bool:=(match K.lookup C with
 | some ⟨.type "type",_,.cls cd,sl⟩=>(match cd.mro,sl.toList with
  |.ref C'::bm,[_,_,_,_,some (.builtin n),_]=>C' == C && n == "ValueError.__new__" && !cd.hasDel && bm.contains (.type "ValueError") && !(bm.contains (.type "AttributeError")) && !(bm.contains (.type "NameError"))
  |_,_=>false)
 |_=>false) && findIn K (.ref C) "__init__" == some (some (.ref fI)) && typeIn K (.ref fI) == some (.type "function")
structure XMk (K:Frag) (C fI:Addr):Prop where
 ex:∃ nm q N bs bm hdct sn sub ab col dd k0 k1 k2 k3 k5,K.lookup C=some (excClassObj nm q C N bs bm hdct sn sub ab col dd k0 k1 k2 k3 k5 "ValueError.__new__")∧bm.contains (.type "ValueError")=true∧bm.contains (.type "AttributeError")=false∧bm.contains (.type "NameError")=false
 init:findIn K (.ref C) "__init__"=some (some (.ref fI))
 fn:typeIn K (.ref fI)=some (.type "function")
theorem DG{K:Frag}{C fI:Addr}(h:BV K C fI=true):XMk K C fI:=by
 unfold BV at h
 simp only[Bool.and_eq_true,beq_iff_eq]at h
 obtain⟨⟨h,h1⟩,h2⟩:=h
 refine⟨?_,h1,h2⟩
 split at h
 ·
  rename_i dd cd sl ho
  split at h
  ·
   rename_i C' bm k0 k1 k2 k3 n k5 hm hs
   simp only[Bool.and_eq_true,beq_iff_eq,Bool.not_eq_true']at h
   obtain⟨⟨⟨⟨⟨rfl,rfl⟩,hdel⟩,e1⟩,e2⟩,e3⟩:=h
   obtain⟨nm,bs,mro,ns,qn,hd,sn,sub,ab,col,del⟩:=cd
   dsimp only at hm hdel
   subst hm hdel
   obtain⟨l⟩:=sl
   simp only at hs
   subst hs
   exact⟨nm,qn,ns,bs,bm,hd,sn,sub,ab,col,dd,k0,k1,k2,k3,k5,ho,e1,e2,e3⟩
  ·
   cases h
 ·
  cases h
section
variable{prog:Program}{w:World}{A:Around}{E:Value→Shared→Prop}{h:Heap}{g:Array GenState}{d:Drawn}{t:Nat}{os:OsState}
variable{nm q:Str}{C N:Addr}{bs bm:List Value}{hdct:Bool}{sn:List Str}{sub:List Value}{ab:Bool}{col:Option Bool}{dd:Option Addr}{k0 k1 k2 k3 k5:Option Value}
theorem ve{M:Model}{rest:List Value}{Q:Unit→Shared→Prop} (hC:h.get? C=some (excClassObj nm q C N bs bm hdct sn sub ab col dd k0 k1 k2 k3 k5 "ValueError.__new__")) (hv:bm.contains (.type "ValueError")=true)
  (hq:Q () ⟨h,g,d,t,os⟩):wpAny M A (checkBuiltinCall "ValueError.__new__" ⟨.ref C::rest,[]⟩) Q E ⟨h,g,d,t,os⟩:=by
 have FB:=F.excBase_ValueError
 have hb:(Value.ref C::bm).contains (.type "ValueError")=true:=by rw[List.contains_cons,hv,Bool.or_true]
 have hst:=FB.noStar
 simp only[checkBuiltinCall,FB.newKind,FB.newSplit,FB.newRow]
 repeat (first|refine wpAny_loadPart_at hC ?_|(refine wpAny_isSubtype_exc hC ?_;rw[hb])|refine wpAny_staticBase_exc hC ?_|refine wpAny_madeBy_exc hC ?_|simp only[bne_self_eq_false,Bool.false_eq_true,if_false] | wp_step)
 exact hq
theorem zm{rest:List Value}{R:Result→Shared→Prop} (hC:h.get? C=some (excClassObj nm q C N bs bm hdct sn sub ab col dd k0 k1 k2 k3 k5 "ValueError.__new__")) (hv:bm.contains (.type "ValueError")=true) (ha:bm.contains (.type "AttributeError")=false) (hn:bm.contains (.type "NameError")=false)
  (hz:rest.length≤sizeLine) (hq:R (.ok (.ret (.ref (h.objs.size+1)))) ⟨(h.push {cls:=.type "tuple",data:=.seq rest.toArray}).push {cls:=.ref C,data:=.fields #[.ref h.objs.size,.none,.none,.none,.bool false,.none] },g,d,t,os⟩) :
  codeAny (model prog w) A (.builtin "ValueError.__new__" ⟨.ref C::rest,[]⟩) R ⟨h,g,d,t,os⟩:=by
 have FB:=F.excBase_ValueError
 have hends:=FB.ends
 have c1:(Value.ref C::bm).contains (.type "ValueError")=true:=by rw[List.contains_cons,hv,Bool.or_true]
 have c2:(Value.ref C::bm).contains (.type "AttributeError")=false:=by rw[List.contains_cons,ha]; rfl
 have c3:(Value.ref C::bm).contains (.type "NameError")=false:=by rw[List.contains_cons,hn]; rfl
 refine codeAny_builtinAt FB.entry ?_
 unfold Builtin.«BaseException.__new__»
 refine PySem.wpAt_bind ?_
 show PySem.wpAt _ _ _ (stack >>= _) _ _ _
 refine PySem.wpAt_bind (PySem.wpAt_stack fun p below=>PySem.wpAt_of_wpAny ?_)
 wp_walk
 refine PySem.wpAt_of_wpAny ?_
 rw[FB.owner]
 repeat (first|with_reducible refine wpAny_madeHere_exc FB.canon hC ?_|with_reducible refine wpAny_loadPart_at hC ?_|(with_reducible refine wpAny_isSubtype_exc hC ?_;first|rw[c1] | rw[c2] | rw[c3])|wp_step)
 show R _ _
 rw[Heap.size_push]
 exact hq
theorem ER{K:Frag}{fI:Addr}{rest:List Value}{Q:Value→Shared→Prop}(X:K.In h)(M:XMk K C fI)(hz:rest.length≤sizeLine)
  (hq:∀ h' e,Heap.MadeExcOf h h' e (.ref C) rest→h.objs.size≤e→wpAny (model prog w) (A.under (.builtin "type.__call__" ⟨.ref C::rest,[]⟩)) (call (.ref fI) (.ref e::rest)) (fun r s'=>r=.none∧Q (.ref e) s') E ⟨h',g,d,t,os⟩) :
  wpAny (model prog w) A (call (.ref C) rest) Q E ⟨h,g,d,t,os⟩:=by
 obtain⟨nm,q,N,bs,bm,hdct,sn,sub,ab,col,dd,k0,k1,k2,k3,k5,hK,b1,b2,b3⟩:=M.ex
 have hC:=X _ _ hK
 have FB:=F.excBase_ValueError
 have f1:=tc_lookup
 have f2:=tc_bind (.ref C)
 have hT:(⟨h,g,d,t,os⟩:Shared).TypeIs (.ref C) "type":=⟨_,hC,rfl⟩
 refine wpAny_call (codeAny_of_tree ?_)
 show wpAny _ _ (callAny (.ref C) _) _ _ _
 repeat (any_goals (first|assumption|with_reducible refine wpAny_loadPart_at hC ?_|wp_step))
 refine⟨rfl,?_⟩
 refine codeAny_call_builtin_at (Code.quiet_builtin _ (by decide +kernel)) entry_typeCall (wpAny_check_type_call_sub hC ?_)
 repeat (first|with_reducible refine wpAny_loadPart_at hC ?_|with_reducible refine wpAny_madeBy_exc hC ?_|wp_step)
 refine codeAny_call_builtin_code (Code.quiet_builtin _ FB.quiet) (ve hC b1 ?_)
 refine zm hC b1 b2 b3 hz ?_
 have kp:∀ b o,h.get? b=some o→((h.push {cls:=.type "tuple",data:=.seq rest.toArray}).push {cls:=.ref C,data:=.fields #[.ref h.objs.size,.none,.none,.none,.bool false,.none] }).get? b=some o:=fun b o e=>Heap.get?_push_of_some _ (Heap.get?_push_of_some _ e)
 have hC1:=kp _ _ hC
 have X1:K.In _:=X.keeps kp
 have hg:((h.push {cls:=.type "tuple",data:=.seq rest.toArray}).push {cls:=.ref C,data:=.fields #[.ref h.objs.size,.none,.none,.none,.bool false,.none] }).get? (h.objs.size+1)=some {cls:=.ref C,data:=.fields #[.ref h.objs.size,.none,.none,.none,.bool false,.none] }:=by heap_get
 have cC:(Value.ref C::bm).contains (.ref C)=true:=by simp
 show wpAny _ _ _ _ _ ⟨(h.push {cls:=.type "tuple",data:=.seq rest.toArray}).push {cls:=.ref C,data:=.fields #[.ref h.objs.size,.none,.none,.none,.bool false,.none] },g,d,t,os⟩
 unfold isInstance
 repeat (first|with_reducible refine wpAny_loadPart_at hg ?_|(with_reducible refine wpAny_isSubtype_exc hC1 ?_;rw[cC])|wp_step)
 have L1:=looks_findIn (M:=model prog w) X1 M.init
 have L2:=bind_fn (M:=model prog w) X1 (.ref (h.objs.size+1)) M.fn
 show wpAny _ _ (typeLookup (.ref C) _) _ _ _
 refine L1.at (wpAny_holding (wpAny_bind (L2.at ?_)))
 refine wpAny_bind (wpAny_mono (hq _ (h.objs.size+1) ⟨kp,Heap.get?_none_of_le (Nat.le_succ _),h.objs.size,hg,Heap.get?_none_of_le (Nat.le_refl _),Heap.get?_push_of_some _ (Heap.get?_push_at rfl rfl)⟩ (Nat.le_succ _)) (fun r s' hr=>?_) fun _ _ x=>x)
 obtain⟨rfl,hQ⟩:=hr
 wp_walk
 exact hQ
end
section
variable{prog:Program}{w:World}{A:Around}{E:Value→Shared→Prop}{s:Shared}{K:Frag}{c:Str}{C L:Addr}{cd:ClassData}{env:Env}
structure Fly (h:Heap) (e:Addr) (cls:Value) (dx T:Option Addr):Prop where
 ex:∃vs sl,h.get? e=some ⟨cls,dx,.fields vs,sl⟩∧1<vs.size∧(match T with
  |none=>vs[1]?=some .none
  |some t=>vs[1]?=some (.ref t)∧t≠e∧∃ot ts,h.get? t=some ot∧ot.data=.fields ts∧ts[3]?=some .none)
theorem DH{x:Sem Value}{Q:Flow→Shared→Prop}(S:XStd K c C L cd)(hh:A.handled=none)
  (h:wpAny (model prog w) A x (fun v s1=>∃e dx,v=.ref e∧K.In s1.heap∧Fly s1.heap e (.ref C) dx none∧E (.ref e) s1) E s):wpAny (model prog w) A (raiseStmt env (some x) none) Q E s:=by
 unfold raiseStmt
 refine wpAny_bind (wpAny_mono h (fun v s1 h1=>?_) fun _ _ z=>z)
 obtain⟨e,dx,rfl,X,⟨vs,sl,he,hz,h1⟩,hE⟩:=h1
 obtain⟨hp,g,d,tk,os⟩:=s1
 have h1:vs[1]?=some .none:=h1
 have he:hp.get? e=some ⟨.ref C,dx,.fields vs,sl⟩:=he
 obtain⟨oc,odc,slc,hK⟩:=lO S.cls
 have hC:hp.get? C=some ⟨oc,odc,.cls cd,slc⟩:=X _ _ hK
 have hoc:oc=.type "type":=by
  have z:(K.lookup C).map (·.cls)=some (.type "type"):=S.ty
  rw[hK]at z
  exact Option.some.inj z
 subst hoc
 have Lb:=S.isT (M:=model prog w) X "BaseException"
 have eb:(["ValueError","Exception","BaseException","object"]:List String).contains "BaseException"=true:=by decide
 rw[eb]at Lb
 repeat (first|with_reducible refine wpAny_loadPart_at he ?_|with_reducible refine wpAny_loadPart_at hC ?_|with_reducible refine Lb.at ?_|with_reducible refine wpAny_field he rfl h1 ?_|wp_step)
 exact wpAny_raiseNew_none hh hE
theorem DI{base:Heap}{outer:List Env}{F e:Addr}{cls:Value}{dx T:Option Addr}{Q:Unit→Shared→Prop}
  (hfr:A.frames=some (env::outer)) (hl:s.heap.FunFrames base (env::outer)) (hf:env.frame=some F) (fl:Fly s.heap e cls dx T)
  (hq:∀h' T',Fly h' e cls dx (some T')→s.heap.objs.size≤T'→(∀b o,b≠e→some b≠T→b∉frs (env::outer)→s.heap.get? b=some o→h'.get? b=some o) →
   (∀b o,b≠e→some b≠T→s.heap.get? b=some o→∃sl,h'.get? b=some {o with slots:=sl})→Q () {s with heap:=h' }) :
  wpAny (model prog w) A (noteFrame (.ref e) env) (fun _ s2=>wpAny (model prog w) A (setFlight (.ref e) none) Q E s2) E s:=by
 obtain⟨vs,sl,he,hz,hT⟩:=fl
 have nof:∀b o vs',s.heap.get? b=some o→o.data=.fields vs'→b∉frs (env::outer):=fun b o vs' hb hd hm=>by
  obtain⟨_,o',ho',hn'⟩:=hl.mem hm
  rw[hb]at ho';cases ho'
  exact hn' _ hd
 have entry:∀(s1:Shared)(vs1:Array Value)(head:Value)(hn:Bool),s1.heap.get? e=some ⟨cls,dx,.fields vs1,sl⟩→1<vs1.size→s1.heap.FunFrames base (env::outer) →
   (∀b o,b≠e→some b≠T→s.heap.get? b=some o→s1.heap.get? b=some o)→s1.heap.objs.size=s.heap.objs.size→s1={s with heap:=s1.heap} →
   wpAny (model prog w) A (do let a ← frameOf env;let pl ← entryPlaceOf F hn;let b ← EntryCells.newEntry head a .none (rawInt F) .none pl;setField (.ref e) 1 b) (fun _ s2=>wpAny (model prog w) A (setFlight (.ref e) none) Q E s2) E s1:=by
  intro s1 vs1 head hn he1 hz1 hl1 kp sz es
  have nof1:∀b o vs',s1.heap.get? b=some o→o.data=.fields vs'→b∉frs (env::outer):=fun b o vs' hb hd hm=>by
   obtain⟨_,o',ho',hn'⟩:=hl1.mem hm
   rw[hb]at ho';cases ho'
   exact hn' _ hd
  refine wpAny_bind (wpAny_frameOf_fun hfr hl1 hf fun h1 hs1=>?_)
  refine wpAny_bind (wpAny_entryPlaceOf fun pl hpl=>?_)
  unfold EntryCells.newEntry newFields
  refine wpAny_bind (wpAny_newObj_type ?_ (hpl.sizeOk5 _ _ _ _ _))
  generalize hob:({cls:=.type "traceback",dict:=none,data:=.fields ([head,Value.ref F,.none,rawInt F,.none]++(if pl.isEmpty then List.replicate 6 Value.none else pl)).toArray}:Obj)=ob
  have hod:∃ts,ob.data=.fields ts∧3<ts.size:=by
   subst hob
   exact⟨_,rfl,by simp only[List.size_toArray,List.length_append,List.length_cons,List.length_nil];omega⟩
  obtain⟨ts,hod,hts⟩:=hod
  have he2:h1.get? e=some ⟨cls,dx,.fields vs1,sl⟩:=(hs1.2.1 e (nof1 _ _ _ he1 rfl)).trans he1
  have he3:=Heap.get?_push_of_some (h:=h1) ob he2
  have ne:h1.objs.size≠e:=Nat.ne_of_gt (Heap.lt_size he2)
  refine wpAny_setField he3 rfl hz1 ?_
  have he4:=Heap.get?_update_self (Obj.mapFields (·.setIfInBounds 1 (Value.ref h1.objs.size))) he3 rfl
  have hT4:=(Heap.get?_update_other (h1.push ob) (Obj.mapFields (·.setIfInBounds 1 (Value.ref h1.objs.size))) (Ne.symm ne)).trans (Heap.get?_push_size h1 (by obtain⟨_,_,dt,_⟩:=ob;cases hod;rfl))
  unfold setFlight
  refine wpAny_bind (wpAny_field he4 rfl (x:=.ref h1.objs.size) (by simp[hz1]) ?_)
  rw[if_pos (show(Value.ref h1.objs.size != Value.none)=true from by simp)]
  refine wpAny_setField hT4 hod hts ?_
  rw[es]
  have keep:∀b o,b≠e→h1.get? b=some o→(((h1.push ob).update e (Obj.mapFields (·.setIfInBounds 1 (Value.ref h1.objs.size)))).update h1.objs.size (Obj.mapFields (·.setIfInBounds 3 ((none:Option Addr).elim Value.none fun f=>rawInt f)))).get? b=some o:=fun b o hb e1=>by
   rw[Heap.get?_update_other _ _ (Nat.ne_of_gt (Heap.lt_size e1)),Heap.get?_update_other _ _ (Ne.symm hb)]
   exact Heap.get?_push_of_some _ e1
  refine hq _ h1.objs.size ⟨vs1.setIfInBounds 1 (.ref h1.objs.size),sl,?_,by simpa using hz1,by simp[hz1],ne,_,_,Heap.get?_update_self _ hT4 (Obj.isFreed_of_fields (Obj.data_mapFields hod _)),Obj.data_mapFields hod _,by simp[hts]⟩ ?_ (fun b o hb hbT hbf e1=>?_) fun b o hb hbT e1=>?_
  ·
   rw[Heap.get?_update_other _ _ ne];exact he4
  ·
   rw[hs1.1,sz];exact Nat.le_refl _
  ·
   exact keep b o hb ((hs1.2.1 b hbf).trans (kp b o hb hbT e1))
  ·
   obtain⟨sl',e2⟩:=hs1.2.2 b o (kp b o hb hbT e1)
   exact⟨sl',keep b _ hb e2⟩
 unfold noteFrame
 simp only[hf]
 cases T with
 | none =>
  refine wpAny_bind (wpAny_field he rfl hT ?_)
  rw[if_neg (by decide)]
  exact entry s vs .none _ he hz hl (fun _ _ _ _ e1=>e1) rfl rfl
 | some t =>
  obtain⟨h1,hte,ot,ts,ht,hdt,h3⟩:=hT
  refine wpAny_bind (wpAny_field he rfl h1 ?_)
  rw[if_pos (show(Value.ref t != Value.none)=true from by simp)]
  refine wpAny_bind (wpAny_field ht hdt h3 ?_)
  rw[if_neg (show ¬((Value.none == rawInt F)=true)from by simp[rawInt])]
  refine wpAny_bind (wpAny_setField ht hdt (Array.getElem?_eq_some_iff.mp h3).1 ?_)
  have oth:∀b,b≠t→(s.heap.update t (Obj.mapFields (·.setIfInBounds 3 Value.none))).get? b=s.heap.get? b:=fun b hb=>Heap.get?_update_other _ _ (Ne.symm hb)
  refine entry _ vs (.ref t) _ ((oth e (Ne.symm hte)).trans he) hz (hl.of_keeps fun b o hb hnf=>⟨o,(oth b fun q=>?_).trans hb,rfl⟩) (fun b o hb hbT e1=>(oth b fun q=>hbT (by rw[q])).trans e1) (by simp) rfl
  rw[q,ht]at hb;cases hb;exact hnf ts hdt
theorem ES{e T:Addr}{cls:Value}{dx:Option Addr}{Q:Unit→Shared→Prop}(fl:Fly s.heap e cls dx (some T))
  (hq:∀h',Fly h' e cls dx (some T)→(∀b o,b≠T→s.heap.get? b=some o→h'.get? b=some o)→Q () {s with heap:=h' }):wpAny (model prog w) A (setFlight (.ref e) none) Q E s:=by
 obtain⟨vs,sl,he,hz,h1,hte,ot,ts,ht,hdt,h3⟩:=fl
 have hts:=(Array.getElem?_eq_some_iff.mp h3).1
 unfold setFlight
 refine wpAny_bind (wpAny_field he rfl h1 ?_)
 rw[if_pos (show(Value.ref T != Value.none)=true from by simp)]
 refine wpAny_setField ht hdt hts (hq _ ⟨vs,sl,?_,hz,h1,hte,_,_,Heap.get?_update_self _ ht (Obj.isFreed_of_fields (Obj.data_mapFields hdt _)),Obj.data_mapFields hdt _,by simp[hts]⟩ fun b o hb e1=>?_)
 ·
  rw[Heap.get?_update_other _ _ hte];exact he
 ·
  rw[Heap.get?_update_other _ _ (Ne.symm hb)];exact e1
end
def del(H:Hp)(e:Addr):Hp:=fun b=>if b=e then none else H b
theorem cy{H:Hp}{e b:Addr}(h:b≠e):del H e b=H b:=by unfold del;rw[if_neg h]
theorem jH{H:Hp}{e:Addr}:del H e e=none:=by unfold del;rw[if_pos rfl]
theorem lE{H:Hp}{e b:Addr}(h:H b=none):del H e b=none:=by unfold del;split;rfl;exact h
section
variable{X:Cx}{pins:List (Addr×Obj)}{σ:St}{H:Hp}{s:Shared}
theorem Inv.forget{e:Addr}{φ:Heap→Prop}(I:Inv X pins σ H s)(h:H e=some (.ext φ)):Inv X pins σ (del H e) s:=by
 have ne:∀b o,H b=some o→(∀ψ,o≠.ext ψ)→b≠e:=fun b o q n z=>by subst z;rw[h]at q;cases q;exact n _ rfl
 refine⟨I.ok,I.os,I.bare,⟨I.base.keep,I.base.slot,fun b o e1 n hx=>lE (I.base.free b o e1 n hx),I.base.there,fun b xs q=>?_,fun b o u q=>?_,fun b ps q=>?_⟩,I.loc,I.cell,lE I.free,fun x c q=>(I.freeC x c q).imp lE fun⟨hf,o,z⟩=>⟨hf,o,by rw[cy (ne c _ z fun _ q=>nomatch q)];exact z⟩,fun p hp=>?_,fun b u q=>?_,I.len⟩
 ·
  have z:=I.base.tups b xs q
  rw[cy (ne b _ z fun _ q=>nomatch q)];exact z
 ·
  have z:=I.base.frzs b o u q
  rw[cy (ne b _ z fun _ q=>nomatch q)];exact z
 ·
  have z:=I.base.tbls b ps q
  rw[cy (ne b _ z fun _ q=>nomatch q)];exact z
 ·
  obtain⟨a1,a2,a3⟩:=I.pin p hp
  exact⟨a1,lE a2,a3⟩
 ·
  have hb:b≠e:=fun z=>by subst z;rw[jH]at q;cases q
  rw[cy hb]at q
  exact(I.hok b u q).stay (fun c v _ z=>z) (fun c z=>by rw[cy (ne c _ z fun _ q=>nomatch q)];exact z) (fun c xs z=>by rw[cy (ne c _ z fun _ q=>nomatch q)];exact z) fun c ob _ _ z=>by rw[cy (ne c _ z fun _ q=>nomatch q)];exact z
end
def vis(o:HO):Prop:=Pers o∧yQ o
open Classical in
noncomputable def hidH(H:Hp):Hp:=fun b=>match H b with
 |some o=>if vis o then some o else none
 |none=>none
theorem gn{H:Hp}{b:Addr}(h:H b=none):hidH H b=none:=by unfold hidH;rw[h]
theorem bD{H:Hp}{b:Addr}{o:HO}(h:H b=some o)(v:vis o):hidH H b=some o:=by unfold hidH;rw[h];exact if_pos v
theorem BW{H:Hp}{b:Addr}{o:HO}(h:hidH H b=some o):H b=some o∧vis o:=by
 unfold hidH at h
 split at h
 ·
  rename_i u e
  split at h
  ·
   rename_i v;cases h;exact⟨e,v⟩
  ·
   cases h
 ·
  cases h
theorem BX{H:Hp}{b:Addr}{o:HO}(h:H b=some o)(v:¬vis o):hidH H b=none:=by unfold hidH;rw[h];exact if_neg v
theorem c7.stayN{P:Program}{w:World}{H H':Hp}{h h':Heap}{a:Addr}:∀{o:HO},yQ o→c7 P w H h a o→(∀u,h.get? a=some u→h'.get? a=some u)→(∀b xs,H b=some (.tup xs)→H' b=some (.tup xs))→(∀b o q,pH o q→H b=some (.frz o (.own b))→H' b=some (.frz o (.own b)))→c7 P w H' h' a o
 |.lst xs,_,x,k,_,_=>by obtain⟨z,its,n,r,e⟩:=x;exact⟨z,its,n,r,k _ e⟩
 |.tup xs,_,x,k,_,_=>by obtain⟨z,its,r,ob,e,c⟩:=x;exact⟨z,its,r,ob,k _ e,c⟩
 |.dK kvs,_,x,k,_,_=>by obtain⟨z,y,vs,r,ob,es,ep,e,c⟩:=x;exact⟨z,y,vs,r,ob,es,ep,k _ e,c⟩
 | .dT kvs,_,x,k,ht,_=>by
  obtain⟨z,y,xs,r,ob,es,ep,e,c⟩:=x
  exact⟨z,y,xs,Paired.mapP r fun p q z=>⟨z.1,ht _ _ z.2.1,z.2.2⟩,ob,es,ep,k _ e,c⟩
 |.set S n,_,x,k,_,_=>by obtain⟨ob,es,ep,t,e,c⟩:=x;exact⟨ob,es,ep,t,k _ e,c⟩
 |.ins C dx fs,n,_,_,_,_=>n.elim
 |.own y,_,x,k,_,_=>by obtain⟨ob,e⟩:=x;exact⟨ob,k _ e⟩
 |.xd fs,_,x,k,_,_=>by obtain⟨mA,⟨od,es,ep,e,c⟩,r⟩:=x;exact⟨mA,⟨od,es,ep,k _ e,c⟩,r⟩
 |.rng lo hi,_,x,k,_,_=>by obtain⟨t,u,v,e⟩:=x;exact⟨t,u,v,k _ e⟩
 |.frz ob u,n,x,k,ht,hf=>by obtain⟨e,q⟩:=x;exact⟨k _ e,c7.stayN (o:=u) n q k ht hf⟩
 | .tbl t,_,x,k,_,hf=>by
  obtain⟨ps,e,tr,m⟩:=x
  exact⟨ps,k _ e,tr,fun pos cv z=>let ⟨c',oc,a1,a2,a3⟩:=m pos cv z;⟨c',oc,a1,hf _ _ _ a3 a2,a3⟩⟩
 | .met f y,_,x,k,_,_=>by
  have e:h.get? a=some (PySem.W.methodObj (.ref f) (.ref y)):=x
  exact(k _ e:h'.get? a=some (PySem.W.methodObj (.ref f) (.ref y)))
 |.ext φ,_,x,k,_,_=>by obtain⟨p,⟨o,e⟩,st⟩:=x;exact⟨st _ _ p k,⟨o,k _ e⟩,st⟩
theorem rS(xs:List V):vis (.tup xs):=⟨True.intro,True.intro⟩
theorem wZ(q:Str):vis (.tbl q):=⟨True.intro,True.intro⟩
theorem lF(o:Obj)(y:Addr):vis (.frz o (.own y)):=⟨True.intro,True.intro⟩
section
variable{X:Cx}{pins:List (Addr×Obj)}{σ:St}{H H':Hp}{s s':Shared}
theorem Inv.hide(I:Inv X pins σ H s):Env0 X.prog X.w X.K X.mg X.base X.A X.stack s (hidH H):=by
 have e0:=I.env0
 refine⟨e0.frames,e0.mod,fun b o e=>⟨(e0.bs b o e).1,gn (e0.bs b o e).2⟩,e0.bsz,e0.funs,fun b hb=>gn (e0.frf b hb),fun b o e=>?_,e0.bare,fun x hx c P e=>bD (e0.tbs x hx c P e) (wZ _)⟩
 obtain⟨e1,v⟩:=BW e
 exact c7.stayN v.2 (e0.hok b o e1) (fun _ z=>z) (fun c xs z=>bD z (rS xs)) fun c ob _ _ z=>bD z (lF ob c)
open Classical in
noncomputable def mrg(H H':Hp):Hp:=fun b=>match H' b with
 |some o=>some o
 |none=>H b
theorem dg{b:Addr}{o:HO}(h:H' b=some o):mrg H H' b=some o:=by unfold mrg;rw[h]
theorem lG{b:Addr}(h:H' b=none):mrg H H' b=H b:=by unfold mrg;rw[h]
theorem Inv.unhide(I:Inv X pins σ H s)(ho:s'.os=s.os)(hg:AllBare s'.gens)(u:Un (frs X.stack) [] (hidH H) H' s.heap s'.heap)(hok:HOk X.prog X.w H' s'.heap) :
  Inv X pins σ (mrg H H') s'∧(∀b o,H b=some o→mrg H H' b=some o)∧(∀b o,H' b=some o→hidH H b=none→H b=none):=by
 have gone:∀b o,H b=some o→¬vis o→hidH H b=none∧H' b=none:=fun b o e v=>by
  have z:=BX e v
  obtain⟨ob,hb⟩:∃ob,s.heap.get? b=some ob:=by
   cases q:s.heap.get? b with
   |some ob=>exact⟨ob,rfl⟩
   | none =>
    exfalso
    cases o with
    |lst xs=>obtain⟨_,_,_,_,e⟩:=I.hok b _ e;rw[q]at e;cases e
    |tup xs=>exact v (rS xs)
    |dK kvs=>obtain⟨_,_,_,_,o,_,_,e,_⟩:=I.hok b _ e;rw[q]at e;cases e
    |dT kvs=>obtain⟨_,_,_,_,o,_,_,e,_⟩:=I.hok b _ e;rw[q]at e;cases e
    |set S n=>obtain⟨o,_,_,_,e,_⟩:=I.hok b _ e;rw[q]at e;cases e
    |ins C dx fs=>obtain⟨_,_,_,e,_⟩:=I.hok b _ e;rw[q]at e;cases e
    |own y=>obtain⟨_,e⟩:=I.hok b _ e;rw[q]at e;cases e
    |xd fs=>obtain⟨_,⟨_,_,_,e,_⟩,_⟩:=I.hok b _ e;rw[q]at e;cases e
    |rng lo hi=>obtain⟨_,_,_,e⟩:=I.hok b _ e;rw[q]at e;cases e
    |frz ob u=>obtain⟨e,_⟩:=I.hok b _ e;rw[q]at e;cases e
    |tbl t=>exact v (wZ t)
    |met f y=>have e:=(show s.heap.get? b=some _ from I.hok b _ e);rw[q]at e;cases e
    |ext φ=>obtain⟨_,⟨_,e⟩,_⟩:=I.hok b _ e;rw[q]at e;cases e
  exact⟨z,u.free b ob hb z (by simp)⟩
 have ext:∀b o,H b=some o→mrg H H' b=some o:=fun b o e=>by
  by_cases v:vis o
  ·
   have z:=bD e v
   cases o with
   |tup xs=>exact dg (u.tups b xs z)
   |frz ob w=>exact dg (u.frzs b ob w z)
   |tbl t=>exact dg (u.tbls b t z)
   |_=>exact v.1.elim
  ·
   rw[lG (gone b o e v).2];exact e
 have back:∀b o,H' b=some o→hidH H b=none→H b=none:=fun b o e z=>by
  cases q:H b with
  |none=>rfl
  | some o' =>
   by_cases v:vis o'
   ·
    rw[bD q v]at z;cases z
   ·
    rw[(gone b o' q v).2]at e;cases e
 have hok2:HOk X.prog X.w (mrg H H') s'.heap:=fun b o e=>by
  unfold mrg at e
  split at e
  ·
   rename_i o' q
   cases e
   exact(hok b _ q).stay (fun c w _ z=>z) (fun c z=>dg z) (fun c xs z=>dg z) fun c ob _ _ z=>dg z
  ·
   rename_i q
   have nv:¬vis o:=fun v=>by
    have z:=bD e v
    cases o with
    |tup xs=>rw[u.tups b xs z]at q;cases q
    |frz ob w=>rw[u.frzs b ob w z]at q;cases q
    |tbl t=>rw[u.tbls b t z]at q;cases q
    |_=>exact v.1.elim
   have keepT:∀c o',H c=some o'→¬vis o'→∀w,s.heap.get? c=some w→s'.heap.get? c=some w:=fun c o' e' v' w hw=>by
    refine u.keep c w hw (gone c o' e' v').1 (fun hm=>?_) (by simp)
    have:=I.stkFree c hm
    rw[e']at this;cases this
   refine(I.hok b o e).stay (fun c w hc z=>?_) (fun c z=>ext c _ z) (fun c xs z=>ext c _ z) fun c ob _ _ z=>ext c _ z
   rcases hc with rfl|hc
   ·
    exact keepT c o e nv w z
   ·
    exact keepT c _ hc (fun v=>v.1) w z
 refine⟨I.call' (ch:=[]) ho ⟨fun b o e n hf hx=>u.keep b o e (gn n) hf hx,fun b o e n hf hx=>u.slot b o e (gn n) hf hx,fun b o e n hx=>?_,u.there,fun b xs e=>ext b _ e,fun b o w e=>ext b _ e,fun b ps e=>ext b _ e⟩ hok2 hg (fun b z=>absurd z (by simp)),ext,back⟩
 rw[lG (u.free b o e (gn n) hx)];exact n
end
section
variable{K:Frag}{Pr H H':Hp}{σ:St}{ρ:Ev}
theorem REnv.exten(E:REnv K Pr H σ ρ)(h:∀b o,H b=some o→H' b=some o):REnv K Pr H' σ ρ :=
 ⟨fun b o e=>h b o (E.sub b o e),E.nd,E.off,Paired.impMem E.sl fun l hl s q=>q.pres (fun b u _ e=>h b u e) l fun a e=>by
  obtain⟨vs,e,_⟩:=E.at_own (eR.mpr ⟨l,hl,e⟩)
  rw[h _ _ e,e]⟩
end
mutual
theorem Rep.hid{K:Frag}{H:Hp}:∀{v:V}{d:D},Rep K H v d→Rep K (hidH H) v d
 |_,_,.non=>.non
 |_,_,.bl b=>.bl b
 |_,_,.int i=>.int i
 |_,_,.str x=>.str x
 | _,_,.tup h r=>.tup (by
   rcases h with(h|⟨o,h⟩)|h
   ·
    exact .inl (.inl (bD h (rS _)))
   ·
    exact .inl (.inr ⟨o,bD h ⟨True.intro,True.intro⟩⟩)
   ·
    exact .inr h) (Reps.hid r)
 | _,_,.lst h r=>.lst (by
   rcases h with⟨o,h⟩|h
   ·
    exact .inl ⟨o,bD h ⟨True.intro,True.intro⟩⟩
   ·
    exact .inr h) (Reps.hid r)
 |_,_,.dct h=>.dct (bD h ⟨True.intro,True.intro⟩)
 | _,_,.exc h hv hc hn hs hq hf r=>.exc (bD h ⟨True.intro,hv⟩) hv hc hn hs hq (by
   rcases hf with hf|⟨d,od,e,h,l⟩
   ·
    exact .inl hf
   ·
    exact .inr ⟨d,od,e,bD h ⟨True.intro,True.intro⟩,l⟩) (Reps.hid r)
 |_,_,.fn hl hf hq hc hz hd hv hm r=>.fn hl (bD hf (lF _ _)) (bD hq (lF _ _)) hc (bD hz (lF _ _)) hd hv hm (Rep.hid r)
theorem Reps.hid{K:Frag}{H:Hp}:∀{vs:List V}{ds:List D},Reps K H vs ds→Reps K (hidH H) vs ds
 |_,_,.nil=>.nil
 |_,_,.cons h t=>.cons (Rep.hid h) (Reps.hid t)
end
theorem ET:typeOf (.type "ValueError")=pure (.type "type"):=kitMeta_of (by decide +kernel)
theorem EU:Manifest.isStub "ValueError"=false:=by decide +kernel
theorem EV:handedIn (.builtin "ValueError.__init__")=true:=by decide +kernel
theorem w4(K:Frag):findCls K (.type "ValueError") (.type "type") "__init__"=some (.val (.builtin "ValueError.__init__")):=by kernel_rfl
theorem Fly.at{h h':Heap}{e:Addr}{cls:Value}{dx:Option Addr}(f:Fly h e cls dx none)(k:∀o,h.get? e=some o→h'.get? e=some o):Fly h' e cls dx none:=by
 obtain⟨vs,sl,he,hz,h1⟩:=f
 exact⟨vs,sl,k _ he,hz,h1⟩
def XO(e:Addr)(cls:Value)(dx:Option Addr):HO:=.ext fun h=>Fly h e cls dx none
def XD(d:Addr)(fs:List (Str×V)):HO:=.ext fun h=>∃mA,h.Ns1 d mA∧(∀f,RelO (fs.lookup f) (mA f))∧PySem.Within mA (fs.map (·.1))
theorem XO.ok{P:Program}{w:World}{H:Hp}{h:Heap}{e:Addr}{cls:Value}{dx:Option Addr}(f:Fly h e cls dx none):c7 P w H h e (XO e cls dx):=by
 obtain⟨vs,sl,he,hz,h1⟩:=f
 exact⟨⟨vs,sl,he,hz,h1⟩,⟨_,he⟩,fun h1 h2 p k=>p.at k⟩
theorem XD.ok{P:Program}{w:World}{H:Hp}{h:Heap}{d:Addr}{fs:List (Str×V)}{mA:Str→Option Value}(n:h.Ns1 d mA)(r:∀f,RelO (fs.lookup f) (mA f))(wi:PySem.Within mA (fs.map (·.1))):c7 P w H h d (XD d fs) :=
 ⟨⟨mA,n,r,wi⟩,let ⟨o,_,_,e,_⟩:=n;⟨o,e⟩,fun h1 h2 ⟨mA,n,r⟩ k=>⟨mA,n.at k,r⟩⟩
theorem DJ{H:Hp}{a:Addr}{o:HO}(h:H a=some o):upd H a o=H:=by
 funext b;unfold upd;split
 ·
  rename_i e;rw[e,h]
 ·
  rfl
section
variable{X:Cx}{pins:List (Addr×Obj)}{σ:St}{H:Hp}{s:Shared}
theorem Inv.xo{e:Addr}{cls:Value}{dx:Option Addr}(I:Inv X pins σ H s)(h:H e=some (XO e cls dx)):Fly s.heap e cls dx none:=(I.hok e _ h).1
theorem Inv.xd{d:Addr}{fs:List (Str×V)}(I:Inv X pins σ H s)(h:H d=some (XD d fs)):∃mA,s.heap.Ns1 d mA∧(∀f,RelO (fs.lookup f) (mA f))∧PySem.Within mA (fs.map (·.1)):=(I.hok d _ h).1
theorem Fly.inst{h:Heap}{e C:Addr}{dx T:Option Addr}(f:Fly h e (.ref C) dx T)(hd:∀d,dx=some d→∃o,h.get? d=some o):∃vs sl od,InstAt h e ⟨.ref C,dx,.fields vs,sl⟩ C od∧1<vs.size:=by
 obtain⟨vs,sl,he,hz,_⟩:=f
 cases dx with
 |none=>exact⟨vs,sl,none,⟨he,rfl,rfl,trivial⟩,hz⟩
 | some d =>
  obtain⟨o,ho⟩:=hd d rfl
  exact⟨vs,sl,some o,⟨he,rfl,rfl,ho⟩,hz⟩
end
section
variable{X:Cx}{a b:Expr}{p1 p2 pos:Pos}{t:TA}
def t9(K:Frag)(t:TA):TE:=fun σ H Q=>t σ H fun vs H1=>∃e tx c C L cd,vs=[.ref e,tx]∧H1 e=some (XO e (.ref C) none)∧XStd K c C L cd∧Q .non H1
theorem zo{pl:Sem Bool} (hg:Gl X "ValueError") (hm:X.mg "ValueError"=none) (ha:PA X [a,b] t) (hs:starEach [a,b] X.env=(false,eval a X.env)::starEach [b] X.env:=by rfl) (hpl:(backTo pos (starEach [b] X.env)).any (·.1)=false:=by rfl)
  (ht:eval (.Call (.Attribute (.Name "ValueError" p1) "__init__" p2) [a,b] [] pos) X.env=(do
   let ov ← eval (.Name "ValueError" p1) X.env
   standAt p2.atName
   let (f,first) ← holding [ov] (getMethod ov "__init__" pl)
   callWith pos f first (backTo pos (starEach [a,b] X.env)) (backToKw pos (keywordEach [] X.env))):=by rfl) :
  PE X (.Call (.Attribute (.Name "ValueError" p1) "__init__" p2) [a,b] [] pos) (t9 X.K t):=by
 intro pins s σ H Q I h
 refine methodCall_KW (ij I hg hm (show bootBuiltins "ValueError"=some (.type "ValueError") by decide +kernel) ?_) ht
 obtain⟨m,F⟩:=I.fr
 have k4:=w4 X.K
 refine @method_type _ _ _ _ _ X.K _ _ _ _ _ _ _ _ F I.ok.mod.kin ET EU k4 EV ?_
 have I1:=I.tok (s.toks+1)
 have hA:=ha pos pins _ σ H _ I1 h
 rw[hs]at hA ⊢
 refine Calls.callWith_builtin (by show(false ||(backTo pos (starEach [b] X.env)).any (·.1))=false;rw[hpl]<;>rfl) (Calls.evalArgs_plain (thn hA fun us s2 ⟨vs,H2,I2,r,e,tx,c,C,L,cd,ev,he,S,q⟩=>?_))
 subst ev
 obtain⟨u1,u2,rfl,r1,r2⟩:=yK r
 cases r1
 obtain⟨vs,sl,od,Ia,hz⟩:=(I2.xo he).inst (fun d z=>nomatch z)
 refine ED S I2.kIn Ia rfl (by omega) fun t'=>⟨.non,H2,?_,rfl,q⟩
 have hx1:=Heap.get?_push_of_some (h:=s2.heap) {cls:=.type "tuple",data:=.seq #[u2] } Ia.at_
 have z:=I2.write (x:=e) (e:=e) (o:=XO e (.ref C) none) (h':=(s2.heap.push {cls:=.type "tuple",data:=.seq #[u2] }).update e (Obj.mapFields (·.setIfInBounds 0 (.ref s2.heap.objs.size)))) (t':=t') (by rw[he]; exact True.intro) (.inl rfl) (fun b u hb e1=>(Heap.get?_update_other _ _ (Ne.symm hb)).trans (Heap.get?_push_of_some _ e1)) ⟨_,Heap.get?_update_self _ hx1 rfl⟩ (XO.ok ?_)
 ·
  rw[DJ he]at z;exact z
 ·
  obtain⟨vs',sl',he',hz',h1'⟩:=I2.xo he
  have e2:=Ia.at_.symm.trans he'
  cases e2
  refine⟨vs.setIfInBounds 0 (.ref s2.heap.objs.size),sl,Heap.get?_update_self _ hx1 rfl,by simpa using hz',?_⟩
  show(vs.setIfInBounds 0 _)[1]?=some .none
  rw[Array.getElem?_setIfInBounds_ne (by decide)];exact h1'
def spLI(K:Frag):Sp:=fun vs H Q _=>∃e tx c C L cd,vs=[.ref e,tx]∧H e=some (XO e (.ref C) none)∧XStd K c C L cd∧Q .non H
structure w5 (K:Frag) (mg:Str→Option Value) (L fL:Addr) (fd:FuncData) (st:Stmt):Prop where
 m:mg "LoadError"=some (.ref L)
 rd:readsIn K L (.type "type")=true
 sg:specialIn K (.ref L) "__getattribute__"=some (some (.builtin "type.__getattribute__"))
 fc:findCls K (.ref L) (.type "type") "__init__"=some (.val (.ref fL))
 f:Fun K "__init__" "LoadError.__init__" st fL fd
 b:kf K fd ["self","text"] []
theorem zp{pl:Sem Bool}{k L fL:Addr}{fd:FuncData}{st:Stmt}(T:w5 X.K X.mg L fL fd st) (F:FnOk X.prog X.w X.K X.mg X.base CX0 k fL fd ["self","text"] (spLI X.K)) (hr:Room k X.A) (hg:Gl X "LoadError") (ha:PA X [a,b] t)
  (hs:starEach [a,b] X.env=(false,eval a X.env)::starEach [b] X.env:=by rfl) (hpl:(backTo pos (starEach [b] X.env)).any (·.1)=false:=by rfl)
  (ht:eval (.Call (.Attribute (.Name "LoadError" p1) "__init__" p2) [a,b] [] pos) X.env=(do
   let ov ← eval (.Name "LoadError" p1) X.env
   standAt p2.atName
   let (f,first) ← holding [ov] (getMethod ov "__init__" pl)
   callWith pos f first (backTo pos (starEach [a,b] X.env)) (backToKw pos (keywordEach [] X.env))):=by rfl) :
  PE X (.Call (.Attribute (.Name "LoadError" p1) "__init__" p2) [a,b] [] pos) (t9 X.K t):=by
 intro pins s σ H Q I h
 refine methodCall_KW (fV I hg T.m ?_) ht
 refine method_cls I.kIn T.sg (cls_read I.kIn T.rd T.fc (wpAny_pure ?_))
 have k3:handedIn (.ref fL)=true:=rfl
 show wpAny _ _ (handedOut (.ref fL)) _ _ _
 rw[handedOut_of k3]
 refine wpAny_pure ?_
 have I1:=I.tok (s.toks+1)
 refine callWith_K (h₀:=X.base) I.ok.mod.kin T.f.kp (thn (ha pos pins _ σ H _ I1 h) fun us s1 ⟨vs,H1,I2,r,q⟩=>⟨I2.kIn,?_⟩) hs hpl
 refine vU F hr T.b .nil Bd I2 r ?_
 rw[List.append_nil]
 exact q
def DK(K:Frag)(ta tv:TE)(f:Str):TS:=fun D σ H=>tv σ H fun y H1=>ta σ H1 fun x H2=>∃e c C L cd,x=.ref e∧XStd K c C L cd∧findIn K (.ref C) f=some none ∧
 ((H2 e=some (XO e (.ref C) none)∧∀d,H2 d=none→d≠e→D.nx σ (upd (upd H2 d (XD d [(f,y)])) e (XO e (.ref C) (some d)))) ∨
  ∃d fs,H2 e=some (XO e (.ref C) (some d))∧H2 d=some (XD d fs)∧fs.lookup f=none∧fs.length≤900∧D.nx σ (upd H2 d (XD d (fs++[(f,y)]))))
theorem nH{α:Type}{f g:Str}{y:α}:∀{fs:List (Str×α)},fs.lookup f=none→(fs++[(f,y)]).lookup g=if g=f then some y else fs.lookup g
 | [],_=>by
  by_cases h:g=f
  ·
   subst h;simp
  ·
   have:(g == f)=false:=beq_eq_false_iff_ne.mpr h
   simp[List.lookup,this,h]
 | (k,v)::fs,h=>by
  have h':(f == k)=false∧fs.lookup f=none:=by
   cases e:(f == k)with
   |true=>simp[List.lookup,e]at h
   |false=>exact⟨rfl,by simpa[List.lookup,e]using h⟩
  have ih:=nH (g:=g) (y:=y) h'.2
  cases e:(g == k)with
  | true =>
   have:g≠f:=fun z=>by subst z;rw[h'.1]at e;cases e
   simp[List.lookup,e,this]
  | false =>
   simp only[List.cons_append,List.lookup,e]
   exact ih
theorem BY{o value:Expr}{f:Str}{pos':Pos}{ta tv:TE}(ha:PE X o ta)(hv:PE X value tv)(hs:swapsWith value (some (.Attribute o f pos')) pos.line X.env=pure false:=by rfl):PS X (.Assign [.Attribute o f pos'] value pos) (DK X.K ta tv f):=by
 intro pins s σ H D I h
 refine plainObj_wpAny_Assign_Attribute (thn (hv pins s σ H _ I h) fun u s1 ⟨y,H1,I1,ry,q⟩=>thn (ha pins s1 σ H1 _ I1 q) fun ov s2 ⟨x,H2,I2,rx,e,c,C,L,cd,ex,S,hf,q2⟩=>?_) hs
 subst ex
 obtain rfl:ov=Value.ref e:=rx
 rcases q2 with⟨he,q2⟩|⟨d,fs,he,hd,hl,hz,q2⟩
 ·
  obtain⟨vs,sl,od,Ia,hz⟩:=(I2.xo he).inst (fun d z=>nomatch z)
  have dn:H2 s2.heap.objs.size=none:=I2.hok.fresh (Nat.le_refl _)
  have dne:s2.heap.objs.size≠e:=Nat.ne_of_gt (Heap.lt_size Ia.at_)
  refine yT S I2.kIn Ia rfl hf fun h' tk e1 n1 k1=>⟨σ,_,?_,q2 s2.heap.objs.size dn dne⟩
  have hd1:c7 X.prog X.w (upd (upd H2 s2.heap.objs.size (XD s2.heap.objs.size [(f,y)])) e (XO e (.ref C) (some s2.heap.objs.size))) h' s2.heap.objs.size (XD s2.heap.objs.size [(f,y)]):=by
   refine XD.ok n1 (fun g=>?_) fun g hg=>?_
   ·
    by_cases z:g=f
    ·
     subst z;simp[RelO,ry]
    ·
     have:(g == f)=false:=beq_eq_false_iff_ne.mpr z
     simp[List.lookup,this,z,RelO]
   ·
    by_cases z:g=f
    ·
     simp[z]
    ·
     simp[z]at hg
  obtain⟨vs0,sl0,he0,hz0,h10⟩:=I2.xo he
  have e2:=Ia.at_.symm.trans he0
  cases e2
  have ho1:c7 X.prog X.w (upd (upd H2 s2.heap.objs.size (XD s2.heap.objs.size [(f,y)])) e (XO e (.ref C) (some s2.heap.objs.size))) h' e (XO e (.ref C) (some s2.heap.objs.size)):=XO.ok ⟨vs,sl,e1,hz0,h10⟩
  have tr:∀b o,H2 b=some o→b≠e→upd (upd H2 s2.heap.objs.size (XD s2.heap.objs.size [(f,y)])) e (XO e (.ref C) (some s2.heap.objs.size)) b=some o:=fun b o q hb=>by
   rw[ay hb,ay (aR q dn)];exact q
  have nx:∀b o,H2 b=some o→(∀ψ,o≠.ext ψ)→b≠e:=fun b o q n z=>by subst z;rw[he]at q;cases q;exact n _ rfl
  refine I2.un ⟨fun b o hb n _ _=>k1 b o (fun z=>by subst z;rw[he]at n;cases n) hb,fun b o hb n _ _=>⟨o.slots,k1 b o (fun z=>by subst z;rw[he]at n;cases n) hb⟩,fun b o hb n _=>?_,fun b o hb _=>?_,fun b xs q=>tr b _ q (nx b _ q fun _ z=>nomatch z),fun b o' u' q=>tr b _ q (nx b _ q fun _ z=>nomatch z),fun b ps q=>tr b _ q (nx b _ q fun _ z=>nomatch z)⟩ fun b o q=>?_
  ·
   rw[ay (fun z=>by subst z;rw[he]at n;cases n),ay (Nat.ne_of_lt (Heap.lt_size hb))];exact n
  ·
   by_cases z:b=e
   ·
    subst z;exact⟨_,e1⟩
   ·
    exact⟨o,k1 b o z hb⟩
  ·
   by_cases hb:b=e
   ·
    subst hb;rw[a7]at q;cases q;exact ho1
   ·
    by_cases hb2:b=s2.heap.objs.size
    ·
     subst hb2;rw[ay hb,a7]at q;cases q;exact hd1
    ·
     rw[ay hb,ay hb2]at q
     refine(I2.hok b o q).stay (fun c v hc z=>k1 c v ?_ z) (fun c z=>tr c _ z (nx c _ z fun _ z=>nomatch z)) (fun c xs z=>tr c _ z (nx c _ z fun _ z=>nomatch z)) fun c ob _ _ z=>tr c _ z (nx c _ z fun _ z=>nomatch z)
     rcases hc with rfl|hc
     ·
      exact hb
     ·
      exact nx c _ hc fun _ z=>nomatch z
 ·
  obtain⟨mA,nA,rA,wA⟩:=I2.xd hd
  obtain⟨od,_,_,hod,_⟩:=id nA
  obtain⟨vs,sl,od',Ia,hz'⟩:=(I2.xo he).inst (fun d' z=>by cases z;exact⟨od,hod⟩)
  refine yU S I2.kIn Ia rfl nA wA (by rw[List.length_map];omega) hf fun h' tk n1 sb=>⟨σ,_,?_,q2⟩
  refine I2.write (x:=d) (e:=d) (by rw[hd];exact True.intro) (.inl rfl) (fun b u hb e1=>(sb.2 b hb).trans e1) (let ⟨o,_,_,e1,_⟩:=n1;⟨o,e1⟩) (XD.ok n1 (fun g=>?_) fun g hg=>?_)
  ·
   rw[nH hl]
   by_cases z:g=f
   ·
    subst z;simp[RelO,ry]
   ·
    rw[if_neg z,if_neg z];exact rA g
  ·
   by_cases z:g=f
   ·
    subst z;simp
   ·
    rw[if_neg z]at hg
    have:=wA g hg
    simp at this ⊢
    exact .inl this
end
def spXI(K:Frag)(ns:List Str):Sp:=fun vs H Q _=>∃e vals c C L cd,vs=.ref e::vals∧H e=some (XO e (.ref C) none)∧XStd K c C L cd∧(∀f∈ns,findIn K (.ref C) f=some none)∧vals.length=ns.length ∧
 ∀d,H d=none→d≠e→Q .non (upd (upd H d (XD d (ns.zip vals))) e (XO e (.ref C) (some d)))
def tLI(K:Frag):TS:=A4 (t9 K (vT (tVar 0) (vT (tVar 1) tNil)))
def tI1(K:Frag)(x:V)(f:Str):TS:=tSeq (A4 (t9 K (vT (tVar 0) (vT (tC x) tNil)))) (DK K (tVar 0) (tVar 1) f)
theorem BZ{K:Frag}{vs:List V}{H:Hp}{Q:VK}{E:XK}{a b:Str}(h:spLI K vs H Q E):tLI K {nx:=fun _ H'=>Q .non H',rt:=Q} (ll [a,b] vs) H:=by
 obtain⟨e,tx,c,C,L,cd,rfl,he,S,q⟩:=h
 exact⟨_,rfl,_,rfl,e,tx,c,C,L,cd,rfl,he,S,q⟩
theorem B0{K:Frag}{vs:List V}{H:Hp}{Q:VK}{E:XK}{a b f:Str}{x:V}(h:spXI K [f] vs H Q E):tI1 K x f {nx:=fun _ H'=>Q .non H',rt:=Q} (ll [a,b] vs) H:=by
 obtain⟨e,vals,c,C,L,cd,rfl,he,S,hf,hl,q⟩:=h
 match vals,hl with
 |[v],_=>exact⟨_,rfl,e,x,c,C,L,cd,rfl,he,S,_,rfl,_,rfl,e,c,C,L,cd,rfl,S,hf f (by simp),.inl ⟨he,fun d hd hde=>q d hd hde⟩⟩
structure Xc where
 c:Str
 ns:List Str
 ds:List D
def XFly(K:Frag)(H:Hp)(cls:Value)(dx:Option Addr)(x:Xc):Prop:=∃C vs,cls=.ref C∧fY K x.c C=true∧(∀f∈x.ns,findIn K (.ref C) f=some none)∧XF H dx x.ns vs∧Reps K H vs x.ds
theorem XFly.ext{K:Frag}{H H':Hp}{cls:Value}{dx:Option Addr}{x:Xc}(f:XFly K H cls dx x)(h:∀b o,H b=some o→H' b=some o):XFly K H' cls dx x:=by
 obtain⟨C,vs,e,s,fq,a,r⟩:=f
 exact⟨C,vs,e,s,fq,a.pres fun b o _ q=>h b o q,r.pres fun b o _ q=>h b o q⟩
def CXr(P:Program)(w:World):CXT:=fun outer H s E e s'=>∃a cls dx T H',e=.ref a∧s'.os=s.os∧AllBare s'.gens∧Un (frs outer) [] H H' s.heap s'.heap∧HOk P w H' s'.heap∧Fly s'.heap a cls dx (some T)∧H' a=none∧H' T=none ∧
 s.heap.objs.size≤a∧s.heap.objs.size≤T∧E cls dx H'
section
variable{X:Cx}{pins:List (Addr×Obj)}{σ:St}{H:Hp}{s:Shared}
theorem HOk.there{P:Program}{w:World}{H:Hp}{h:Heap}(x:HOk P w H h){b:Addr}{o:HO}(e:H b=some o):∃u,h.get? b=some u:=by
 have lt:=x.lt e
 cases o with
 |lst xs=>obtain⟨_,_,_,_,e⟩:=x b _ e;exact⟨_,e⟩
 |tup xs=>obtain⟨_,_,_,o,e,_⟩:=x b _ e;exact⟨_,e⟩
 |dK kvs=>obtain⟨_,_,_,_,o,_,_,e,_⟩:=x b _ e;exact⟨_,e⟩
 |dT kvs=>obtain⟨_,_,_,_,o,_,_,e,_⟩:=x b _ e;exact⟨_,e⟩
 |set S n=>obtain⟨o,_,_,_,e,_⟩:=x b _ e;exact⟨_,e⟩
 |ins C dx fs=>obtain⟨_,_,_,e,_⟩:=x b _ e;exact⟨_,e⟩
 |own y=>obtain⟨_,e⟩:=x b _ e;exact⟨_,e⟩
 |xd fs=>obtain⟨_,⟨_,_,_,e,_⟩,_⟩:=x b _ e;exact⟨_,e⟩
 |rng lo hi=>obtain⟨_,_,_,e⟩:=x b _ e;exact⟨_,e⟩
 |frz ob u=>obtain⟨e,_⟩:=x b _ e;exact⟨_,e⟩
 |tbl t=>obtain⟨_,e,_⟩:=x b _ e;exact⟨_,e⟩
 |met f y=>exact⟨_,(show h.get? b=some _ from x b _ e)⟩
 |ext φ=>obtain⟨_,⟨_,e⟩,_⟩:=x b _ e;exact⟨_,e⟩
structure New (X:Cx) (pins:List (Addr×Obj)) (b:Addr):Prop where
 s0:X.s₀.heap.objs.size≤b
 loc:b≠X.env.locals
 cel:∀x c,X.env.cells.lookup x=some c→c≠b
 pin:∀p∈X.pn++pins,p.1≠b
theorem Inv.newer(I:Inv X pins σ H s){b:Addr}(h:s.heap.objs.size≤b):New X pins b:=by
 refine⟨Nat.le_trans I.sz h,fun z=>?_,fun x c e z=>?_,fun p hp z=>?_⟩
 ·
  have:=I.lt;rw[← z]at this;exact absurd this (Nat.not_lt.mpr h)
 ·
  obtain⟨v,o,ho,_⟩:=I.cell x c e
  have:=Heap.lt_size ho;rw[z]at this;exact absurd this (Nat.not_lt.mpr h)
 ·
  have:=Heap.lt_size (I.pin p hp).1;rw[z]at this;exact absurd this (Nat.not_lt.mpr h)
structure ua (X:Cx) (pins:List (Addr×Obj)) (H:Hp) (s:Shared) (a:Addr) (cls:Value) (dx T:Option Addr):Prop where
 fly:Fly s.heap a cls dx T
 na:H a=none
 nt:∀t,T=some t→H t=none
 wa:New X pins a
 wt:∀t,T=some t→New X pins t
def XOK(X:Cx)(xp:Xc→Prop):Prop:=∀(pins:List (Addr×Obj))(σ:St)(H:Hp)(s:Shared)(a:Addr)(cls:Value)(dx T:Option Addr)(x:Xc),Inv X pins σ H s→ua X pins H s a cls dx T→XFly X.K H cls dx x→xp x→X.xe (.ref a) s
end
theorem w7{P:Program}{w:World}{K:Frag}{mg:Str→Option Value}{base:Heap}{N:List Str}{qual:Str}{scope:Scope}{f:Addr}{cd:Value}{A:Around}{outer:List Env}{s:Shared}{H:Hp}{E:XK}{xp:Xc→Prop}
  (h:∀cls dx H' x,XFly K H' cls dx x→xp x→E cls dx H'):XOK (cxOf (CXr P w) P w K mg base N qual scope f cd A outer s H E) xp:=by
 intro pins σ H1 s1 a cls dx T x I R F q
 show wpAny (model P w) _ (leaving _ (.ref a)) _ _ s1
 unfold leaving
 have hl:=I.stack
 refine wpAny_bind (DI (F:=s.heap.objs.size) I.ok.frames hl rfl R.fly fun h' T' fl hT k1 k2=>?_)
 have neL:∀b o,s.heap.get? b=some o→b≠s.heap.objs.size:=fun b o e=>Nat.ne_of_lt (Heap.lt_size e)
 have neA:∀b o,s.heap.get? b=some o→b≠a:=fun b o e=>Nat.ne_of_lt (Nat.lt_of_lt_of_le (Heap.lt_size e) R.wa.s0)
 have neT:∀b o,s.heap.get? b=some o→some b≠T:=fun b o e z=>absurd (Heap.lt_size e) (Nat.not_lt.mpr (R.wt b z.symm).s0)
 have tra:∀b o,H1 b=some o→b≠a∧some b≠T∧b∉frs (envOfC qual scope s.heap.objs.size f cd::outer):=fun b o e=>by
  refine⟨fun z=>(by subst z;rw[R.na]at e;cases e),fun z=>(by rw[R.nt b z.symm]at e;cases e),fun z=>?_⟩
  have:=I.stkFree b z
  rw[e]at this;cases this
 refine⟨a,cls,dx,T',H1,rfl,I.os,I.bare,⟨fun b o e n hf hx=>?_,fun b o e n hf hx=>?_,fun b o e n hx=>I.base.free b o e n hx,fun b o e hx=>?_,I.base.tups,I.base.frzs,I.base.tbls⟩,fun b o e=>?_,fl,R.na,?_,R.wa.s0,Nat.le_trans I.sz hT,h cls dx H1 x F q⟩
 ·
  refine k1 b o (neA b o e) (neT b o e) (fun hm=>?_) (I.base.keep b o e n hf hx)
  rcases List.mem_cons.mp (show b∈s.heap.objs.size::frs outer from hm)with z|z
  ·
   exact neL b o e z
  ·
   exact hf z
 ·
  obtain⟨sl,e1⟩:=I.base.slot b o e n hf hx
  obtain⟨sl',e2⟩:=k2 b _ (neA b o e) (neT b o e) e1
  exact⟨sl',e2⟩
 ·
  obtain⟨o',e1⟩:=I.base.there b o e hx
  obtain⟨sl',e2⟩:=k2 b _ (neA b o e) (neT b o e) e1
  exact⟨_,e2⟩
 ·
  refine(I.hok b o e).stay (fun c v hc z=>?_) (fun _ z=>z) (fun _ _ z=>z) fun _ _ _ _ z=>z
  have ht:∃o',H1 c=some o':=by
   rcases hc with rfl|hc
   ·
    exact⟨o,e⟩
   ·
    exact⟨_,hc⟩
  obtain⟨o',ho'⟩:=ht
  obtain⟨t1,t2,t3⟩:=tra c o' ho'
  exact k1 c v t1 t2 t3 z
 ·
  exact I.hok.fresh hT
abbrev FSX:=List D→(L→Prop)→(Xc→Prop)→Prop
def spX(K:Frag)(n:Nat)(fs:FSX):Sp:=fun vs H Q E=>vs.length=n∧∃ds post xp,Reps K H vs ds∧fs ds post xp∧(∀v H' r,REnv K H H' [some v] [r]→post r→Q v H')∧∀cls dx H' x,XFly K H' cls dx x→xp x→E cls dx H'
def jI(fs:FSX)(xp:Xc→Prop)(t:W (List L)):W L:=fun ρ post=>t ρ fun ls ρ1=>toDs ls fun ds=>fs ds (fun r=>post r ρ1) xp
theorem REnv.ds{K:Frag}{H:Hp}:∀{vs:List V}{ds:List D},Reps K H vs ds→Paired (aJ K H) (vs.map some) (ds.map .d)
 |_,_,.nil=>.nil
 |_,_,.cons h t=>.cons ⟨_,rfl,h⟩ (REnv.ds t)
section
variable{X:Cx}{k n:Nat}{f:Addr}{fd:FuncData}{ps:List Str}{fs:FSX}{x:Str}{p pos:Pos}{e:Expr}{es:List Expr}{bs:List (Option Nat)}{t:W (List L)}{xp:Xc→Prop}
theorem DL{pins:List (Addr×Obj)}{σ:St}{H Pr:Hp}{s:Shared}{ρ:Ev}{us:List Value}{vs:List V}{ds:List D}{post:L→Ev→Prop}{Ex:Value→Shared→Prop}(F:FnOk X.prog X.w X.K X.mg X.base (CXr X.prog X.w) k f fd ps (spX X.K n fs))(hr:Room k X.A)(hb:kf X.K fd ps [])(hl:vs.length=n)
  (I:Inv X pins σ H s) (E:REnv X.K Pr H σ ρ) (r:Vals vs us) (rs:Reps X.K H vs ds) (h:fs ds (fun r=>post r ρ) xp)
  (hx:∀(s':Shared)(H':Hp)(a:Addr)(cls:Value)(dx T:Option Addr)(y:Xc),Inv X pins σ H' s'→REnv X.K Pr H' σ ρ→ua X pins H' s' a cls dx T→XFly X.K H' cls dx y→xp y→Ex (.ref a) s') :
  wpAny (model X.prog X.w) X.A (call (.ref f) us) (EL X pins σ Pr post) Ex s:=by
 have hsp:spX X.K n fs vs (hidH H) (fun v H'=>∃r,REnv X.K (hidH H) H' [some v] [r]∧post r ρ) (fun cls dx H'=>∃y,XFly X.K H' cls dx y∧xp y) :=
  ⟨hl,ds,_,xp,rs.hid,h,fun v H' r E1 p=>⟨r,E1,p⟩,fun cls dx H' y q1 q2=>⟨y,q1,q2⟩⟩
 have hl':us.length=ps.length:=by rw[← r.length];exact F.len _ _ _ _ hsp
 have bt:=hb s us I.kIn (by rw[List.append_nil];exact hl')
 rw[List.append_nil]at bt
 refine wpAny_call (codeAny_mono (F.run X.A X.stack s (hidH H) ⟨us,[]⟩ us vs _ _ hr I.hide bt r hsp) fun res s' hq=>?_)
 cases res with
 | error e =>
  obtain⟨a,cls,dx,T,H',rfl,os,bare,un,hok,fl,na,nt,za,zt,y,q1,q2⟩:=hq
  obtain⟨I2,ext,back⟩:=I.unhide os bare un hok
  refine hx s' _ a cls dx (some T) y I2 (E.exten ext) ⟨fl,?_,fun t et=>?_,I.newer za,fun t et=>by cases et;exact I.newer zt⟩ (q1.ext fun b o q=>dg q) q2
  ·
   rw[lG na];exact I.hok.fresh za
  ·
   cases et;rw[lG nt];exact I.hok.fresh zt
 | ok fl =>
  cases fl with
  | ret u =>
   obtain⟨v,H',os,bare,un,hok,rv,r,E2,p⟩:=hq
   obtain⟨I2,ext,back⟩:=I.unhide os bare un hok
   have E3:=E.exten ext
   have fr:∀a∈aE r,H a=none∧∃vs,H' a=some vs∧OMut vs:=fun a ha=>by
    have ha':a∈owns [r]:=by rw[aA];exact List.mem_append_left _ ha
    obtain⟨vs',e1,m1⟩:=E2.at_own ha'
    exact⟨back a _ e1 (E2.off a ha'),vs',e1,m1⟩
   refine⟨v,_,r,ρ,I2,rv,⟨E3.sub,?_,fun a ha=>?_,.cons ?_ E3.sl⟩,p⟩
   ·
    rw[aA]
    have n1:=E2.nd
    rw[aA]at n1
    refine List.nodup_append.mpr ⟨(List.nodup_append.mp n1).1,E3.nd,fun a ha b hb z=>?_⟩
    subst z
    obtain⟨vs',e1,_⟩:=E.at_own hb
    rw[(fr a ha).1]at e1;cases e1
   ·
    rw[aA]at ha
    rcases List.mem_append.mp ha with z|z
    ·
     cases q:Pr a with
     |none=>rfl
     |some o=>have:=E.sub a o q;rw[(fr a z).1]at this;cases this
    ·
     exact E3.off a z
   ·
    have sl:=E2.sl
    cases sl with
    | cons q t =>
     exact q.pres (fun b o _ e=>dg e) r fun a ha=>by
      obtain⟨_,vs',e1,_⟩:=fr a ha
      rw[dg e1,e1]
  |next=>exact False.elim hq
  |brk=>exact False.elim hq
  |cont=>exact False.elim hq
theorem zq(F:FnOk X.prog X.w X.K X.mg X.base (CXr X.prog X.w) k f fd ps (spX X.K n fs))(hr:Room k X.A)(hg:Gl X x)(hm:X.mg x=some (.ref f))(hk:PySem.W.keepIn X.K (.ref f)=true)(hb:kf X.K fd ps [])(hx:XOK X xp)
  (ha:PAL X (e::es) bs t) (hn:bs.length=n) (hdb:(x == ("__debug__" : Str))=false:=by decide) (he:starEach (e::es) X.env=(false,eval e X.env)::starEach es X.env:=by rfl) (hpl:(backTo pos (starEach es X.env)).any (·.1)=false:=by rfl) :
  PL X (.Call (.Name x p) (e::es) [] pos) (jI fs xp t):=by
 intro pins s σ H Pr ρ post I E0 h
 refine wpAny_Call_Name_kw (fV I hg hm ?_ hdb)
 refine PySem.W.callWith_K (h₀:=X.base) I.ok.mod.kin hk (thn (ha pos pins s σ H Pr ρ _ I E0 h) fun us s1 ⟨vs,H1,ls,ρ1,I1,r,hl,hbl,E1,hv,q⟩=>⟨I1.kIn,?_⟩) he hpl
 obtain⟨ds,rfl,q1⟩:=gh q
 have hlen:vs.length=ds.length:=by simpa using hl
 exact DL (post:=post) F hr hb (hbl.trans hn) I1 (E1.drop (by simp[hlen])) r (gi hlen E1) q1 fun s' H' a cls dx T y I2 _ R q1 q2=>hx pins σ H' s' a cls dx T y I2 R q1 q2
def vf(ns:List Str)(ds:List D):List D:=if ns=[]then[]else ds
def qj(c:Str)(ns:List Str)(xp:Xc→Prop)(t:W (List L)):W Fl:=fun ρ _=>t ρ fun ls _=>toDs ls fun ds=>(ns=[]∨ds.length=ns.length)∧ds.length≤8∧xp ⟨c,ns,vf ns ds⟩
structure XT (K:Frag) (mg:Str→Option Value) (c:Str) (C fI:Addr) (fd:FuncData) (ps:List Str) (ns:List Str):Prop where
 m:mg c=some (.ref C)
 s:fY K c C=true
 mkx:XMk K C fI
 b:kf K fd ps []
 kp:PySem.W.keepIn K (.ref C)=true
 fn:∀f∈ns,findIn K (.ref C) f=some none
def w8(K:Frag)(sp:Sp)(C:Addr)(ns:List Str)(vs:List V):Prop:=∀(e:Addr)(H:Hp)(Q:VK),H e=some (XO e (.ref C) none) →
 (∀H2 dx,(∀b,b≠e→∀o,H b=some o→H2 b=some o)→H2 e=some (XO e (.ref C) dx)→((ns=[]∧dx=none)∨∃d,dx=some d∧d≠e∧H2 d=some (XD d (ns.zip vs))∧H d=none∧ns.length=vs.length)→Q .non H2)→sp (.ref e::vs) H Q E0
theorem B1{K:Frag}{c:Str}{C:Addr}{ns:List Str}{vs:List V}(h:fY K c C=true)(hf:∀f∈ns,findIn K (.ref C) f=some none)(hl:vs.length=ns.length):w8 K (spXI K ns) C ns vs:=fun e H Q he q=>by
 obtain⟨L,cd,S⟩:=fZ h
 refine⟨e,vs,c,C,L,cd,rfl,he,S,hf,hl,fun d hd hde=>q _ (some d) (fun b hb o z=>?_) a7 (.inr ⟨d,rfl,hde,?_,hd,hl.symm⟩)⟩
 ·
  rw[ay hb,ay (aR z hd)];exact z
 ·
  rw[ay hde,a7]
theorem w9{c:Str}{C fI:Addr}{ns:List Str}{sp:Sp}{pins:List (Addr×Obj)}{σ:St}{H:Hp}{s:Shared}{us:List Value}{vs:List V}{Q:Value→Shared→Prop}(T:XT X.K X.mg c C fI fd ps ns)(F:FnOk X.prog X.w X.K X.mg X.base CX0 k fI fd ps sp)(hi:w8 X.K sp C ns vs)(hr:Room (k+1) X.A)(hz:us.length≤sizeLine)
  (I:Inv X pins σ H s) (r:Vals vs us)
  (hq:∀(s':Shared)(H':Hp)(e:Addr)(dx:Option Addr),Inv X pins σ H' s'→(∀b o,H b=some o→H' b=some o)→H' e=none→s.heap.objs.size≤e→Fly s'.heap e (.ref C) dx none→((ns=[]∧dx=none)∨∃d od,dx=some d∧H' d=some (.frz od (.xd (ns.zip vs)))∧ns.length=vs.length)→Q (.ref e) s') :
  wpAny (model X.prog X.w) X.A (call (.ref C) us) Q X.xe s:=by
 obtain⟨hh,g,d0,tk,os⟩:=s
 refine ER I.kIn T.mkx hz fun h' e hm hsz=>?_
 obtain⟨tt,he,_,_⟩:=hm.there
 have hn:H e=none:=I.hok.fresh hsz
 have I1:Inv X pins σ (upd H e (XO e (.ref C) none)) ⟨h',g,d0,tk,os⟩:=I.laid (t':=tk) hm.keeps hsz (XO.ok ⟨_,_,he,by simp,rfl⟩)
 have hsp:=hi e (upd H e (XO e (.ref C) none)) (fun v H2=>v=.non∧∃dx,(∀b,b≠e→∀o,upd H e (XO e (.ref C) none) b=some o→H2 b=some o)∧H2 e=some (XO e (.ref C) dx)∧((ns=[]∧dx=none)∨∃d,dx=some d∧d≠e∧H2 d=some (XD d (ns.zip vs))∧upd H e (XO e (.ref C) none) d=none∧ns.length=vs.length)) a7 fun H2 dx a b c=>⟨rfl,dx,a,b,c⟩
 have r2:Vals (V.ref e::vs) (Value.ref e::us):=.cons rfl r
 have hl:(Value.ref e::us).length=ps.length:=by rw[← r2.length];exact F.len _ _ _ _ hsp
 have bt:=T.b _ (Value.ref e::us) I1.kIn (by rw[List.append_nil];exact hl)
 rw[List.append_nil]at bt
 refine wpAny_call (codeAny_mono (F.run _ X.stack _ _ ⟨Value.ref e::us,[]⟩ (Value.ref e::us) _ _ E0 (hr.make C us []) (I1.env0.make C us []) bt r2 hsp) fun res s' hq'=>?_)
 cases res with
 |error x=>exact hq'.elim
 | ok fl =>
  cases fl with
  | ret u =>
   obtain⟨v,H2,I2,rv,ev,dx,kp,e2,alt⟩:=I1.after hq'
   subst ev
   refine⟨rv,?_⟩
   have fl:=I2.xo e2
   have I3:=I2.forget e2
   have up:∀b o,H b=some o→del H2 e b=some o:=fun b o q=>by
    have hb:b≠e:=fun z=>by subst z;rw[hn]at q;cases q
    rw[cy hb];exact kp b hb o (by rw[ay hb];exact q)
   rcases alt with⟨z1,z2⟩|⟨d,z1,z2,z3,z4,z5⟩
   ·
    exact hq s' _ e dx I3 up jH hsz fl (.inl ⟨z1,z2⟩)
   ·
    have hd:del H2 e d=some (XD d (ns.zip vs)):=by rw[cy z2];exact z3
    obtain⟨mA,nA,rA,_⟩:=I2.xd z3
    obtain⟨od,es,ep,hod,r1⟩:=id nA
    have I4:=I3.reword (w:=.frz od (.xd (ns.zip vs))) hd (fun q=>q) (fun _ q=>nomatch q) ⟨hod,mA,nA,rA⟩ (fun _ _ _ q=>nomatch q)
    have dn:H d=none:=by rw[ay z2]at z4;exact z4
    refine hq s' _ e dx I4 (fun b o q=>?_) (by rw[ay (Ne.symm z2)];exact jH) hsz fl (.inr ⟨d,od,z1,a7,z5⟩)
    rw[ay (aR q dn)];exact up b o q
  |next=>exact False.elim hq'
  |brk=>exact False.elim hq'
  |cont=>exact False.elim hq'
theorem zr{c:Str}{C fI:Addr}{ns:List Str}{sp:Sp}{cpos:Pos}(T:XT X.K X.mg c C fI fd ps ns)(F:FnOk X.prog X.w X.K X.mg X.base CX0 k fI fd ps sp)(hi:∀vs:List V,vs.length=n→w8 X.K sp C ns vs)(hr:Room (k+1) X.A)(hg:Gl X c)(hx:XOK X xp)(ha:PAL X (e::es) bs t)(hn:bs.length=n)
  (hdb:(c == ("__debug__" : Str))=false:=by decide) (he:starEach (e::es) X.env=(false,eval e X.env)::starEach es X.env:=by rfl) (hpl:(backTo cpos (starEach es X.env)).any (·.1)=false:=by rfl) :
  PM X (.Raise (some (.Call (.Name c p) (e::es) [] cpos)) none pos) (qj c ns xp t):=by
 intro pins s σ H Pr ρ post I E0 h
 obtain⟨LL,cd,S⟩:=fZ T.s
 rw[arm_exec_Raise]
 refine wpAny_bind (wpAny_standAt ?_)
 refine DH S hr.hd (wpAny_bind (wpAny_mono (wpAny_Call_Name_kw (fV I hg T.m ?_ hdb)) (fun v s3 h3=>wpAny_bind (wpAny_standAt (wpAny_pure h3))) fun _ _ z=>z))
 refine PySem.W.callWith_K (h₀:=X.base) I.ok.mod.kin T.kp (thn (ha cpos pins s σ H Pr ρ _ I E0 h) fun us s1 ⟨vs,H1,ls,ρ1,I1,r,hl,hbl,E1,hv,q⟩=>⟨I1.kIn,?_⟩) he hpl
 obtain⟨ds,rfl,q0,q1,q⟩:=gh q
 have hlen:vs.length=ds.length:=by simpa using hl
 have rs:=gi hlen E1
 refine w9 T F (hi vs (hbl.trans hn)) hr (by show us.length≤sizeLine;rw[← r.length,hlen];exact Nat.le_trans q1 (by decide)) I1 r fun s' H' e dx I2 up na hsz fl alt=>⟨e,dx,rfl,I2.kIn,fl,?_⟩
 refine hx pins σ H' s' e _ dx none ⟨c,ns,vf ns ds⟩ I2 ⟨fl,na,(fun _ z=>nomatch z),I1.newer hsz,(fun _ z=>nomatch z)⟩ ?_ q
 rcases alt with⟨z1,z2⟩|⟨d,od,z1,z2,z3⟩
 ·
  exact⟨C,[],rfl,T.s,T.fn,.inl ⟨z1,rfl,z2⟩,by unfold vf;rw[if_pos z1];exact .nil⟩
 ·
  by_cases zn:ns=[]
  ·
   subst zn
   have e0:vs=[]:=by cases vs with|nil=>rfl|cons _ _=>simp at z3
   subst e0
   exact⟨C,[],rfl,T.s,T.fn,.inr ⟨d,od,z1,z2,z3⟩,by unfold vf;rw[if_pos rfl];exact .nil⟩
  ·
   exact⟨C,vs,rfl,T.s,T.fn,.inr ⟨d,od,z1,z2,z3⟩,by unfold vf;rw[if_neg zn];exact rs.pres fun b o _ q=>up b o q⟩
end
def okX(post:L→Prop):Fl→Ev→Prop:=fun f _=>match f with
 |.rt r=>post r
 |.nx=>post (.d .non)
 |_=>False
theorem DM{P:Program}{w:World}{K:Frag}{mg:Str→Option Value}{base:Heap}{x qual:Str}{st:Stmt}{f:Addr}{fd:FuncData}{N ps:List Str}{k:Nat}{fs:FSX}(F:Fun K x qual st f fd)(S:aC N ps (ak st))(t:(Xc→Prop)→W Fl)
  (hbody:∀(cdv:Value)(A:Around)(outer:List Env)(s:Shared)(H:Hp)(E:XK)(xp:Xc→Prop),Room k (A.deeper (envOfC qual (ak st) s.heap.objs.size f cdv))→(∀cls dx H' y,XFly K H' cls dx y→xp y→E cls dx H') →
   PMs (cxOf (CXr P w) P w K mg base N qual (ak st) f cdv A outer s H E) (dh st) (t xp))
  (h:∀ds post xp,ds.length=ps.length→fs ds post xp→t xp (ds.map .d++List.replicate (N.length-ps.length) .un) (okX post)):FnOk P w K mg base (CXr P w) (k+1) f fd ps (spX K ps.length fs):=by
 obtain⟨oc,od,kV,doc,pm,an,cdv,ct,osl,rfl,lk,hcd⟩:=F.ex
 refine C9 lk hcd S (fun vs H Q E q=>q.1) fun A outer s H vs Q E hr q=>?_
 obtain⟨hl,ds,post,xp,rs,hf,q1,q2⟩:=q
 have E0:REnv K H H (vs.map some) (ds.map .d):=⟨fun _ _ e=>e,by rw[wd];exact List.nodup_nil,fun a ha=>(by rw[wd]at ha;simp at ha),REnv.ds rs⟩
 refine⟨_,(hbody cdv A outer s H E xp hr q2).pss,H,ds.map .d++List.replicate (N.length-ps.length) .un,okX post,?_,h ds post xp (by rw[← rs.length];exact hl) hf,fun σ' H' ρ' E' p=>?_,fun _ _ _ _ p=>p.elim,fun _ _ _ _ p=>p.elim,fun v τ H' r ρ' E' p=>?_⟩
 ·
  unfold ll
  rw[hl]
  exact E0.uns _
 ·
  exact q1 .non H' (.d .non) ((⟨E'.sub,List.nodup_nil,fun a ha=>(by simp[owns]at ha),.nil⟩:REnv K H H' [] []).cons_d .non) p
 ·
  exact q1 v H' r (REnv.left (τ:=[some v]) (lam:=[r]) E' rfl) p
def isA(c y:Str):Bool:=c == y ||c == ("LoadError" : Str)
structure XH (K:Frag) (mg:Str→Option Value) (c:Str) (C:Addr):Prop where
 m:mg c=some (.ref C)
 ns:nsIn K mainGlobals c=some (some (.ref C))
 cls:∃cd,clsIn K C=some cd∧cd.name=c
 ty:typeIn K (.ref C)=some (.type "type")
 base:mroIn K C (.type "BaseException")=some true
section
variable{K:Frag}{mg:Str→Option Value}{c y:Str}{C D:Addr}
theorem XH.sub(T:XH K mg c C)(hs:fY K y D=true):mroIn K D (.ref C)=some (isA c y):=by
 obtain⟨L,cd,S⟩:=fZ hs
 obtain⟨cdC,hC,hn⟩:=T.cls
 obtain⟨kL,hL,hnL⟩:=S.lname
 rw[S.mroIn,yR]
 congr 1
 unfold isA
 have e1:(C == D)=(c == y):=by
  by_cases h:c=y
  ·
   subst h
   have z:=T.ns.symm.trans S.own
   cases z
   simp
  ·
   rw[beq_eq_false_iff_ne.mpr h,beq_eq_false_iff_ne]
   intro z
   subst z
   rw[S.cls]at hC;cases hC
   exact h (hn.symm.trans S.name)
 have e2:(C == L)=(c == ("LoadError" : Str)):=by
  by_cases h:c=("LoadError" : Str)
  ·
   subst h
   have z:=T.ns.symm.trans S.load
   cases z
   simp
  ·
   rw[beq_eq_false_iff_ne.mpr h,beq_eq_false_iff_ne]
   intro z
   subst z
   rw[hL]at hC;cases hC
   exact h (hn.symm.trans hnL)
 rw[e1,e2]
theorem DN{M:Model}{A:Around}{E:Value→Shared→Prop}{s:Shared}{a:Addr}{ox:Obj}{Q:Bool→Shared→Prop}(T:XH K mg c C)(hs:fY K y D=true)(hA:isA c y=true)(X:K.In s.heap)(he:s.heap.get? a=some ox)(hc:ox.cls=.ref D)(hq:Q true s) :
  wpAny M A (excMatches (.ref a) (.ref C)) Q E s:=by
 obtain⟨hp,g,d,tk,os⟩:=s
 have he:hp.get? a=some ox:=he
 obtain⟨cd,hcd,_⟩:=T.cls
 obtain⟨oc,odc,slc,hK⟩:=lO hcd
 have hC:hp.get? C=some ⟨oc,odc,.cls cd,slc⟩:=X _ _ hK
 have L1:Looks M hp (typeOf (.ref C)) (.type "type"):=looks_typeIn X T.ty
 have L2:Looks M hp (isSubtype (.ref C) (.type "BaseException")) true:=looks_mroIn X T.base
 have L3:Looks M hp (isSubtype (.ref D) (.ref C)) true:=looks_mroIn X (by rw[T.sub hs,hA])
 have f:=tc_notTuple
 have L4:Looks M hp (isInstance (.ref C) (.type "tuple")) false:=L1.andThen (Looks.of_pure f)
 have L5:Looks M hp (typeOf (.ref a)) (.ref D):=hc ▸ (Looks.ld he).andThen .now
 unfold excMatches
 refine wpAny_bind (L4.at ?_)
 dsimp only
 rw[if_neg (by decide)]
 repeat (first|with_reducible refine L2.at ?_|with_reducible refine L3.at ?_|with_reducible refine L5.at ?_|with_reducible refine wpAny_loadPart_at hC ?_|wp_step)
 exact hq
end
abbrev Cx.tr(X:Cx)(pins:List (Addr×Obj))(E:Value→Shared→Prop):Cx:={X with pn:=X.pn++pins,xe:=E}
abbrev Cx.han(X:Cx)(a:Addr):Cx:={X with A:=X.A.mark (some (.ref a)),calm:=false,xe:=fun _ _=>False}
section
variable{X:Cx}{pins pins0:List (Addr×Obj)}{σ:St}{H:Hp}{s:Shared}{E:Value→Shared→Prop}{a:Addr}
theorem Cx.Ok.tr(ok:X.Ok):(X.tr pins E).Ok:=⟨ok.mod,ok.kind,ok.glob,ok.blt,ok.above,ok.inj,ok.has,ok.cab,ok.hd,ok.frames,ok.stk,ok.exf,ok.bs,ok.bsz,ok.noex,ok.exfs,ok.funs,ok.frf,ok.tbs⟩
theorem Cx.Ok.untr(ok:(X.tr pins E).Ok):X.Ok:=⟨ok.mod,ok.kind,ok.glob,ok.blt,ok.above,ok.inj,ok.has,ok.cab,ok.hd,ok.frames,ok.stk,ok.exf,ok.bs,ok.bsz,ok.noex,ok.exfs,ok.funs,ok.frf,ok.tbs⟩
theorem Inv.tr(I:Inv X pins σ H s):Inv (X.tr pins E) [] σ H s:=⟨I.ok.tr,I.os,I.bare,I.base,I.loc,I.cell,I.free,I.freeC,fun p hp=>I.pin p (by simpa using hp),I.hok,I.len⟩
theorem Inv.untr(I:Inv (X.tr pins0 E) pins σ H s):Inv X pins0 σ H s:=⟨I.ok.untr,I.os,I.bare,I.base,I.loc,I.cell,I.free,I.freeC,fun p hp=>I.pin p (List.mem_append_left _ hp),I.hok,I.len⟩
theorem Inv.han(I:Inv X pins σ H s)(a:Addr):Inv (X.han a) pins σ H s :=
 ⟨⟨I.ok.mod,I.ok.kind,I.ok.glob,I.ok.blt,I.ok.above,I.ok.inj,I.ok.has,I.ok.cab,(fun z=>nomatch z),I.ok.frames,I.ok.stk,I.ok.exf,I.ok.bs,I.ok.bsz,I.ok.noex,I.ok.exfs,I.ok.funs,I.ok.frf,I.ok.tbs⟩,I.os,I.bare,I.base,I.loc,I.cell,I.free,I.freeC,I.pin,I.hok,I.len⟩
theorem Inv.unhan(I:Inv (X.han a) pins σ H s)(ok:X.Ok):Inv X pins σ H s:=⟨ok,I.os,I.bare,I.base,I.loc,I.cell,I.free,I.freeC,I.pin,I.hok,I.len⟩
theorem SM.unhan{Pr:Hp}{post:Fl→Ev→Prop}{f:Flow}{s':Shared}(ok:X.Ok)(h:SM (X.han a) pins Pr post f s'):SM X pins Pr post f s':=by
 cases f with
 |next=>obtain⟨σ',H',ρ',I,r⟩:=h;exact⟨σ',H',ρ',I.unhan ok,r⟩
 |brk=>obtain⟨σ',H',ρ',I,r⟩:=h;exact⟨σ',H',ρ',I.unhan ok,r⟩
 |cont=>obtain⟨σ',H',ρ',I,r⟩:=h;exact⟨σ',H',ρ',I.unhan ok,r⟩
 |ret u=>obtain⟨v,σ',H',r',ρ',τ,I,r⟩:=h;exact⟨v,σ',H',r',ρ',τ,I.unhan ok,r⟩
theorem SM.untr{Pr:Hp}{post:Fl→Ev→Prop}{f:Flow}{s':Shared}(h:SM (X.tr pins0 E) pins Pr post f s'):SM X pins0 Pr post f s':=by
 cases f with
 |next=>obtain⟨σ',H',ρ',I,r⟩:=h;exact⟨σ',H',ρ',I.untr,r⟩
 |brk=>obtain⟨σ',H',ρ',I,r⟩:=h;exact⟨σ',H',ρ',I.untr,r⟩
 |cont=>obtain⟨σ',H',ρ',I,r⟩:=h;exact⟨σ',H',ρ',I.untr,r⟩
 |ret u=>obtain⟨v,σ',H',r',ρ',τ,I,r⟩:=h;exact⟨v,σ',H',r',ρ',τ,I.untr,r⟩
end
def xeT(X:Cx)(pins:List (Addr×Obj))(Pr:Hp)(xp:Xc→Ev→Prop):Value→Shared→Prop:=fun e s'=>∃σ' H' ρ' a cls dx T x,e=.ref a∧Inv X pins σ' H' s'∧REnv X.K Pr H' σ' ρ'∧ua X pins H' s' a cls dx T∧XFly X.K H' cls dx x∧xp x ρ'
abbrev Cx.tb(X:Cx)(pins:List (Addr×Obj))(Pr:Hp)(xp:Xc→Ev→Prop):Cx:=X.tr pins (xeT X pins Pr xp)
def Le(P Q:Hp):Prop:=∀b o,P b=some o→Q b=some o
theorem REnv.le{K:Frag}{P Q H:Hp}{σ:St}{ρ:Ev}(E:REnv K Q H σ ρ)(h:Le P Q):REnv K P H σ ρ:=⟨fun b o e=>E.sub b o (h b o e),E.nd,fun a ha=>(by
  have z:=E.off a ha
  cases q:P a with
  |none=>rfl
  |some o=>rw[h a o q]at z;cases z),E.sl⟩
def PLt(X:Cx)(pins0:List (Addr×Obj))(Pr0:Hp)(xp:Xc→Ev→Prop)(e:Expr)(t:W L):Prop :=
 ∀(pins:List (Addr×Obj))(s:Shared)(σ:St)(H Pr:Hp)(ρ:Ev)(post:L→Ev→Prop),Le Pr0 Pr→Inv (X.tb pins0 Pr0 xp) pins σ H s→REnv X.K Pr H σ ρ→t ρ post→wpAny (model X.prog X.w) X.A (eval e X.env) (EL (X.tb pins0 Pr0 xp) pins σ Pr post) (xeT X pins0 Pr0 xp) s
def PMt(X:Cx)(pins0:List (Addr×Obj))(Pr0:Hp)(xp:Xc→Ev→Prop)(st:Stmt)(t:W Fl):Prop :=
 ∀(pins:List (Addr×Obj))(s:Shared)(σ:St)(H Pr:Hp)(ρ:Ev)(post:Fl→Ev→Prop),Le Pr0 Pr→Inv (X.tb pins0 Pr0 xp) pins σ H s→REnv X.K Pr H σ ρ→t ρ post→wpAny (model X.prog X.w) X.A (exec st X.env) (SM (X.tb pins0 Pr0 xp) pins Pr post) (xeT X pins0 Pr0 xp) s
def PMts(X:Cx)(pins0:List (Addr×Obj))(Pr0:Hp)(xp:Xc→Ev→Prop)(sts:List Stmt)(t:W Fl):Prop :=
 ∀(pins:List (Addr×Obj))(s:Shared)(σ:St)(H Pr:Hp)(ρ:Ev)(post:Fl→Ev→Prop),Le Pr0 Pr→Inv (X.tb pins0 Pr0 xp) pins σ H s→REnv X.K Pr H σ ρ→t ρ post→wpAny (model X.prog X.w) X.A (execs sts X.env) (SM (X.tb pins0 Pr0 xp) pins Pr post) (xeT X pins0 Pr0 xp) s
def qk(fs:FSX)(xp:Xc→Ev→Prop)(t:W (List L)):W L:=fun ρ post=>t ρ fun ls ρ1=>toDs ls fun ds=>fs ds (fun r=>post r ρ1) (fun y=>xp y ρ1)
section
variable{X:Cx}{pins0:List (Addr×Obj)}{Pr0:Hp}{xp:Xc→Ev→Prop}{k n:Nat}{f:Addr}{fd:FuncData}{ps:List Str}{fs:FSX}{x:Str}{p pos:Pos}{e:Expr}{es:List Expr}{bs:List (Option Nat)}{t:W (List L)}{te:W L}{tm:W Fl}{st:Stmt}
theorem zu(F:FnOk X.prog X.w X.K X.mg X.base (CXr X.prog X.w) k f fd ps (spX X.K n fs))(hr:Room k X.A)(hg:Gl X x)(hm:X.mg x=some (.ref f))(hk:PySem.W.keepIn X.K (.ref f)=true)(hb:kf X.K fd ps [])
  (ha:PAL (X.tb pins0 Pr0 xp) (e::es) bs t) (hn:bs.length=n) (hdb:(x == ("__debug__" : Str))=false:=by decide) (he:starEach (e::es) X.env=(false,eval e X.env)::starEach es X.env:=by rfl) (hpl:(backTo pos (starEach es X.env)).any (·.1)=false:=by rfl) :
  PLt X pins0 Pr0 xp (.Call (.Name x p) (e::es) [] pos) (qk fs xp t):=by
 intro pins s σ H Pr ρ post le I E0 h
 refine wpAny_Call_Name_kw (fV (X:=X.tb pins0 Pr0 xp) I hg hm ?_ hdb)
 refine PySem.W.callWith_K (h₀:=X.base) I.ok.mod.kin hk (thn (ha pos pins s σ H Pr ρ _ I E0 h) fun us s1 ⟨vs,H1,ls,ρ1,I1,r,hl,hbl,E1,hv,q⟩=>⟨I1.kIn,?_⟩) he hpl
 obtain⟨ds,rfl,q1⟩:=gh q
 have hlen:vs.length=ds.length:=by simpa using hl
 refine DL (X:=X.tb pins0 Pr0 xp) (post:=post) F hr hb (hbl.trans hn) I1 (E1.drop (by simp[hlen])) r (gi hlen E1) q1 fun s' H' a cls dx T y I2 E2 R z1 z2=>?_
 exact⟨σ,H',ρ1,a,cls,dx,T,y,rfl,I2.untr,E2.le le,⟨R.fly,R.na,R.nt,⟨R.wa.s0,R.wa.loc,R.wa.cel,fun p hp=>R.wa.pin p (List.mem_append_left _ hp)⟩,fun t et=>⟨(R.wt t et).s0,(R.wt t et).loc,(R.wt t et).cel,fun p hp=>(R.wt t et).pin p (List.mem_append_left _ hp)⟩⟩,z1,z2⟩
theorem B2{i:Nat}{x:Str}{pos':Pos}(hN:X.N.Nodup)(hi:X.N[i]?=some x)(hx:Loc X.env.scope x)(he:PLt X pins0 Pr0 xp e te)(hs:swapsWith e (some (.Name x pos')) pos.line X.env=pure false:=by rfl)(hf:X.fn x=true∨X.env.scope.names.lookup x=some .local:=by first|exact .inl rfl|exact .inr rfl|assumption) :
  PMt X pins0 Pr0 xp (.Assign [.Name x pos'] e pos) (wSet i te):=by
 intro pins s σ H Pr ρ post le I E h
 refine wpAny_Assign_Name (thn (he pins s σ H Pr ρ _ le I E h) fun v s1 ⟨y,H1,r,ρ1,I1,r1,E1,q1⟩=>?_) hs
 exact jt (X:=X.tb pins0 Pr0 xp) I1 hN hi hx r1 (fun s2 I2=>⟨_,H1,_,I2,E1.store (by rw[I1.len];exact(List.getElem?_eq_some_iff.mp hi).1),q1⟩) hf
theorem zv(h1:PMt X pins0 Pr0 xp st tm):PMts X pins0 Pr0 xp [st] tm:=by
 intro pins s σ H Pr ρ post le I E h
 refine wpAny_execs_cons (thn (h1 pins s σ H Pr ρ post le I E h) fun f s1 q=>?_)
 cases f with
 |next=>exact wpAny_execs_nil q
 |brk=>exact q
 |cont=>exact q
 |ret u=>exact q
end
def wTry(tb:(Xc→Ev→Prop)→W Fl)(c:Str)(ts:W Fl):W Fl:=fun ρ post=>tb (fun x ρ1=>isA c x.c=true∧ts ρ1 post) ρ post
section
variable{X:Cx}{pins:List (Addr×Obj)}{σ:St}{H:Hp}{s:Shared}
theorem Inv.landed{Pr:Hp}{ρ:Ev}{a:Addr}{cls:Value}{dx T:Option Addr}{h1:Heap}(I:Inv X pins σ H s)(R:ua X pins H s a cls dx T)(hstk:X.stack=X.env::X.outer)
  (k1:∀b o,b≠a→some b≠T→b∉frs (X.env::X.outer)→s.heap.get? b=some o→h1.get? b=some o) (k2:∀b o,b≠a→some b≠T→s.heap.get? b=some o→∃sl,h1.get? b=some {o with slots:=sl}):Inv X pins σ H {s with heap:=h1}:=by
 have nch:∀b,b∉a::T.toList→b≠a∧some b≠T:=fun b hb=>⟨fun z=>hb (by simp[z]),fun z=>hb (by simp[← z])⟩
 have tra:∀b o,H b=some o→b≠a∧some b≠T∧b∉frs (X.env::X.outer):=fun b o e=>by
  refine⟨fun z=>(by subst z;rw[R.na]at e;cases e),fun z=>(by rw[R.nt b z.symm]at e;cases e),fun z=>?_⟩
  have:=I.stkFree b (by rw[hstk];exact z)
  rw[e]at this;cases this
 refine I.call (g':=s.gens) (t':=s.toks) (d':=s.drawn) (ch:=a::T.toList) ⟨fun b o e n hf hx=>?_,fun b o e n hf hx=>?_,fun b o e n hx=>n,fun b o e hx=>?_,fun _ _ e=>e,fun _ _ _ e=>e,fun _ _ e=>e⟩ (fun b o e=>?_) I.bare fun b hb=>?_
 ·
  exact k1 b o (nch b hx).1 (nch b hx).2 (by rw[← hstk];exact hf) e
 ·
  exact k2 b o (nch b hx).1 (nch b hx).2 e
 ·
  obtain⟨sl,q⟩:=k2 b o (nch b hx).1 (nch b hx).2 e
  exact⟨_,q⟩
 ·
  refine(I.hok b o e).stay (fun c v hc z=>?_) (fun _ z=>z) (fun _ _ z=>z) fun _ _ _ _ z=>z
  have ht:∃o',H c=some o':=by
   rcases hc with rfl|hc
   ·
    exact⟨o,e⟩
   ·
    exact⟨_,hc⟩
  obtain⟨o',ho'⟩:=ht
  obtain⟨t1,t2,t3⟩:=tra c o' ho'
  exact k1 c v t1 t2 t3 z
 ·
  have w:New X pins b:=by
   rcases List.mem_cons.mp hb with rfl|hb
   ·
    exact R.wa
   ·
    exact R.wt b (by cases T with|none=>simp at hb|some t=>simp at hb;rw[hb])
  exact⟨.inr w.s0,w.loc,w.cel,w.pin⟩
end
section
variable{X:Cx}{body suite:List Stmt}{b0:Stmt}{c:Str}{C:Addr}{p hp pos:Pos}{tb:(Xc→Ev→Prop)→W Fl}{ts:W Fl}
theorem B3(hstk:X.stack=X.env::X.outer)(hf:X.env.frame=some X.env.locals)(TC:XH X.K X.mg c C)(hg:Gl X c)(hb:∀ pins Pr xp,PMts X pins Pr xp body (tb xp))(hs:∀ a,PMs (X.han a) (b0::suite) ts) (hdb:(c == ("__debug__" : Str))=false:=by decide) :
  PM X (.Try body [.ExceptHandler (some (.Name c p)) none (b0::suite) hp] [] [] pos) (wTry tb c ts):=by
 intro pins s σ H Pr ρ post I E h
 refine wpAny_Try_except (wpAny_mono (hb pins Pr (fun x ρ1=>isA c x.c=true∧ts ρ1 post) [] s σ H Pr ρ post (fun _ _ z=>z) I.tr E h) (fun f s1 q=>?_) fun e s1 q=>?_)
 ·
  have q':=SM.untr q
  cases f with
  |next=>exact wpAny_execs_nil q'
  |brk=>exact q'
  |cont=>exact q'
  |ret u=>exact q'
 ·
  obtain⟨σ',H',ρ',a,cls,dx,T,x,rfl,I1,E1,R,F,hA,hts⟩:=q
  refine DI (hstk ▸ I1.ok.frames) (hstk ▸ I1.stack) hf R.fly fun h1 T1 fl hT1 k1 k2=>?_
  have I2:=I1.landed (Pr:=Pr) (ρ:=ρ') R hstk k1 k2
  have w1:=I1.newer hT1
  obtain⟨D0,vs,rfl,hstd,hfq,hxf,rs⟩:=F
  refine wpAny_handleBy_cons (codeAny_handlers_test (fV (I2.han a) hg TC.m ?_ hdb)) (by intro q;cases q)
  obtain⟨vv,sl,he,_⟩:=id fl
  refine DN TC hstd hA I2.kIn he rfl ?_
  refine codeAny_handlers_suite (ES fl fun h2 fl2 k3=>?_)
  have I3:=I2.turned (it:=T1) (t':=s1.toks) (fun b o hb e=>k3 b o hb e) (I1.hok.fresh hT1) w1.loc (.inr w1.s0) w1.cel w1.pin
  exact wpAny_mono (hs a pins _ σ' H' Pr ρ' post (I3.han a) E1 hts) (fun f s4 q=>SM.unhan I.ok q) fun _ _ z=>z.elim
end
theorem nI{X:Cx}:XOK X (fun _=>False):=fun _ _ _ _ _ _ _ _ _ _ _ _ h=>h.elim
section
variable{X:Cx}{k k' n:Nat}{f:Addr}{fd:FuncData}{ps:List Str}{fs:FSX}{g:Str}{st:Stmt}{e:Expr}{es:List Expr}{bs:List (Option Nat)}{t:W (List L)}{p pos cpos:Pos}{xp:Xc→Prop}{c:Str}{C fI:Addr}{ns:List Str}
theorem nJ(F:FnOk X.prog X.w X.K X.mg X.base (CXr X.prog X.w) k f fd ps (spX X.K n fs))(T:FX X.K X.mg g st f fd ps)(hr:Room k' X.A)(hx:XOK X xp)(ha:PAL X (e::es) bs t)(hk:k≤k':=by decide)(hg:Gl X g:=by rfl)(hn:bs.length=n:=by rfl) (hdb:(g == ("__debug__" : Str))=false:=by decide) (he:starEach (e::es) X.env=(false,eval e X.env)::starEach es X.env:=by rfl) (hpl:(backTo pos (starEach es X.env)).any (·.1)=false:=by rfl) :
  PL X (.Call (.Name g p) (e::es) [] pos) (jI fs xp t):=zq F (hr.mono hk) hg T.m T.f.kp T.b hx ha hn hdb he hpl
theorem DO{pins0:List (Addr×Obj)}{Pr0:Hp}{xt:Xc→Ev→Prop}(F:FnOk X.prog X.w X.K X.mg X.base (CXr X.prog X.w) k f fd ps (spX X.K n fs))(T:FX X.K X.mg g st f fd ps)(hr:Room k' X.A)(ha:PAL (X.tb pins0 Pr0 xt) (e::es) bs t)(hk:k≤k':=by decide)(hg:Gl X g:=by rfl)(hn:bs.length=n:=by rfl) (hdb:(g == ("__debug__" : Str))=false:=by decide) (he:starEach (e::es) X.env=(false,eval e X.env)::starEach es X.env:=by rfl) (hpl:(backTo pos (starEach es X.env)).any (·.1)=false:=by rfl) :
  PLt X pins0 Pr0 xt (.Call (.Name g p) (e::es) [] pos) (qk fs xt t):=zu F (hr.mono hk) hg T.m T.f.kp T.b ha hn hdb he hpl
theorem ql(T:XT X.K X.mg c C fI fd ps ns)(F:FnOk X.prog X.w X.K X.mg X.base CX0 2 fI fd ps (spXI X.K ns))(hr:Room k' X.A)(hx:XOK X xp)(ha:PAL X (e::es) bs t)(hk:3≤k':=by decide)(hg:Gl X c:=by rfl)(hn:bs.length=ns.length:=by rfl)
  (hdb:(c == ("__debug__" : Str))=false:=by decide) (he:starEach (e::es) X.env=(false,eval e X.env)::starEach es X.env:=by rfl) (hpl:(backTo cpos (starEach es X.env)).any (·.1)=false:=by rfl) :
  PM X (.Raise (some (.Call (.Name c p) (e::es) [] cpos)) none pos) (qj c ns xp t) :=
 zr T F (fun vs hv=>B1 T.s T.fn hv) (hr.mono hk) hg hx ha hn hdb he hpl
abbrev fdQ(g q:Str)(st:Stmt)(md:Value)(c:Nat):FuncData:=PySem.W.fnOf g q (fX st) (dh st) (ak st) .none .none .none md none (.ref c) .none
theorem w5.mk'{K:Frag}{mg:Str→Option Value}{h:Heap}(X:K.In h)(G:h.Ns mainGlobals mg){L fL:Addr}{st:Stmt}{md:Value}{c:Nat} (e1:nsIn K mainGlobals "LoadError"=some (some (.ref L))) (e2:readsIn K L (.type "type")=true) (e3:specialIn K (.ref L) "__getattribute__"=some (some (.builtin "type.__getattribute__")))
  (e4:findCls K (.ref L) (.type "type") "__init__"=some (.val (.ref fL))) (e5:K.lookup fL=some ⟨.type "function",none,.func (fdQ "__init__" "LoadError.__init__" st md c),#[]⟩) (e6:codeIn K (.ref c) "LoadError.__init__"=true) (e7:keepIn K (.ref fL)=true)
  (e8:∀(kV doc pm:Value)(an:Option Addr)(cdv ct:Value)(us:List Value),us.length=2→bindArgs (PySem.W.fnOf "__init__" "LoadError.__init__" (fX st) (dh st) (ak st) .none kV doc pm an cdv ct) ⟨us,[]⟩=pure ((["self","text"]:List Str).zip us)):w5 K mg L fL (fdQ "__init__" "LoadError.__init__" st md c) st :=
 ⟨mg_of X G e1,e2,e3,e4,ny e5 e6 e7,(ny e5 e6 e7).binds e8⟩
theorem XT.mk'{K:Frag}{mg:Str→Option Value}{h:Heap}(X:K.In h)(G:h.Ns mainGlobals mg){c:Str}{C fI:Addr}{fd:FuncData}{ps ns:List Str}(e1:nsIn K mainGlobals c=some (some (.ref C)))(e2:fY K c C=true)(e3:BV K C fI=true)(b:kf K fd ps [])(e4:keepIn K (.ref C)=true)(e5:(ns.all fun f=>findIn K (.ref C) f == some none)=true):XT K mg c C fI fd ps ns :=
 ⟨mg_of X G e1,e2,DG e3,b,e4,fun f hf=>beq_iff_eq.mp (List.all_eq_true.mp e5 f hf)⟩
theorem XH.mk'{K:Frag}{mg:Str→Option Value}{h:Heap}(X:K.In h)(G:h.Ns mainGlobals mg){c:Str}{C:Addr}(e1:nsIn K mainGlobals c=some (some (.ref C)))(e2:((clsIn K C).any fun cd=>cd.name == c)=true) (e3:typeIn K (.ref C)=some (.type "type")) (e4:mroIn K C (.type "BaseException")=some true):XH K mg c C :=
 ⟨mg_of X G e1,e1,(let ⟨cd,h1,h2⟩:=any_some e2;⟨cd,h1,beq_iff_eq.mp h2⟩),e3,e4⟩
theorem zw{K:Frag}:∀vs H Q E,spLI K vs H Q E→vs.length=2:=fun _ _ _ _ ⟨_,_,_,_,_,_,e,_⟩=>by rw[e];rfl
theorem zx{K:Frag}{ns:List Str}:∀vs H Q E,spXI K ns vs H Q E→vs.length=ns.length+1:=fun _ _ _ _ ⟨_,_,_,_,_,_,e,_,_,_,l,_⟩=>by rw[e,List.length_cons,l]
end
end L2
namespace L2
open PySem PySem.Spec PyProof.Rows
section
variable{κ:Type}[DecidableEq κ]
theorem KV.any{kvs:List (κ×V)}{vs:List (κ×Value)}(r:KV kvs vs)(k:κ):(kvs.any fun kv=>decide (kv.1=k))=vs.any fun kv=>decide (kv.1=k):=by
 unfold KV at r
 induction r with
 |nil=>rfl
 |cons h t ih=>rw[List.any_cons,List.any_cons,ih,h.1]
theorem KV.length{kvs:List (κ×V)}{vs:List (κ×Value)}(r:KV kvs vs):kvs.length=vs.length:=Paired.length r
end
theorem DP{P:Program}{w:World}{k:Key}{u:Value}(r:RelV (kV k) u):(ke P w).is k u=true:=by
 cases k with
 |inl i=>obtain⟨t,e⟩:=(show ∃t,u=Value.int i t from r);subst e;exact rj P w i t
 |inr x=>obtain⟨t,e⟩:=(show ∃t,u=Value.str x t from r);subst e;exact rk P w x t
abbrev DR(K:PySem.W.Frag)(H:Hp):List (Key×V)→List (Key×D)→Prop:=Paired fun (p:Key×V) (q:Key×D)=>p.1=q.1∧Rep K H p.2 q.2
theorem DR.any{K:PySem.W.Frag}{H:Hp}{k:Key}:∀{vs:List (Key×V)}{kvs:List (Key×D)},DR K H vs kvs→(vs.any fun p=>decide (p.1=k))=kvs.any fun p=>decide (p.1=k)
 |_,_,.nil=>rfl
 |p::vs,q::kvs,.cons h t=>by rw[List.any_cons,List.any_cons,DR.any t,h.1]
section
variable{X:Cx}{pos:Pos}
def flatC:D→Bool
 |.int _=>true
 |.str _=>true
 |.bl _=>true
 |.non=>true
 |_=>false
theorem Rep.flatC{K:PySem.W.Frag}{H H':Hp}{v:V}{d:D}(h:L2.flatC d=true)(r:Rep K H v d):Rep K H' v d:=by
 cases r with
 |int i=>exact .int i
 |str i=>exact .str i
 |bl i=>exact .bl i
 |non=>exact .non
 |_=>cases h
inductive DPs (X:Cx):List (Option Expr)→List Expr→List (Key×D)→Prop where
 |nil:DPs X [] [] []
 |int {k v:Expr} {ks:List (Option Expr)} {vs:List Expr} {i:Int} {d:D} {kvs:List (Key×D)} (hk:PL X k (wC (.int i))) (hv:PL X v (wC d)) (hf:flatC d=true) (t:DPs X ks vs kvs):DPs X (some k::ks) (v::vs) ((.inl i,d)::kvs)
 |str {k v:Expr} {ks:List (Option Expr)} {vs:List Expr} {y:Str} {d:D} {kvs:List (Key×D)} (hk:PL X k (wC (.str y))) (hv:PL X v (wC d)) (hf:flatC d=true) (t:DPs X ks vs kvs):DPs X (some k::ks) (v::vs) ((.inr y,d)::kvs)
theorem DPs.run{pos:Pos}{pins:List (Addr×Obj)}{σ:St}{Pr:Hp}{ρ:Ev}:∀{ks:List (Option Expr)}{vs:List Expr}{kvs:List (Key×D)},DPs X ks vs kvs→∀{H:Hp}{s:Shared}{Q:List (Value×Value)→Shared→Prop},Inv X pins σ H s→REnv X.K Pr H σ ρ →
  (∀(H':Hp)(s':Shared)(us:List (Value×Value))(ps:List (Key×V))(qs:List (Key×Value)),Inv X pins σ H' s'→REnv X.K Pr H' σ ρ→Carries (ke X.prog X.w) us qs→KV ps qs→DR X.K H' ps kvs→Q us s') →
  wpAny (model X.prog X.w) X.A (evalPairs (pairTrees ks vs X.env pos)) Q X.xe s
 |_,_,_,.nil,H,s,Q,I,E,h=>pairTrees_nil_walk (h H s [] [] [] I E True.intro .nil .nil)
 | _,_,_,.int (d:=d) hk hv hf t,H,s,Q,I,E,h=>by
  refine pairTrees_cons_walk (thn (hk pins s σ H Pr ρ (fun r ρ'=>r=.d _∧ρ'=ρ) I E ⟨rfl,rfl⟩) fun u s1 ⟨v,H1,r,ρ',I1,rv,E1,e1,e2⟩=>?_)
  subst e1 e2
  refine thn (hv pins s1 σ H1 Pr _ (fun r ρ'=>r=.d d∧ρ'=_) I1 E1.tail ⟨rfl,rfl⟩) fun u2 s2 ⟨v2,H2,r2,ρ2,I2,rv2,E2,e1,e2⟩=>?_
  subst e1 e2
  obtain⟨_,z1,p1⟩:=E1.head_d
  cases z1
  cases p1
  obtain⟨_,z2,p2⟩:=E2.head_d
  cases z2
  exact DPs.run t I2 E2.tail fun H' s' us ps qs I3 E3 hc hk3 hd=>h H' s' ((u,u2)::us) ((.inl _,v2)::ps) ((.inl _,u2)::qs) I3 E3 ⟨DP rv,rfl,hc⟩ (.cons ⟨rfl,rv2⟩ hk3) (.cons ⟨rfl,p2.flatC hf⟩ hd)
 | _,_,_,.str (d:=d) hk hv hf t,H,s,Q,I,E,h=>by
  refine pairTrees_cons_walk (thn (hk pins s σ H Pr ρ (fun r ρ'=>r=.d _∧ρ'=ρ) I E ⟨rfl,rfl⟩) fun u s1 ⟨v,H1,r,ρ',I1,rv,E1,e1,e2⟩=>?_)
  subst e1 e2
  refine thn (hv pins s1 σ H1 Pr _ (fun r ρ'=>r=.d d∧ρ'=_) I1 E1.tail ⟨rfl,rfl⟩) fun u2 s2 ⟨v2,H2,r2,ρ2,I2,rv2,E2,e1,e2⟩=>?_
  subst e1 e2
  obtain⟨_,z1,p1⟩:=E1.head_d
  cases z1
  cases p1
  obtain⟨_,z2,p2⟩:=E2.head_d
  cases z2
  exact DPs.run t I2 E2.tail fun H' s' us ps qs I3 E3 hc hk3 hd=>h H' s' ((u,u2)::us) ((.inr _,v2)::ps) ((.inr _,u2)::qs) I3 E3 ⟨DP rv,rfl,hc⟩ (.cons ⟨rfl,rv2⟩ hk3) (.cons ⟨rfl,p2.flatC hf⟩ hd)
theorem DPs.len:∀{ks:List (Option Expr)}{vs:List Expr}{kvs:List (Key×D)},DPs X ks vs kvs→ks.all (·.isSome)=true∧ks.length=vs.length∧ks.length=kvs.length
 |_,_,_,.nil=>⟨rfl,rfl,rfl⟩
 | _,_,_,.int _ _ _ t=>by
  obtain⟨h1,h2,h3⟩:=t.len
  simp[h1,h2,← h3]
 | _,_,_,.str _ _ _ t=>by
  obtain⟨h1,h2,h3⟩:=t.len
  simp[h1,h2,← h3]
end
end L2
namespace L2
open PySem PySem.Spec PyProof.Rows PySem.SeqAt
mutual
def ub:Nat→D→Bool
 |_,.non=>true
 |_,.bl _=>true
 |_,.int _=>true
 |_,.str _=>true
 |n+1,.tup xs=>rT n xs
 |n+1,.lst xs=>rT n xs
 |n+1,.dct m=>m == 0
 |_,_=>false
def rT:Nat→List D→Bool
 |_,[]=>true
 |n,x::xs=>ub n x && rT n xs
end
mutual
def sgnD:D→Nat
 |.int _=>602
 |.str x=>10*x.length+2
 |.tup xs=>vg xs+3
 |.lst xs=>vg xs+3
 |_=>6
def vg:List D→Nat
 |[]=>0
 |x::xs=>sgnD x+2+vg xs
end
mutual
theorem uc:∀d:D,(toP d).leavesShort 601=true→(toP d).shown.length≤sgnD d
 |.non,_=>by decide
 |.bl b,_=>by cases b<;>decide
 | .int i,h=>by
  have e:(PyData.shown (.int i)).length≤601:=by simpa only[toP,PyData.leavesShort,decide_eq_true_eq]using h
  exact Nat.le_succ_of_le e
 | .str x,h=>by
  have hx:∀c∈x.cps.toList,c<16^8:=by simpa only[toP,PyData.leavesShort,List.all_eq_true,decide_eq_true_eq]using h
  have e:=PySem.StrLaws.reprText_len x hx
  simp only[toP,PyData.shown,sgnD]
  omega
 | .tup xs,h=>by
  have h1:=rW xs (by simpa only[toP,PyData.leavesShort]using h)
  have h2:=tupleText_len_le (PyData.shownAll (toPs xs))
  have h3:=PyData.shownAll_length (toPs xs)
  simp only[toP,PyData.shown,sgnD]
  omega
 | .lst xs,h=>by
  have h1:=rW xs (by simpa only[toP,PyData.leavesShort]using h)
  have h2:=listText_len_le (PyData.shownAll (toPs xs))
  have h3:=PyData.shownAll_length (toPs xs)
  simp only[toP,PyData.shown,sgnD]
  omega
 |.dct _,_=>by simp only[toP,sgnD];decide
 |.exc _ _ _,_=>by simp only[toP,sgnD];decide
 |.fn _ _,_=>by simp only[toP,sgnD];decide
theorem rW:∀ds:List D,PyData.leavesShortAll 601 (toPs ds)=true→((PyData.shownAll (toPs ds)).map (·.length)).sum+2*(toPs ds).length≤vg ds
 |[],_=>by simp only[toPs,PyData.shownAll,List.map_nil,List.sum_nil,List.length_nil,vg];omega
 | d::ds,h=>by
  have h':(toP d).leavesShort 601=true∧PyData.leavesShortAll 601 (toPs ds)=true:=by simpa only[toPs,PyData.leavesShortAll,Bool.and_eq_true]using h
  have h1:=uc d h'.1
  have h2:=rW ds h'.2
  simp only[toPs,PyData.shownAll,List.map_cons,List.sum_cons,List.length_cons,vg]
  omega
end
structure B4 (d:D):Prop where
 ok:okD 40 d=true
 sh:eM d=true
 ln:(toP d).shown.length≤sizeLine
theorem t6.l{d:D}(h:t6 d):B4 d:=⟨h.ok,h.sh,h.len⟩
theorem B4.of{d:D}(h1:okD 40 d=true)(h2:eM d=true)(h3:sgnD d≤16777216):B4 d:=by
 refine⟨h1,h2,Nat.le_trans (uc d (PyData.leavesShort_of_canLay0 601 _ (oA 40 d h1).1 (jG d h2).1)) ?_⟩
 have e:sizeLine=16777216:=by decide
 rw[e]
 exact h3
end L2
namespace L2
open PySem PySem.Spec PyProof.Rows
end L2
namespace L2
open PySem PySem.Spec PyProof.Rows PySem.W
end L2
namespace L2
open PySem PySem.Spec PyProof.Rows
end L2
namespace L2
open PySem PySem.Spec PyProof.Rows PySem.SeqAt
mutual
def okW:D→Bool
 |.dct n=>n == 0
 |.exc _ _ _=>false
 |.fn _ _=>false
 |.tup xs=>okWs xs
 |.lst xs=>okWs xs
 |.str x=>PyData.strOk x
 |_=>true
def okWs:List D→Bool
 |[]=>true
 |x::xs=>okW x && okWs xs
end
mutual
theorem l9:∀d:D,okW d=true→eM d=true→(toP d).leavesShort 601=true
 |.non,_,_=>rfl
 |.bl _,_,_=>rfl
 |.dct _,_,_=>rfl
 |.exc _ _ _,h,_=>by simp[okW]at h
 |.fn _ _,h,_=>by simp[okW]at h
 | .int i,_,h=>by
  have:=(jG (.int i) h).1
  simpa only[toP,PyData.leavesShort,PyData.intsShort]using this
 |.str x,h,hs=>PyData.leavesShort_of_canLay0 601 (.str x) (by simpa only[okW,PyData.canLay0]using h) (jG (.str x) hs).1
 | .tup xs,h,hs=>by
  have:=ku xs (by simpa only[okW]using h) (by simpa only[eM]using hs)
  simpa only[toP,PyData.leavesShort]using this
 | .lst xs,h,hs=>by
  have:=ku xs (by simpa only[okW]using h) (by simpa only[eM]using hs)
  simpa only[toP,PyData.leavesShort]using this
theorem ku:∀ds:List D,okWs ds=true→iY ds=true→PyData.leavesShortAll 601 (toPs ds)=true
 |[],_,_=>rfl
 | d::ds,h,hs=>by
  simp only[okWs,Bool.and_eq_true]at h
  simp only[iY,Bool.and_eq_true]at hs
  simp only[toPs,PyData.leavesShortAll,l9 d h.1 hs.1,ku ds h.2 hs.2,Bool.and_self]
end
structure StrW (d:D):Prop where
 ok:okW d=true
 sh:eM d=true
 dp:(toP d).depth≤40
 sg:sgnD d≤16777216
 ni:∀i,d≠.int i
theorem StrW.len{d:D}(h:StrW d):(toP d).shown.length≤sizeLine:=by
 have e:sizeLine=16777216:=by decide
 rw[e]
 exact Nat.le_trans (uc d (l9 d h.ok h.sh)) h.sg
end L2
namespace L2
open PySem PySem.Spec PyProof.Rows
section
def DQ(o:Option L)(i k:Nat)(ρ:Ev)(post:L→Ev→Prop):Prop:=match o with
 |some (.bx none ls)=>∃l,ls[k]?=some l∧post l (ρ.set i (.bx none (ls.set k .un)))
 |some (.d (.tup ds))=>∃d,ds[k]?=some d∧post (.d d) ρ
 |_=>False
theorem zy(ls:List L)(i k:Nat)(ρ:Ev)(post:L→Ev→Prop):DQ (some (.bx none ls)) i k ρ post=∃l,ls[k]?=some l∧post l (ρ.set i (.bx none (ls.set k .un))):=(rfl)
theorem B5(ds:List D)(i k:Nat)(ρ:Ev)(post:L→Ev→Prop):DQ (some (.d (.tup ds))) i k ρ post=∃d,ds[k]?=some d∧post (.d d) ρ:=(rfl)
end
section
def EW(r:L)(ρ:Ev)(post:L→Ev→Prop):Prop:=match r with
 |.bx (some _) ls=>post (.bx none ls) ρ
 |_=>False
theorem zz(a:Addr)(ls:List L)(ρ:Ev)(post:L→Ev→Prop):EW (.bx (some a) ls) ρ post=post (.bx none ls) ρ:=(rfl)
end
end L2
namespace L2
open PySem PySem.Spec PyProof.Rows PySem.W
theorem Un.one{P:Program}{w:World}{fs:List Addr}{H H':Hp}{h h':Heap}{c:Addr}{oc:Obj}(hc:H c=none)(gc:h.get? c=some oc)(cc:∀q,¬pH oc q)(u:Un fs [] (upd H c (.frz oc (.own c))) H' h h')(ok:HOk P w H' h') :
  Un fs [] H (del H' c) h h'∧HOk P w (del H' c) h':=by
 have zc:H' c=some (.frz oc (.own c)):=u.frzs c oc _ a7
 have gc':h'.get? c=some oc:=(ok c _ zc).1
 have nz:∀b o,H' b=some o→o≠.frz oc (.own c)→b≠c:=fun b o e n z=>by subst z;rw[zc]at e;cases e;exact n rfl
 refine⟨⟨fun b o e n hb hx=>?_,fun b o e n hb hx=>?_,fun b o e n hx=>?_,fun b o e hx=>u.there b o e hx,fun b xs e=>?_,fun b o v e=>?_,fun b t e=>?_⟩,fun b o e=>?_⟩
 ·
  by_cases z:b=c
  ·
   subst z;rw[gc]at e;cases e;exact gc'
  ·
   exact u.keep b o e (by rw[ay z];exact n) hb hx
 ·
  by_cases z:b=c
  ·
   subst z;rw[gc]at e;cases e;exact⟨oc.slots,gc'⟩
  ·
   exact u.slot b o e (by rw[ay z];exact n) hb hx
 ·
  by_cases z:b=c
  ·
   subst z;exact jH
  ·
   rw[cy z];exact u.free b o e (by rw[ay z];exact n) hx
 ·
  have z:=aR e hc
  rw[cy z];exact u.tups b xs (by rw[ay z];exact e)
 ·
  have z:=aR e hc
  rw[cy z];exact u.frzs b o v (by rw[ay z];exact e)
 ·
  have z:=aR e hc
  rw[cy z];exact u.tbls b t (by rw[ay z];exact e)
 ·
  have hb:b≠c:=fun z=>by subst z;rw[jH]at e;cases e
  rw[cy hb]at e
  refine(ok b o e).stay (fun _ _ _ z=>z) (fun d z=>?_) (fun d xs z=>?_) fun d od q co z=>?_
  ·
   rw[cy (nz d _ z fun y=>nomatch y)];exact z
  ·
   rw[cy (nz d _ z fun y=>nomatch y)];exact z
  ·
   rw[cy (nz d _ z fun y=>by cases y;exact cc q co)];exact z
end L2
namespace L2
open PySem PySem.W
end L2
namespace L2
open PySem PySem.Spec PyProof.Rows PySem.SeqAt
structure RepW (d:D):Prop where
 ok:okW d=true
 sh:eM d=true
 dp:(toP d).depth≤40
 sg:sgnD d≤16777216
theorem RepW.len{d:D}(h:RepW d):(toP d).shown.length≤sizeLine:=by
 have e:sizeLine=16777216:=by decide
 rw[e]
 exact Nat.le_trans (uc d (l9 d h.ok h.sh)) h.sg
end L2
namespace L2
open PySem PySem.Spec PyProof.Rows
theorem vh{X:Cx}{pins:List (Addr×Obj)}{σ0:St}{s s1:Shared}{Pr H H1 H':Hp}{σ τ:St}{ρ ρ1 lam:Ev}{i:Nat}{k:L}{x:D}(I:Inv X pins σ0 H s)(E:REnv X.K Pr H σ ρ)(hi:ρ[i]?=some k)(hSa:∀a∈aE k,∃vs,H a=some (.lst vs))(F:jv H H1 (aE k))
  (hl1:ρ1.length=ρ.length) (how:owns ρ1=owns (ρ.set i (.d x))) (hxi:ρ1[i]?=some (.d x)) (hsl:∀(j:Nat)(l:L),j≠i→ρ1[j]?=some l→noLr l=true∨∃y,l=.d y∧ρ[j]?=some (.d y))
  (I':Inv X pins σ0 H' s1) (E1:REnv X.K Pr H1 σ (ρ.set i (.d x))) (E':REnv X.K (aS H1 (ρ.set i (.d x))) H' (τ++σ) (lam++ρ1)) (hlen:τ.length=lam.length) (hr:lam.all noLr=true):∃H2,Inv X pins σ0 H2 s1∧REnv X.K Pr H2 (τ++σ) (lam++ρ1.set i k):=by
 have hil:i<ρ.length:=(List.getElem?_eq_some_iff.mp hi).1
 have hil1:i<ρ1.length:=by omega
 have prm:=cA hi (l:=.d x) rfl
 have hnd:(aE k++owns (ρ.set i (.d x))).Nodup:=prm.nodup_iff.mp E.nd
 obtain⟨nd1,nd2,nd3⟩:=List.nodup_append.mp hnd
 have hna:∀a∈aE k,a∉owns (ρ.set i (.d x)):=fun a ha z=>nd3 a ha a z rfl
 have hb:∀b u,H1 b=some u→b∉owns (ρ.set i (.d x))→H' b=some u:=fun b u e hno=>by
  refine E'.sub b u ?_
  unfold aS
  rw[if_neg hno]
  exact e
 have hS:∀a∈aE k,∃o vs,H' a=some (.frz o (.lst vs)):=fun a ha=>by
  obtain⟨vs,e⟩:=hSa a ha
  obtain⟨o,eo⟩:=F.2.2 a ha vs e
  exact⟨o,vs,hb a _ eo (hna a ha)⟩
 obtain⟨H2,I2,T⟩:=rO (aE k) nd1 I' hS fun a ha o u e=>by
  have z:=I.base.frzs a o u e
  obtain⟨vs,q⟩:=hSa a ha
  rw[q]at z;cases z
 have back:∀a∈aE k,H2 a=H a:=fun a ha=>by
  obtain⟨vs,e⟩:=hSa a ha
  obtain⟨o,eo⟩:=F.2.2 a ha vs e
  obtain⟨o',vs',e1,e2⟩:=T.2 a ha
  rw[hb a _ eo (hna a ha)]at e1
  cases e1
  rw[e2,e]
 have P:Pres H H2:=fun b u hp e=>by
  have hno:b∉owns ρ:=fun z=>by
   obtain⟨ws,hz,mu⟩:=E.at_own z
   rw[hz]at e;cases e;exact mu.no hp
  have hnk:b∉aE k:=fun z=>hno (prm.mem_iff.mpr (List.mem_append_left _ z))
  rw[T.1 b hnk]
  exact hb b u (F.1 b u hp e) fun z=>hno (prm.mem_iff.mpr (List.mem_append_right _ z))
 obtain⟨sl1,sl2⟩:=Paired.unapp hlen E'.sl
 have ndE:=E'.nd
 rw[ar,how]at ndE
 obtain⟨ne1,ne2,ne3⟩:=List.nodup_append.mp ndE
 have lamS:∀a∈owns lam,a∉aE k∧Pr a=none∧a∉owns (ρ.set i (.d x)):=fun a ha=>by
  obtain⟨vs,e,mu⟩:=E'.at_own (a:=a) (by rw[ar];exact List.mem_append_left _ ha)
  have h1:a∉aE k:=fun z=>by
   obtain⟨o,us,e1,_⟩:=T.2 _ z
   rw[e1]at e
   cases e
   exact mu
  have h3:a∉owns (ρ.set i (.d x)):=fun z=>ne3 a ha a z rfl
  refine⟨h1,?_,h3⟩
  have hoff:=E'.off a (by rw[ar];exact List.mem_append_left _ ha)
  unfold aS at hoff
  rw[if_neg h3]at hoff
  cases ep:Pr a with
  |none=>rfl
  |some w=>rw[E1.sub a w ep]at hoff;cases hoff
 have slt:Paired (aJ X.K H2) σ (ρ1.set i .un):=by
  have q:Paired (aJ X.K H') σ (ρ1.set i .un):=Paired.set_r (b:=L.un) i sl2 fun _ _=>by unfold aJ;exact True.intro
  refine kq T P (ρ0:=ρ) (by simpa using hl1) (fun j l e=>?_) E.sl q
  by_cases hj:j=i
  ·
   subst hj
   rw[List.getElem?_set_self hil1]at e
   cases e
   exact .inl l6
  ·
   rw[List.getElem?_set_ne (Ne.symm hj)]at e
   exact hsl j l hj e
 have slr:Paired (aJ X.K H2) τ lam:=Paired.impMem sl1 fun l hl s q=>q.thaw T l (List.all_eq_true.mp hr l hl)
 have pr1:(owns (ρ1.set i k)).Perm (aE k++owns ρ1):=by
  have hk1:(ρ1.set i k)[i]?=some k:=List.getElem?_set_self hil1
  have:=cA hk1 (l:=.d x) rfl
  rw[List.set_set]at this
  have e2:ρ1.set i (.d x)=ρ1:=by
   refine List.ext_getElem? fun j=>?_
   by_cases hj:j=i
   ·
    subst hj;rw[List.getElem?_set_self hil1,hxi]
   ·
    rw[List.getElem?_set_ne (Ne.symm hj)]
  rwa [e2]at this
 have pr2:(owns (ρ1.set i k)).Perm (owns ρ):=by
  rw[how]at pr1
  exact pr1.trans prm.symm
 refine⟨H2,I2,fun b u e=>?_,?_,fun b hbm=>?_,Paired.app slr ?_⟩
 ·
  have hno:b∉owns ρ:=fun z=>by have:=E.off b z;rw[e]at this;cases this
  have hnk:b∉aE k:=fun z=>hno (prm.mem_iff.mpr (List.mem_append_left _ z))
  rw[T.1 b hnk]
  refine hb b u ?_ fun z=>hno (prm.mem_iff.mpr (List.mem_append_right _ z))
  rw[F.2.1 b hnk]
  exact E.sub b u e
 ·
  rw[ar,List.nodup_append]
  refine⟨ne1,pr2.nodup_iff.mpr E.nd,fun c hc d hd z=>?_⟩
  subst z
  obtain⟨h1,h2,h3⟩:=lamS c hc
  rcases List.mem_append.mp (prm.mem_iff.mp (pr2.mem_iff.mp hd))with z|z
  ·
   exact h1 z
  ·
   exact h3 z
 ·
  rw[ar]at hbm
  rcases List.mem_append.mp hbm with z|z
  ·
   exact(lamS b z).2.1
  ·
   exact E.off b (pr2.mem_iff.mp z)
 ·
  obtain⟨sv,hs,q⟩:=E.slot hi
  have:=Paired.set_r (b:=k) i slt fun s es=>by
   rw[hs]at es
   cases es
   exact q.pres P k back
  rwa [List.set_set]at this
def pkS(o q:Option L)(i j:Nat)(t:W L)(ρ:Ev)(post:L→Ev→Prop):Prop:=match o,q with
 |some (.own _ xs),some (.own b _)=>i≠j∧cn i ρ=true∧t (ρ.set i (.d (.lst xs))) fun r ρ'=>noLr r=true∧∃zs,noLs zs=true∧ρ'=(ρ.set i (.d (.lst xs))).set j (.own b zs)∧post r (ρ.set j (.own b zs))
 |_,_=>False
theorem B6(a b:Addr)(xs ys:List D)(i j:Nat)(t:W L)(ρ:Ev)(post:L→Ev→Prop):pkS (some (.own a xs)) (some (.own b ys)) i j t ρ post=(i≠j∧cn i ρ=true∧t (ρ.set i (.d (.lst xs))) fun r ρ'=>noLr r=true∧∃zs,noLs zs=true∧ρ'=(ρ.set i (.d (.lst xs))).set j (.own b zs)∧post r (ρ.set j (.own b zs))):=(rfl)
def ud(i j:Nat)(t:W L):W L:=fun ρ post=>pkS ρ[i]? ρ[j]? i j t ρ post
theorem zA{X:Cx}{e:Expr}(i j:Nat){t:W L}(h:PL X e t):PL X e (ud i j t):=by
 intro pins s σ H Pr ρ post I E hw
 unfold ud pkS at hw
 split at hw
 rotate_left
 ·
  exact hw.elim
 rename_i a xs b ys hi hj
 obtain⟨hij,hfl,hw⟩:=hw
 have hil:i<ρ.length:=(List.getElem?_eq_some_iff.mp hi).1
 have hjl:j<ρ.length:=(List.getElem?_eq_some_iff.mp hj).1
 obtain⟨H1,I1,E1,F,Sa⟩:=rP I E hi (x:=.lst xs) rfl
 refine thn (h pins s σ _ _ _ _ I1 E1.wide hw) fun u s1 ⟨v,H',r,ρ',I',rv,E',hr,zs,hz,eρ,hp⟩=>?_
 subst eρ
 have c1:owns ((ρ.set i (.d (.lst xs))).set j (.own b zs))=owns (ρ.set i (.d (.lst xs))):=kW (xs:=ys) (by rw[List.getElem?_set_ne hij];exact hj)
 have c2:((ρ.set i (.d (.lst xs))).set j (.own b zs))[i]?=some (.d (.lst xs)):=by rw[List.getElem?_set_ne (Ne.symm hij),List.getElem?_set_self hil]
 have c3:∀(m:Nat)(l:L),m≠i→((ρ.set i (.d (.lst xs))).set j (.own b zs))[m]?=some l→noLr l=true∨∃y,l=.d y∧ρ[m]?=some (.d y):=by
  intro m l hm e
  by_cases hmj:m=j
  ·
   subst hmj
   rw[List.getElem?_set_self (by simpa using hjl)]at e
   cases e
   exact .inl (by simpa[noLr]using hz)
  ·
   rw[List.getElem?_set_ne (Ne.symm hmj),List.getElem?_set_ne (Ne.symm hm)]at e
   have h1:=List.all_eq_true.mp hfl l (List.mem_of_getElem? (i:=m) (by rw[List.getElem?_set_ne (Ne.symm hm)];exact e))
   cases l with
   |un=>exact .inl l6
   |d y=>exact .inr ⟨y,rfl,e⟩
   |own b ys=>exact .inl h1
   |bx b ls=>exact .inl h1
   |dic b ls=>exact .inl h1
 obtain⟨H2,I2,E2⟩:=vh (τ:=[some v]) (lam:=[r]) (ρ1:=(ρ.set i (.d (.lst xs))).set j (.own b zs)) I E hi Sa F (by simp) c1 c2 c3 I' E1 E' rfl (by simp[hr])
 have e2:((ρ.set i (.d (.lst xs))).set j (.own b zs)).set i (.own a xs)=ρ.set j (.own b zs):=by
  refine List.ext_getElem? fun m=>?_
  by_cases hm:m=i
  ·
   subst hm
   rw[List.getElem?_set_self (by simpa using hil),List.getElem?_set_ne (Ne.symm hij),hi]
  ·
   rw[List.getElem?_set_ne (Ne.symm hm)]
   by_cases hmj:m=j
   ·
    subst hmj
    rw[List.getElem?_set_self (by simpa using hjl),List.getElem?_set_self hjl]
   ·
    rw[List.getElem?_set_ne (Ne.symm hmj),List.getElem?_set_ne (Ne.symm hm),List.getElem?_set_ne (Ne.symm hmj)]
 rw[e2]at E2
 exact⟨v,H2,r,_,I2,rv,E2,hp⟩
def trdW(o:Option L)(ρ:Ev)(post:Bool→Ev→Prop):Prop:=match o with
 |some (.d (.lst xs))=>post (!xs.isEmpty) ρ
 |_=>False
theorem zB(xs:List D)(ρ:Ev)(post:Bool→Ev→Prop):trdW (some (.d (.lst xs))) ρ post=post (!xs.isEmpty) ρ:=(rfl)
end L2
namespace HT
open PySem PySem.Spec PyProof.Rows
end HT
namespace L2
open PySem PySem.Spec PyProof.Rows
end L2
namespace L2
open PySem PySem.Spec PyProof.Rows PySem.W
def oI(ns:List Int):Nat:=(firstMet (fun i=>ns.getD i 0) ns.length).length
def rX(t:W L):W L:=fun ρ post=>t ρ fun r ρ1=>toD r fun d=>∃ns:List Int,d=.lst (ns.map .int)∧ns.length≤100∧post (.d (.int (oI ns:Int))) ρ1
section
variable{X:Cx}{a:Expr}{p p0 pos pos0:Pos}{t:W L}
theorem nK{K:PySem.W.Frag}{H:Hp}:∀{ns:List Int}{vs:List V},Reps K H vs (ns.map D.int)→vs=ns.map V.int
 |[],_,r=>by cases r;rfl
 | n::ns,_,r=>by
  cases r with
  | cons h t =>
   cases h
   rw[nK t]
   rfl
theorem k6:∀{ns:List Int}{us:List Value},Vals (ns.map V.int) us→IntsAre us ns
 |[],_,.nil=>.nil
 | n::ns,_,.cons r t=>by
  obtain⟨k,rfl⟩:=r
  exact .cons n k (k6 t)
theorem xa (hgl : Gl X "len") (hml : X.mg "len" = none) (hg : Gl X "set") (hm : X.mg "set" = none) (hc : X.calm = true) (ha : PL X a t) (hs : starEach [a] X.env = [(false, eval a X.env)] := by rfl)
    (hs0 : starEach [.Call (.Name "set" p) [a] [] pos] X.env = [(false, eval (.Call (.Name "set" p) [a] [] pos) X.env)] := by rfl) : PL X (.Call (.Name "len" p0) [.Call (.Name "set" p) [a] [] pos] [] pos0) (rX t) := by
  intro pins s σ H Pr ρ post I E h
  refine wpAny_Call_Name_kw (ij I hgl hml PySem.boot_len (PyProof.Rows.callWith_builtin1 ?_ (by rw[hs0];rfl) rfl))
  rw[hs0]
  show wpAny _ _ (spliced ((false, eval (.Call (.Name "set" p) [a] [] pos) X.env) :: [])) _ _ s
  refine Calls.spliced_cons (Call_ (ij I hg hm (show bootBuiltins "set" = some (.type "set") by decide +kernel) (PyProof.Rows.callWith_type1 (thn (cb (au ha).pe ik hs pos pins s σ H (fun vs H1 => ∃(ρ1 : Ev)(l : Addr)(ns : List Int), vs = [V.ref l] ∧ SqL X.K H1 l (ns.map V.int) ∧ ns.length ≤ 100 ∧ REnv X.K Pr H1 σ ρ1 ∧ post (.d (.int (oI ns : Int))) ρ1) I ⟨Pr, ρ, fun r ρ1 => match r with
    |.d d => ∃ns : List Int, d = .lst (ns.map .int) ∧ ns.length ≤ 100 ∧ post (.d (.int (oI ns : Int))) ρ1
    |_ => False, E, h, fun v H' r ρ' E' p => ?_⟩) fun us s1 ⟨vs, H1, I1, r1, q1⟩ => ?_) hs rfl)))
  · cases r with
    | d d =>
      obtain⟨ns, rfl, hn, p⟩ := p
      obtain⟨_, e1, p1⟩ := E'.head_d
      cases e1
      cases p1 with
      | lst hz rs =>
        have := nK rs
        subst this
        exact⟨ρ', _, ns, rfl, hz.l, hn, E'.tail, p⟩
    |_ => exact p.elim
  · obtain⟨ρ1, l, ns, e, hz, hn, E1, q⟩ := q1
    subst e
    obtain⟨u, rfl, ru⟩ := r1.one
    cases ru
    obtain⟨its, r, pl, _⟩ := I1.list hz
    have hlen : its.length = ns.length := by have := r.length;simpa using this.symm
    refine call_set_list (I1.ok.hd hc) pl.isList (by simpa using k6 r) (by rw[List.size_toArray, hlen];exact Nat.lt_of_le_of_lt (Nat.succ_le_succ hn) (by decide)) fun h' tk hS hk => Calls.spliced_nil ?_
    obtain⟨o, es, ep, tb, ho, hex, hd, _, _, hb, hf, hsz⟩ := hS
    have ez : es.size = oI ns := by
      rw[hsz]
      unfold oI
      rw[List.size_toArray, hlen]
    have hle : oI ns ≤ 100 := Nat.le_trans (firstMet_length_le _ _) hn
    refine call_len_set ho hex hd hf (by omega) ?_
    have I2 : Inv X pins σ H1 {s1 with heap := h', toks := tk+1+1} := I1.kept (h' := h') (t' := tk+1+1) fun b ob e => hk b ob (Heap.lt_size e) e
    rw[ez]
    exact⟨.int _, H1, _, ρ1, I2, ⟨_, rfl⟩, E1.cons_d (.int _), q⟩
end
end L2
namespace L2
open PySem PySem.Spec PyProof.Rows PySem.SeqAt
end L2
namespace L2
open PySem
theorem eW{g:Tg}{b:W Fl}{post:Fl→Ev→Prop}:∀(xs:List D)(I:Nat→Ev→Prop)(ρ:Ev),I 0 ρ →
  (∀j x ρ,xs[j]?=some x→I j ρ→∀Q:Fl→Ev→Prop,(∀ρ',I (j+1) ρ'→Q .nx ρ')→(∀ρ',I (j+1) ρ'→Q .ct ρ')→(∀ρ',post .nx ρ'→Q .bk ρ')→(∀r ρ',post (.rt r) ρ'→Q (.rt r) ρ')→g x ρ fun ρ1=>b ρ1 Q) →
  (∀ρ,I xs.length ρ→post .nx ρ)→d6 g b xs ρ post
 |[],I,ρ,h0,_,fin=>fin ρ h0
 | x::xs,I,ρ,h0,step,fin=>by
  unfold d6
  refine step 0 x ρ rfl h0 _ (fun ρ' h=>?_) (fun ρ' h=>?_) (fun ρ' h=>h) (fun r ρ' h=>h)
  ·
   exact eW xs (fun j=>I (j+1)) ρ' h (fun j y ρ e hi=>step (j+1) y ρ e hi) fin
  ·
   exact eW xs (fun j=>I (j+1)) ρ' h (fun j y ρ e hi=>step (j+1) y ρ e hi) fin
theorem ue{α:Type}{enc:α→D}{g:Tg}{b:W Fl}{post:Fl→Ev→Prop}(as:List α)(I:List α→Ev→Prop)(ρ:Ev)(h0:I [] ρ)
  (step:∀pre a suf ρ,as=pre++a::suf→I pre ρ→∀Q:Fl→Ev→Prop,(∀ρ',I (pre++[a]) ρ'→Q .nx ρ')→(∀ρ',I (pre++[a]) ρ'→Q .ct ρ')→(∀ρ',post .nx ρ'→Q .bk ρ')→(∀r ρ',post (.rt r) ρ'→Q (.rt r) ρ')→g (enc a) ρ fun ρ1=>b ρ1 Q)
  (fin:∀ρ,I as ρ→post .nx ρ):d6 g b (as.map enc) ρ post:=by
 refine eW _ (fun j ρ=>I (as.take j) ρ) ρ h0 (fun j x ρ e hi Q h1 h2 h3 h4=>?_) fun ρ h=>fin ρ (by simpa using h)
 rw[List.getElem?_map]at e
 cases ea:as[j]? with
 |none=>rw[ea]at e;cases e
 | some a =>
  rw[ea]at e
  cases e
  obtain⟨hj,ea'⟩:=List.getElem?_eq_some_iff.mp ea
  have es:as.take (j+1)=as.take j++[a]:=by rw[List.take_succ,ea];rfl
  have ed:as=as.take j++a::as.drop (j+1):=by
   have:=(List.take_append_drop j as).symm
   rw[List.drop_eq_getElem_cons hj,ea']at this
   exact this
  rw[es]at h1 h2
  exact step _ a _ ρ ed hi Q h1 h2 h3 h4
theorem uf{g:Tg}{ti:W Bool}{te:W L}{k:List D→Ev→Prop}:∀(xs:List D)(I:Nat→Ev→List D→Prop)(ρ:Ev)(acc:List D),I 0 ρ acc →
  (∀j x ρ acc,xs[j]?=some x→I j ρ acc→∀Q:Ev→List D→Prop,(∀ρ' acc',I (j+1) ρ' acc'→Q ρ' acc')→g x ρ fun ρ1=>ti ρ1 fun b ρ2=>if b=true then te ρ2 fun r ρ3=>toD r fun y=>Q ρ3 (acc++[y])else Q ρ2 acc) →
  (∀ρ acc,I xs.length ρ acc→k acc ρ)→eL g ti te xs ρ acc k
 |[],I,ρ,acc,h0,_,fin=>fin ρ acc h0
 | x::xs,I,ρ,acc,h0,step,fin=>by
  unfold eL
  exact step 0 x ρ acc rfl h0 (fun ρ acc=>eL g ti te xs ρ acc k) fun ρ' acc' h=>uf xs (fun j=>I (j+1)) ρ' acc' h (fun j y ρ acc e hi=>step (j+1) y ρ acc e hi) fin
theorem ma{α:Type}{enc:α→D}{h:α→Option D}{caps:Ev}{ti:W Bool}{te:W L}{k:List D→Ev→Prop}:∀(as:List α)(acc:List D)(l:L),
  (∀a∈as,∀Q:Ev→Option D→Prop,Q (.d (enc a)::caps) (h a)→ti (.d (enc a)::caps) fun b ρ2=>if b=true then te ρ2 fun r ρ3=>toD r fun y=>Q ρ3 (some y)else Q ρ2 none) →
  (∀l',k (acc++as.filterMap h) (l'::caps))→eL (bQ 0) ti te (as.map enc) (l::caps) acc k
 |[],acc,l,_,fin=>by have:=fin l;simpa[eL]using this
 | a::as,acc,l,step,fin=>by
  show eL (bQ 0) ti te (enc a::as.map enc) (l::caps) acc k
  unfold eL
  show ti (.d (enc a)::caps) _
  refine step a List.mem_cons_self (fun ρ o=>match o with|some y=>eL (bQ 0) ti te (as.map enc) ρ (acc++[y]) k|none=>eL (bQ 0) ti te (as.map enc) ρ acc k) ?_
  cases e:h a with
  |none=>exact ma as acc _ (fun b hb=>step b (List.mem_cons_of_mem _ hb)) (by simpa[List.filterMap_cons,e]using fin)
  |some y=>exact ma as (acc++[y]) _ (fun b hb=>step b (List.mem_cons_of_mem _ hb)) (by simpa[List.filterMap_cons,e]using fin)
theorem lH{α:Type}{enc:α→D}{h:α→D}{caps:Ev}{te:W L}{k:List D→Ev→Prop}(as:List α)(acc:List D)(l:L)
  (step:∀a∈as,∀Q:Ev→D→Prop,Q (.d (enc a)::caps) (h a)→te (.d (enc a)::caps) fun r ρ3=>toD r fun y=>Q ρ3 y)
  (fin:∀l',k (acc++as.map h) (l'::caps)):eL (bQ 0) ou te (as.map enc) (l::caps) acc k:=by
 refine ma (h:=fun a=>some (h a)) as acc l (fun a ha Q q=>?_) (by simpa using fin)
 simp only[ou,if_true]
 exact step a ha (fun ρ y=>Q ρ (some y)) q
theorem oJ{α:Type}{x:α}{xs:List α}:atI (x::xs) 0=some x:=eQ (j:=0) rfl
theorem mU{α:Type}{x y:α}{xs:List α}:atI (x::y::xs) 1=some y:=eQ (j:=1) rfl
theorem zC{α:Type}{x y z:α}{xs:List α}:atI (x::y::z::xs) 2=some z:=eQ (j:=2) rfl
theorem DS{α:Type}{x y z w:α}{xs:List α}:atI (x::y::z::w::xs) 3=some w:=eQ (j:=3) rfl
theorem EX{α:Type}{x y z w v:α}{xs:List α}:atI (x::y::z::w::v::xs) 4=some v:=eQ (j:=4) rfl
theorem AM{α:Type}{xs:List α}{i:Int}{x:α}(h0:0≤i)(h:xs[i.toNat]?=some x):atI xs i=some x:=by
 have:=eQ h
 rwa [Int.toNat_of_nonneg h0]at this
theorem bJ{α:Type}{f:α→D}{xs:List α}{k:Nat}(h:k<xs.length):atI (xs.map f) (k:Int)=some (f xs[k]):=eQ (by rw[List.getElem?_map,List.getElem?_eq_getElem h];rfl)
theorem ix30:ixN 3 0=some 0:=by decide
theorem ix31:ixN 3 1=some 1:=by decide
theorem ix32:ixN 3 2=some 2:=by decide
theorem xb{α:Type}{x y:α}(c:Prop)[Decidable c]:atI [x,y] (if c then 1 else 0)=some (if c then y else x):=by
 by_cases h:c
 ·
  simp only[if_pos h,mU]
 ·
  simp only[if_neg h,oJ]
theorem jJ(n:Nat):rngD 0 n=(List.range n).map fun (i:Nat)=>D.int (i:Int):=by
 unfold rngD
 simp
theorem ug{g:Tg}{b:W Fl}{post:Fl→Ev→Prop}(lo:Int)(n:Nat)(I:Nat→Ev→Prop)(ρ:Ev)(h0:I 0 ρ)
  (step:∀j ρ,j<n→I j ρ→∀Q:Fl→Ev→Prop,(∀ρ',I (j+1) ρ'→Q .nx ρ')→(∀ρ',I (j+1) ρ'→Q .ct ρ')→(∀ρ',post .nx ρ'→Q .bk ρ')→(∀r ρ',post (.rt r) ρ'→Q (.rt r) ρ')→g (.int (lo+(j:Int))) ρ fun ρ1=>b ρ1 Q)
  (fin:∀ρ,I n ρ→post .nx ρ):d6 g b (rngD lo n) ρ post:=by
 have hl:(rngD lo n).length=n:=by simp[rngD]
 refine eW _ I ρ h0 (fun j x ρ hj hi Q h1 h2 h3 h4=>?_) fun ρ h=>fin ρ (by rwa [hl]at h)
 have hj':j<n:=by rw[← hl];exact(List.getElem?_eq_some_iff.mp hj).1
 have e:x=.int (lo+(j:Int)):=by
  unfold rngD at hj
  rw[List.getElem?_map,List.getElem?_range hj']at hj
  exact(Option.some.inj hj).symm
 subst e
 exact step j ρ hj' hi Q h1 h2 h3 h4
theorem xc{g:Tg}{b:W Fl}{post:Fl→Ev→Prop}(n:Nat)(I:Nat→Ev→Prop)(ρ:Ev)(h0:I 0 ρ)
  (step:∀j ρ,j<n→I j ρ→∀Q:Fl→Ev→Prop,(∀ρ',I (j+1) ρ'→Q .nx ρ')→(∀ρ',I (j+1) ρ'→Q .ct ρ')→(∀ρ',post .nx ρ'→Q .bk ρ')→(∀r ρ',post (.rt r) ρ'→Q (.rt r) ρ')→g (.int (j:Int)) ρ fun ρ1=>b ρ1 Q)
  (fin:∀ρ,I n ρ→post .nx ρ):d6 g b (rngD 0 n) ρ post :=
 ug 0 n I ρ h0 (fun j ρ hj hi Q h1 h2 h3 h4=>by rw[Int.zero_add];exact step j ρ hj hi Q h1 h2 h3 h4) fin
theorem aO{i:Int}(h:i.natAbs<2^200):bU i:=Nat.lt_of_lt_of_le h (Nat.pow_le_pow_right (by decide) (by decide))
theorem zD{i:Int}{n:Nat}(h:i.natAbs<2^n)(hn:n≤1000000):bU i:=Nat.lt_of_lt_of_le h (Nat.pow_le_pow_right (by decide) hn)
theorem dR(x:Int){m:Int}(h:0<m):0≤x.fmod m∧x.fmod m<m:=by
 rw[Int.fmod_eq_emod_of_nonneg _ (by omega)]
 exact⟨Int.emod_nonneg _ (by omega),Int.emod_lt_of_pos _ h⟩
theorem rY{i:Int}{n:Nat}(h0:0≤i)(h:i<2^n)(hn:n≤1000000):bU i:=by
 have:i.natAbs<2^n:=by
  have e:((2^n:Nat):Int)=(2:Int)^n:=by simp
  omega
 exact Nat.lt_of_lt_of_le this (Nat.pow_le_pow_right (by decide) hn)
theorem EY:(10:Int)^60<2^200:=by decide
theorem qm{i:Int}(h0:0≤i)(h:i≤10^60):i.natAbs<2^9000:=by
 have:i.natAbs<2^200:=by
  have:=EY
  have e:((2^200:Nat):Int)=(2:Int)^200:=by decide
  omega
 exact Nat.lt_of_lt_of_le this (Nat.pow_le_pow_right (by decide) (by decide))
theorem RB.sub{m n:Nat}{p q:Rat}(hp:RB m p)(hq:RB n q):RB (m+n+1) (p-q):=by
 rw[Rat.sub_eq_add_neg]
 exact hp.add hq.neg
theorem RB.of_divInt{t b:Int}{n:Nat}(h:b≠0)(ht:t.natAbs<2^n)(hb:b.natAbs<2^n):RB n (Rat.divInt t b):=⟨Nat.lt_of_le_of_lt (AI h) ht,Nat.lt_of_le_of_lt (AH h) hb⟩
theorem rZ(p q:Rat):((p.den:Int)*(q.den:Int))≠0:=by
 have dp:=den_pos p
 have dq:=den_pos q
 exact Int.mul_ne_zero (by omega) (by omega)
theorem oK(p q:Rat):((p.den:Int)*(q.den:Int)).natAbs=p.den*q.den:=by rw[Int.natAbs_mul,Int.natAbs_natCast,Int.natAbs_natCast]
theorem r9(q:Rat):(q.den:Int)≠0:=by have:=den_pos q;omega
theorem DT(p:Rat){q:Rat}(h:q≠0):Rat.divInt (p.num*(q.den:Int)) ((p.den:Int)*q.num)=p / q:=by
 rw[Rat.div_def,← Rat.divInt_mul_divInt,Rat.num_divInt_den]
 congr 1
 conv=>rhs;rw[← Rat.num_divInt_den q,Rat.inv_divInt]
theorem RB.zero:RB 1 0:=⟨by decide,by decide⟩
theorem DU(p q:Rat):decide (p.num*(q.den:Int)<q.num*(p.den:Int))=decide (p<q):=by
 rw[decide_eq_decide,Rat.lt_iff]
structure Ask where
 nm:Str
 one:Nat
 other:Nat
 size:Rat
structure Ring where
 rooms:List Rat
 asks:List Ask
def Ring.n(R:Ring):Nat:=R.rooms.length
def askD(a:Ask):D:=.tup [.str a.nm,.int a.one,.int a.other,frD a.size]
def aM(R:Ring):D:=.tup [.lst (R.rooms.map frD),.lst (R.asks.map askD)]
theorem AN(q:Rat):(q.num:Rat)=q*(q.den:Rat):=by
 have h:=Rat.num_divInt_den q
 have hd:(q.den:Rat)≠0:=fun w=>by
  have:=Rat.natCast_pos.mpr q.den_pos
  rw[w]at this
  exact absurd this (by decide)
 rw[Rat.divInt_eq_div]at h
 have e:(((q.den:Nat):Int):Rat)=(q.den:Rat):=rfl
 rw[e]at h
 have e2:q*(q.den:Rat)=(q.num:Rat) / (q.den:Rat)*(q.den:Rat):=by rw[h]
 rw[e2,Rat.div_mul_cancel hd]
theorem xf{q:Rat}{V:Nat}(h0:0≤q)(hv:q<(V:Rat)):q.num.natAbs<V*q.den:=by
 have hd:(0:Rat)<(q.den:Rat):=Rat.natCast_pos.mpr q.den_pos
 have h1:q*(q.den:Rat)<(V:Rat)*(q.den:Rat):=Rat.mul_lt_mul_of_pos_right hv hd
 rw[← AN]at h1
 have h2:((q.num:Int):Rat)<(((V*q.den:Nat):Int):Rat):=by
  have e:(((V*q.den:Nat):Int):Rat)=(V:Rat)*(q.den:Rat):=by
   push_cast
   rfl
  rw[e];exact h1
 have h3:q.num<((V*q.den:Nat):Int):=Rat.intCast_lt_intCast.mp h2
 have h4:0≤q.num:=Rat.num_nonneg.mpr h0
 omega
theorem RB.of_val{q:Rat}{d v:Nat}(h0:0≤q)(hd:q.den<2^d)(hv:q<((2^v:Nat):Rat)):RB (v+d) q:=by
 refine⟨Nat.lt_of_lt_of_le (xf h0 hv) ?_,Nat.lt_of_lt_of_le hd (Nat.pow_le_pow_right (by decide) (by omega))⟩
 rw[Nat.pow_add]
 exact Nat.mul_le_mul_left _ (Nat.le_of_lt hd)
structure kx (n:Nat) (a:Ask):Prop where
 one:a.one<n
 other:a.other<n
 ne:a.one≠a.other
 size:0≤a.size
 lt:a.size<((2^300:Nat):Rat)
 nm:PyData.strOk a.nm=true
structure Ring.Ok (R:Ring):Prop where
 lo:2≤R.n
 hi:R.n≤12
 few:R.asks.length≤20
 room:∀q∈R.rooms,0<q∧RB 60 q
 ask:∀a∈R.asks,kx R.n a
 cd:∃D:Nat,0<D∧D<2^1240∧∀a∈R.asks,a.size.den∣D
theorem Ring.Ok.rb{R:Ring}(h:R.Ok){a:Ask}(ha:a∈R.asks):RB 1540 a.size:=by
 obtain⟨D,d0,d1,hd⟩:=h.cd
 exact RB.of_val (v:=300) (d:=1240) (h.ask a ha).size (Nat.lt_of_le_of_lt (Nat.le_of_dvd d0 (hd a ha)) d1) (h.ask a ha).lt
theorem uh{α:Type}{n:Nat}{f:α→D}:∀xs:List α,(∀x∈xs,okD n (f x)=true)→okDs n (xs.map f)=true
 |[],_=>rfl
 |x::xs,h=>by simp[okDs,h x List.mem_cons_self,uh xs fun y hy=>h y (List.mem_cons_of_mem _ hy)]
theorem DV(n:Nat)(q:Rat):okD (n+1) (frD q)=true:=by cases n<;>simp[frD,okD,okDs]
theorem ui:∀(as bs:List Rat),PyData.eqvAll (toPs (as.map frD)) (toPs (bs.map frD))=decide (as=bs)
 |[],[]=>by simp[oC]
 |[],b::bs=>by simp[toPs,PyData.eqvAll]
 |a::as,[]=>by simp[toPs,PyData.eqvAll]
 | a::as,b::bs=>by
  rw[List.map_cons,List.map_cons,gm,ui as bs,AK]
  simp
theorem xg(as bs:List Rat):eqD (.lst (as.map frD)) (.lst (bs.map frD))=decide (as=bs):=by rw[BH,ui]
theorem cU(qs:List Rat):cS (.lst (qs.map frD)):=jD (n:=2) (by simp only[okD];exact uh _ fun q _=>DV 0 q) (by decide)
def StOk(xs:List D):Prop:=∃(c sd:Int)(t:Bool),xs=[.int c,.int sd,.bl t]∧0≤sd∧sd<2147483647
theorem uj{t b g:Int}(h:b≠0)(e:g=bW t b):D.tup [.int (t.fdiv g),.int (b.fdiv g)]=frD (Rat.divInt t b):=by
 subst e
 rw[wM h,BF h]
 rfl
def denP(qs:List Rat):Nat:=(qs.map (·.den)).foldr (·*·) 1
def sumQ(qs:List Rat):Rat:=qs.foldl (·+·) 0
theorem xh(qs:List Rat):∀acc:Rat,qs.foldl (·+·) acc=acc+sumQ qs:=by
 unfold sumQ
 induction qs with
 |nil=>intro acc;simp[Rat.add_zero]
 |cons q qs ih=>intro acc;rw[List.foldl_cons,List.foldl_cons,ih,ih (0+q),Rat.zero_add,Rat.add_assoc]
theorem xi(q:Rat)(qs:List Rat):sumQ (q::qs)=q+sumQ qs:=by
 show(q::qs).foldl (·+·) 0=_
 rw[List.foldl_cons,xh,Rat.zero_add]
theorem zE{α β:Type}(f:α→β)(xs:List α)(l u:Option Int):cutD (xs.map f) l u=(cutD xs l u).map f:=by
 unfold cutD
 rw[List.length_map,← List.map_drop,← List.map_take]
theorem zF{xs:List D}{i:Int}{k:L→Prop}:opIx (.lst xs) (.int i) k=∃v,atI xs i=some v∧k (.d v):=rfl
theorem zG{xs:List D}{i:Int}{k:L→Prop}:opIx (.tup xs) (.int i) k=∃v,atI xs i=some v∧k (.d v):=rfl
theorem zH{z:Str}{i:Int}{k:L→Prop}:opIx (.str z) (.int i) k=(z.length≤sizeLine∧∃c,atI z.cps.toList i=some c∧k (.d (.str ⟨#[c]⟩))):=rfl
theorem zJ{R:Ring}{k:L→Prop}:opIx (aM R) (.int 0) k=k (.d (.lst (R.rooms.map frD))):=by
 show(∃v,atI _ _=some v∧_)=_
 simp only[oJ,Option.some.injEq,exists_eq_left']
theorem zK{R:Ring}{k:L→Prop}:opIx (aM R) (.int 1) k=k (.d (.lst (R.asks.map askD))):=by
 show(∃v,atI _ _=some v∧_)=_
 simp only[mU,Option.some.injEq,exists_eq_left']
theorem B7{a:Ask}{k:L→Prop}:opIx (askD a) (.int 0) k=k (.d (.str a.nm)):=by
 show(∃v,atI _ _=some v∧_)=_
 simp only[oJ,Option.some.injEq,exists_eq_left']
theorem B8{a:Ask}{k:L→Prop}:opIx (askD a) (.int 1) k=k (.d (.int a.one)):=by
 show(∃v,atI _ _=some v∧_)=_
 simp only[mU,Option.some.injEq,exists_eq_left']
theorem B9{a:Ask}{k:L→Prop}:opIx (askD a) (.int 2) k=k (.d (.int a.other)):=by
 show(∃v,atI _ _=some v∧_)=_
 simp only[zC,Option.some.injEq,exists_eq_left']
theorem Ca{a:Ask}{k:L→Prop}:opIx (askD a) (.int 3) k=k (.d (frD a.size)):=by
 show(∃v,atI _ _=some v∧_)=_
 simp only[DS,Option.some.injEq,exists_eq_left']
theorem DW{q:Rat}{k:L→Prop}:opIx (frD q) (.int 0) k=k (.d (.int q.num)):=by
 show(∃v,atI _ _=some v∧_)=_
 simp only[oJ,Option.some.injEq,exists_eq_left']
theorem DX{q:Rat}{k:L→Prop}:opIx (frD q) (.int 1) k=k (.d (.int (q.den:Int))):=by
 show(∃v,atI _ _=some v∧_)=_
 simp only[mU,Option.some.injEq,exists_eq_left']
theorem uk(q:Rat):noL (frD q)=true:=by simp[frD,noL,noLs]
theorem lI{α:Type}{f:α→D}:∀(xs:List α),(∀x∈xs,noL (f x)=true)→noLs (xs.map f)=true
 |[],_=>rfl
 |x::xs,h=>by simp[noLs,h x List.mem_cons_self,lI xs fun y hy=>h y (List.mem_cons_of_mem _ hy)]
theorem eX(qs:List Rat):noLs (qs.map frD)=true:=lI _ fun q _=>uk q
theorem xj{α:Type}(f:α→Int)(xs:List α):noLs (xs.map fun x=>D.int (f x))=true:=lI _ fun _ _=>rfl
theorem xk(R:Ring):R.rooms.length=R.n:=rfl
def wayS(w:Bool):Str:=if w then "on" else "back"
theorem um:cS (.str "on"):=jD (n:=0) (by decide +kernel) (by decide)
theorem nL:cS (.str "back"):=jD (n:=0) (by decide +kernel) (by decide)
theorem xl(w:Bool):cS (.str (wayS w)):=by
 cases w
 ·
  exact nL
 ·
  exact um
theorem DY(w:Bool):(wayS w="on")=(w=true):=by cases w <;> simp[wayS] <;> decide
theorem zL(w:Bool):(wayS w="back")=(w=false):=by cases w <;> simp[wayS] <;> decide
theorem qo{is:List Nat}{xs:List D}{ρ:Ev}{k:Ev→Prop}:jy is (.tup xs) ρ k=eT is xs ρ k:=rfl
theorem xm{is:List Nat}{a:Ask}{ρ:Ev}{k:Ev→Prop}:jy is (askD a) ρ k=eT is [.str a.nm,.int a.one,.int a.other,frD a.size] ρ k:=rfl
theorem zM{is:List Nat}{q:Rat}{ρ:Ev}{k:Ev→Prop}:jy is (frD q) ρ k=eT is [.int q.num,.int (q.den:Int)] ρ k:=rfl
theorem zN{α:Type}{xs:List α}{k:Nat}(h:k≤xs.length):cutD xs (some (k:Int)) none=xs.drop k:=by
 unfold cutD HT.sIx
 simp only[if_neg (show ¬((k:Int)<0) by omega),Int.toNat_natCast,Nat.min_eq_left h]
 rw[List.take_of_length_le]
 rw[List.length_drop]
 exact Nat.le_refl _
theorem se{xs:List D}{k:List D→Prop}:gj (.lst xs) k=k xs:=rfl
theorem sf{xs:List D}{k:List D→Prop}:gj (.tup xs) k=k xs:=rfl
theorem vi{q:Rat}{k:List D→Prop}:gj (frD q) k=k [.int q.num,.int (q.den:Int)]:=rfl
theorem xn{xs:List D}{k:L→Prop}:dN [.lst xs] k=k (.d (.int xs.length)):=rfl
theorem xq{xs:List D}{k:L→Prop}:dN [.tup xs] k=k (.d (.int xs.length)):=rfl
theorem xr{x:Str}{k:L→Prop}:dN [.str x] k=(x.length≤sizeLine∧k (.d (.int x.length))):=rfl
theorem zO{q:Rat}{k:L→Prop}:dN [frD q] k=k (.d (.int 2)):=rfl
theorem vj{R:Ring}{k:L→Prop}:dN [aM R] k=k (.d (.int 2)):=rfl
theorem xu{a:Ask}{k:L→Prop}:dN [askD a] k=k (.d (.int 4)):=rfl
theorem si(q:Rat):isTy "tuple" (frD q)=true:=rfl
theorem sj(q:Rat):isTy "list" (frD q)=false:=rfl
theorem sq(q:Rat):isTy "int" (frD q)=false:=rfl
theorem qp(q:Rat):isTy "bool" (frD q)=false:=rfl
theorem sr(q:Rat):isTy "str" (frD q)=false:=rfl
theorem oM(R:Ring):isTy "tuple" (aM R)=true:=rfl
def frL(n:Nat)(f:Nat→Rat):List D:=(List.range n).map fun (t:Nat)=>frD (f t)
theorem Cb(n:Nat)(f:Nat→Rat):(frL n f).length=n:=by simp[frL]
theorem Cc(n:Nat)(f:Nat→Rat):frL n f=((List.range n).map f).map frD:=by
 unfold frL
 rw[List.map_map]
 rfl
theorem zP(n:Nat)(f:Nat→Rat):noLs (frL n f)=true:=by rw[Cc];exact eX _
def cutP(c:Nat×Nat):D:=.tup [.int (c.1:Int),.int (c.2:Int)]
theorem Cd{c:Nat×Nat}{k:L→Prop}:opIx (cutP c) (.int 0) k=k (.d (.int c.1)):=by
 show(∃v,atI _ _=some v∧_)=_
 simp only[oJ,Option.some.injEq,exists_eq_left']
theorem Ce{c:Nat×Nat}{k:L→Prop}:opIx (cutP c) (.int 1) k=k (.d (.int c.2)):=by
 show(∃v,atI _ _=some v∧_)=_
 simp only[mU,Option.some.injEq,exists_eq_left']
theorem Cf(n:Nat)(c:Nat×Nat):okD (n+1) (cutP c)=true:=by cases n<;>simp[cutP,okD,okDs]
theorem xv(c:Nat×Nat):noL (cutP c)=true:=by simp[cutP,noL,noLs]
theorem xw(c:Nat×Nat):cS (cutP c):=jD (Cf 0 c) (by decide)
theorem Cg(c d:Nat×Nat):eqD (cutP c) (cutP d)=decide (c=d):=by
 unfold cutP
 rw[wQ,gm,gm,oC,lX,lX,Bool.and_true,← Bool.decide_and,decide_eq_decide]
 constructor
 ·
  rintro⟨h1,h2⟩
  exact Prod.ext (by omega) (by omega)
 ·
  rintro rfl;exact⟨rfl,rfl⟩
def gP(g:Rat×(Nat×Nat)):D:=.tup [frD g.1,cutP g.2]
theorem Fb{g:Rat×(Nat×Nat)}{k:L→Prop}:opIx (gP g) (.int 0) k=k (.d (frD g.1)):=by
 show(∃v,atI _ _=some v∧_)=_
 simp only[oJ,Option.some.injEq,exists_eq_left']
theorem Fc{g:Rat×(Nat×Nat)}{k:L→Prop}:opIx (gP g) (.int 1) k=k (.d (cutP g.2)):=by
 show(∃v,atI _ _=some v∧_)=_
 simp only[mU,Option.some.injEq,exists_eq_left']
theorem zQ(T:String):isTy T .non=(T == "NoneType"):=rfl
theorem Ci(T:String)(b:Bool):isTy T (.bl b)=(T == "bool" ||T == "int"):=rfl
theorem zR(T:String)(i:Int):isTy T (.int i)=(T == "int"):=rfl
theorem zS(T:String)(x:Str):isTy T (.str x)=(T == "str"):=rfl
theorem zT(T:String)(xs:List D):isTy T (.tup xs)=(T == "tuple"):=rfl
theorem zU(T:String)(xs:List D):isTy T (.lst xs)=(T == "list"):=rfl
theorem vk(g:Rat×(Nat×Nat)):isTy "tuple" (gP g)=true:=rfl
theorem qq(c:Nat×Nat):isTy "tuple" (cutP c)=true:=rfl
theorem qr(a:Ask):isTy "tuple" (askD a)=true:=rfl
theorem xx{c:Nat×Nat}{k:L→Prop}:dN [cutP c] k=k (.d (.int 2)):=rfl
theorem Cj{c:Rat×(Nat×Nat)}{k:L→Prop}:dN [gP c] k=k (.d (.int 2)):=rfl
theorem xy(cs:List (Nat×Nat)):noLs (cs.map cutP)=true:=lI _ fun c _=>xv c
end L2
namespace L2
open PySem PySem.Builtin.Str
theorem Ck{x y:Str}(h:x.cps.toList=y.cps.toList):x=y:=by
 cases x;cases y
 exact congrArg Str.mk (Array.toList_inj.mp h)
theorem zV{x:Str}{j:Int}(h0:0≤j)(h2:j≤x.length):(Txt.slice x none (some j)).cps.toList=x.cps.toList.take j.toNat:=by
 have:=eq_of_beq (PyProof.Rows.slice_closes_toL h0 h2)
 rw[this]
 simp
theorem vm{x:Str}{i:Int}(h0:0≤i)(h2:i≤x.length):(Txt.slice x (some i) none).cps.toList=x.cps.toList.drop i.toNat:=by
 rw[PyProof.Rows.slice_from_eq h0 h2 rfl]
 have e:x.cps.toList.length=x.length:=by simp[Str.length]
 rw[List.take_of_length_le]
 rw[List.length_drop,e]
 omega
theorem jK(x y:Str):(x++y).cps.toList=x.cps.toList++y.cps.toList:=by
 show(x.cps++y.cps).toList=_
 simp
theorem hG(x:Str):x.length=x.cps.toList.length:=by simp[Str.length]
def me(c:Nat):Prop:=97≤c∧c≤122
structure NmOk (z:Str):Prop where
 lo:1≤z.cps.toList.length
 hi:z.cps.toList.length≤8
 let_:∀c∈z.cps.toList,me c
theorem NmOk.ok{z:Str}(h:NmOk z):PyData.strOk z=true:=by
 unfold PyData.strOk
 rw[← Array.all_toList,List.all_eq_true]
 intro c hc
 have:=h.let_ c hc
 unfold me at this
 simp
 omega
def oN:Str:="abcdefghijklmnopqrstuvwxyz"
theorem qt:oN.cps.toList=(List.range 26).map (·+97):=by decide
theorem nM{i:Int}(h0:0≤i)(h1:i<26):atI oN.cps.toList i=some (i.toNat+97):=by
 refine AM h0 ?_
 rw[qt,List.getElem?_map,List.getElem?_range (by omega)]
 rfl
theorem nN:∀(zs:List Str),(Str.join "" zs).cps.toList=(zs.map fun z=>z.cps.toList).flatten
 |[]=>rfl
 |[x]=>by simp[Str.join]
 | x::y::r=>by
  have ih:=nN (y::r)
  show(x++("" : Str)++Str.join "" (y::r)).cps.toList=_
  rw[jK,jK,ih]
  show x.cps.toList++[]++_=_
  simp
theorem zW(zs:List Str):(Txt.join "" zs).cps.toList=(zs.map fun z=>z.cps.toList).flatten:=by
 rw[eq_of_beq (PyProof.Rows.join_closes (sep:="") (sep':="") (ys:=zs) rfl),nN]
theorem qu:∀cs:List Nat,(cs.map fun c=>[c]).flatten=cs
 |[]=>rfl
 |c::cs=>by rw[List.map_cons,List.flatten_cons,qu cs];rfl
theorem ky(cs:List Nat):(Txt.join "" (cs.map fun c=>(⟨#[c]⟩:Str))).cps.toList=cs:=by
 rw[zW,List.map_map]
 exact qu cs
theorem uo:∀cs:List Nat,((cs.map fun c=>(⟨#[c]⟩:Str)).map (·.length)).sum=cs.length
 |[]=>rfl
 | c::cs=>by
  rw[List.map_cons,List.map_cons,List.sum_cons,uo cs,List.length_cons]
  show 1+_=_
  omega
def nameAt(b:Str)(p t k:Nat):Str:=⟨(b.cps.toList.take p++[(t+k) % 26+97]++b.cps.toList.drop (p+1)).toArray⟩
theorem xA{b:Str}{p t k:Nat}(h:NmOk b)(hp:p<b.cps.toList.length):NmOk (nameAt b p t k):=by
 have e:(nameAt b p t k).cps.toList=b.cps.toList.take p++[(t+k) % 26+97]++b.cps.toList.drop (p+1):=by simp[nameAt]
 have l:(b.cps.toList.take p++[(t+k) % 26+97]++b.cps.toList.drop (p+1)).length=b.cps.toList.length:=by
  rw[List.length_append,List.length_append,List.length_take,List.length_drop,List.length_singleton]
  omega
 refine⟨by rw[e,l];exact h.lo,by rw[e,l];exact h.hi,fun c hc=>?_⟩
 rw[e]at hc
 rcases List.mem_append.mp hc with hc|hc
 ·
  rcases List.mem_append.mp hc with hc|hc
  ·
   exact h.let_ c (List.mem_of_mem_take hc)
  ·
   rw[List.mem_singleton.mp hc]
   unfold me
   have:=Nat.mod_lt (t+k) (y:=26) (by decide)
   omega
 ·
  exact h.let_ c (List.mem_of_mem_drop hc)
theorem vn{b:Str}{p t j k:Nat}(hp:p<b.cps.toList.length)(hj:j<26)(hk:k<26)(h:nameAt b p t j=nameAt b p t k):j=k:=by
 have e:b.cps.toList.take p++[(t+j) % 26+97]++b.cps.toList.drop (p+1)=b.cps.toList.take p++[(t+k) % 26+97]++b.cps.toList.drop (p+1):=by
  have:=congrArg (fun z:Str=>z.cps.toList) h
  simpa[nameAt]using this
 rw[List.append_assoc,List.append_assoc]at e
 have e2:=List.append_cancel_left e
 have e3:=(List.cons.inj e2).1
 omega
theorem qv{α β:Type}{f:α→β}:∀{xs:List α},xs.Nodup→(∀x∈xs,∀y∈xs,f x=f y→x=y)→(xs.map f).Nodup
 |[],_,_=>List.nodup_nil
 | x::xs,hn,h=>by
  rw[List.map_cons,List.nodup_cons]
  obtain⟨h1,h2⟩:=List.nodup_cons.mp hn
  refine⟨fun hm=>?_,qv h2 fun a ha b hb=>h a (List.mem_cons_of_mem _ ha) b (List.mem_cons_of_mem _ hb)⟩
  obtain⟨y,hy,e⟩:=List.mem_map.mp hm
  have:=h y (List.mem_cons_of_mem _ hy) x List.mem_cons_self e
  rw[this]at hy
  exact h1 hy
theorem zX{q:Rat}(h:RB 60 q):q<((2^300:Nat):Rat):=by
 have h1:=AN q
 have hd:(1:Rat)≤(q.den:Rat):=by
  have:=q.den_pos
  exact_mod_cast this
 have h2:(q.num:Rat)<((2^300:Nat):Rat):=by
  have h3:q.num<((2^300:Nat):Int):=by
   have:=Nat.lt_of_lt_of_le h.1 (Nat.pow_le_pow_right (show 0<2 by decide) (show 60≤300 by decide))
   omega
  exact Rat.intCast_lt_intCast.mpr h3
 have hV:(0:Rat)<((2^300:Nat):Rat):=Rat.natCast_pos.mpr (Nat.pow_pos (by decide))
 generalize ((2^300:Nat):Rat)=V at *
 refine Rat.not_le.mp fun hq=>?_
 have h4:V*1≤q*(q.den:Rat):=Rat.le_trans (Rat.mul_le_mul_of_nonneg_left hd (Rat.le_of_lt hV)) (Rat.mul_le_mul_of_nonneg_right hq (by grind))
 rw[← h1]at h4
 grind
def denL:List Ask→Nat
 |[]=>1
 |a::as=>a.size.den*denL as
theorem oO:∀as,0<denL as
 |[]=>Nat.one_pos
 |a::as=>Nat.mul_pos a.size.den_pos (oO as)
theorem su:∀{as:List Ask},(∀a∈as,RB 60 a.size)→denL as≤2^(60*as.length)
 |[],_=>Nat.le_refl 1
 | a::as,h=>by
  have h1:=(h a List.mem_cons_self).2
  have h2:=su (as:=as) fun p hp=>h p (List.mem_cons_of_mem _ hp)
  show a.size.den*denL as≤2^(60*(as.length+1))
  rw[Nat.mul_add,Nat.mul_one,Nat.pow_add,Nat.mul_comm (2^_)]
  exact Nat.mul_le_mul (Nat.le_of_lt h1) h2
theorem lJ:∀{as:List Ask}{a:Ask},a∈as→a.size.den∣denL as
 | b::as,a,h=>by
  rcases List.mem_cons.mp h with rfl|h
  ·
   exact Nat.dvd_mul_right _ _
  ·
   exact Nat.dvd_trans (lJ h) (Nat.dvd_mul_left _ _)
theorem Fd{as:List Ask}(h:∀a∈as,RB 60 a.size)(hl:as.length≤20):∃D:Nat,0<D∧D<2^1240∧∀a∈as,a.size.den∣D:=by
 refine⟨denL as,oO as,Nat.lt_of_le_of_lt (su h) (Nat.pow_lt_pow_right (by decide) (by omega)),fun a ha=>lJ ha⟩
end L2
namespace L2
open PySem
def onL(n i j:Nat):List Nat:=(List.range ((j+n-i) % n)).map fun s=>(i+s) % n
def sx(n i j:Nat):List Nat:=(List.range ((i+n-j) % n)).map fun s=>(i+n-1-s) % n
def wayL(n:Nat)(a:Ask)(w:Bool):List Nat:=if w then onL n a.one a.other else sx n a.one a.other
theorem xB{n i j:Nat}(hi:i<n)(hj:j<n):(((j:Int)-i).fmod n)=(((j+n-i) % n:Nat):Int):=by
 rw[Int.fmod_eq_emod_of_nonneg _ (by omega)]
 have e:((j:Int)-i) % n=((j:Int)-i+n) % n:=(Int.add_emod_right _ _).symm
 rw[e]
 have:(j:Int)-i+n=((j+n-i:Nat):Int):=by omega
 rw[this]
 exact(Int.natCast_emod _ _).symm
theorem zY{n i s:Nat}:(((i:Int)+s).fmod n)=(((i+s) % n:Nat):Int):=by
 rw[Int.fmod_eq_emod_of_nonneg _ (by omega),Int.natCast_emod,Int.natCast_add]
theorem zZ{n i s:Nat}(hn:0<n)(hs:s<n):(((i:Int)-1-s).fmod n)=(((i+n-1-s) % n:Nat):Int):=by
 rw[Int.fmod_eq_emod_of_nonneg _ (by omega)]
 have e:((i:Int)-1-s) % n=((i:Int)-1-s+n) % n:=(Int.add_emod_right _ _).symm
 rw[e]
 have:(i:Int)-1-s+n=((i+n-1-s:Nat):Int):=by omega
 rw[this]
 exact(Int.natCast_emod _ _).symm
def far(n i j:Nat):Nat:=(j+n-i) % n
theorem mf{x n:Nat}(h:x<2*n):x % n=if x<n then x else x-n:=by
 by_cases hx:x<n
 ·
  rw[if_pos hx,Nat.mod_eq_of_lt hx]
 ·
  rw[if_neg hx,Nat.mod_eq_sub_mod (by omega),Nat.mod_eq_of_lt (by omega)]
theorem nO{n i j:Nat}(hi:i<n)(hj:j<n):far n i j=if i≤j then j-i else j+n-i:=by
 unfold far
 rw[mf (by omega)]
 split<;>split<;>omega
theorem DZ(n i j:Nat):(onL n i j).length=far n i j:=by simp[onL,far]
theorem z0(n i j:Nat):(sx n i j).length=far n j i:=by simp[sx,far]
theorem Cm{n:Nat}{a:Ask}(h:kx n a)(w:Bool):(wayL n a w).length<n:=by
 have h1:=h.one
 have h2:=h.other
 cases w
 ·
  show(sx n a.one a.other).length<n
  rw[z0];exact Nat.mod_lt _ (by omega)
 ·
  show(onL n a.one a.other).length<n
  rw[DZ];exact Nat.mod_lt _ (by omega)
theorem xC{n i j:Nat}(hn:0<n):far n i j<n:=Nat.mod_lt _ hn
theorem uq{n i s:Nat}(hi:i<n)(hs:s<n):far n i ((i+s) % n)=s:=by
 have h1:=Nat.mod_lt (i+s) (y:=n) (by omega)
 rw[nO hi h1,mf (by omega)]
 split<;>split<;>omega
theorem ur{n i t:Nat}(hi:i<n)(ht:t<n):(i+far n i t) % n=t:=by
 have h1:=xC (n:=n) (i:=i) (j:=t) (by omega)
 rw[mf (by omega),nO hi ht]
 split<;>split<;>omega
theorem Cn{n i j:Nat}(hi:i<n)(hj:j<n)(h:i≠j):far n i j+far n j i=n:=by
 rw[nO hi hj,nO hj hi]
 split<;>split<;>omega
theorem AO{n i j t:Nat}(hi:i<n):t∈onL n i j↔t<n∧far n i t<far n i j:=by
 constructor
 ·
  intro h
  obtain⟨s,hs,rfl⟩:=List.mem_map.mp h
  have hs:s<far n i j:=List.mem_range.mp hs
  have:=xC (n:=n) (i:=i) (j:=j) (by omega)
  exact⟨Nat.mod_lt _ (by omega),by rw[uq hi (by omega)];exact hs⟩
 ·
  rintro⟨ht,h⟩
  exact List.mem_map.mpr ⟨far n i t,List.mem_range.mpr h,ur hi ht⟩
theorem xD{n i s:Nat}(hi:i<n)(hs:s<n):(i+n-1-s) % n=(i+(n-1-s)) % n:=by
 congr 1
 omega
theorem uu{n i j t:Nat}(hi:i<n)(hj:j<n)(hij:i≠j):t∈sx n i j↔t<n∧¬far n i t<far n i j:=by
 have hsum:=Cn hi hj hij
 constructor
 ·
  intro h
  obtain⟨s,hs,rfl⟩:=List.mem_map.mp h
  have hs:s<far n j i:=List.mem_range.mp hs
  refine⟨Nat.mod_lt _ (by omega),?_⟩
  rw[xD hi (by omega),uq hi (by omega)]
  omega
 ·
  rintro⟨ht,h⟩
  have:=xC (n:=n) (i:=i) (j:=t) (by omega)
  refine List.mem_map.mpr ⟨n-1-far n i t,List.mem_range.mpr (show _<far n j i by omega),?_⟩
  rw[xD hi (by omega)]
  have e:n-1-(n-1-far n i t)=far n i t:=by omega
  rw[e,ur hi ht]
def isOn(n:Nat)(a:Ask)(t:Nat):Bool:=decide (far n a.one t<far n a.one a.other)
theorem xE{n:Nat}{a:Ask}(h:kx n a)(w:Bool){t:Nat}(ht:t<n):t∈wayL n a w↔(isOn n a t == w)=true:=by
 have h1:=h.one
 have h2:=h.other
 cases w
 ·
  show t∈sx n a.one a.other↔_
  rw[uu h1 h2 h.ne]
  simp[isOn,ht]
 ·
  show t∈onL n a.one a.other↔_
  rw[AO h1]
  simp[isOn,ht]
theorem uv(t:Nat):∀(T:List Nat),inF (.int (t:Int)) (T.map fun (s:Nat)=>D.int (s:Int))=decide (t∈T)
 |[]=>rfl
 | s::T=>by
  have ih:=uv t T
  unfold inF at ih ⊢
  rw[List.map_cons,List.any_cons,ih]
  show(eqF (.int (s:Int)) (.int (t:Int)) ||_)=_
  have e:eqF (.int (s:Int)) (.int (t:Int))=decide (t=s):=by
   show decide ((s:Int)=(t:Int))=_
   rw[decide_eq_decide];omega
  rw[e]
  simp[Bool.decide_or]
theorem RB.sum{b:Nat}:∀(qs:List Rat),(∀q∈qs,RB b q)→RB (1+(b+1)*qs.length) (sumQ qs)
 |[],_=>RB.mono (m:=1) ⟨by decide,by decide⟩ (by omega)
 | q::qs,h=>by
  have ih:=RB.sum qs fun z hz=>h z (List.mem_cons_of_mem _ hz)
  rw[xi]
  refine((h q List.mem_cons_self).add ih).mono ?_
  rw[List.length_cons,Nat.mul_succ]
  omega
theorem xF{b:Nat}:∀(qs:List Rat),(∀q∈qs,RB b q)→denP qs≤2^(b*qs.length)
 |[],_=>Nat.le_refl 1
 | q::qs,h=>by
  have ih:=xF qs fun z hz=>h z (List.mem_cons_of_mem _ hz)
  show q.den*denP qs≤_
  refine Nat.le_trans (Nat.mul_le_mul (Nat.le_of_lt (h q List.mem_cons_self).2) ih) ?_
  rw[← Nat.pow_add,List.length_cons,Nat.mul_succ]
  exact Nat.pow_le_pow_right (by decide) (by omega)
def sent(n:Nat)(a:Ask)(p:Rat)(t:Nat):Rat:=if isOn n a t then p else a.size-p
def z6(n:Nat)(as:List Ask)(ps:List Rat)(t:Nat):Rat:=sumQ ((as.zip ps).map fun x=>sent n x.1 x.2 t)
structure Co (R:Ring) (ps:List Rat) (c:Nat):Prop where
 len:ps.length=R.asks.length
 lo:∀x∈R.asks.zip ps,0≤x.2∧x.2≤x.1.size
 rb:∀p∈ps,RB c p
theorem sy{n c:Nat}{a:Ask}{p:Rat}(h:RB 60 a.size)(hp:RB c p)(t:Nat):RB (61+c) (sent n a p t):=by
 unfold sent
 split
 ·
  exact hp.mono (by omega)
 ·
  exact(h.sub hp).mono (by omega)
theorem z7{n c:Nat}{as:List Ask}{ps:List Rat}(ha:∀a∈as,RB 60 a.size)(hp:∀p∈ps,RB c p)(hl:as.length≤20)(t:Nat):RB (1+(62+c)*20) (z6 n as ps t):=by
 unfold z6
 have h:=RB.sum (b:=61+c) ((as.zip ps).map fun x=>sent n x.1 x.2 t) fun q hq=>by
  obtain⟨x,hx,rfl⟩:=List.mem_map.mp hq
  obtain⟨h1,h2⟩:=List.of_mem_zip (a:=x.1) (b:=x.2) hx
  exact sy (ha _ h1) (hp _ h2) t
 refine h.mono ?_
 rw[List.length_map,List.length_zip]
 have:min as.length ps.length≤20:=by omega
 have e:61+c+1=62+c:=by omega
 rw[e]
 exact Nat.add_le_add_left (Nat.mul_le_mul_left _ this) 1
theorem uw{α:Type}{xs:List α}{k:Nat}{P:α→Prop}(h:∀x∈xs,P x):∀x∈xs.take k,P x:=fun x hx=>h x (List.mem_of_mem_take hx)
def vG(c:Nat×Nat)(p:Nat):Bool:=decide (c.1<p∧p≤c.2)
def apart(c:Nat×Nat)(i j:Nat):Bool:=vG c i != vG c j
def Cp(as:List Ask)(c:Nat×Nat):Rat:=sumQ ((as.filter fun a=>apart c a.one a.other).map (·.size))
def Ring.room(R:Ring)(t:Nat):Rat:=R.rooms.getD t 0
def D1(R:Ring)(c:Nat×Nat):Rat:=R.room c.1+R.room c.2
def FC(R:Ring)(c:Nat×Nat):Rat:=Cp R.asks c / D1 R c
def FD(n:Nat)(c:Nat×Nat):Prop:=c.1≤c.2∧c.2<n
def Fe(qs:List Rat):Prop:=denP qs<2^9000∨∃D:Nat,0<D∧D<2^4400∧∀q∈qs,q.den∣D
theorem z8(qs:List Rat):dO (qs.map frD)=(List.range qs.length).map fun (t:Nat)=>D.tup [.int (t:Int),frD (qs.getD t 0)]:=by
 unfold dO
 refine List.ext_getElem (by simp) fun j h1 h2=>?_
 have hj:j<qs.length:=by simpa using h1
 simp[hj]
def Ring.sz(R:Ring)(k:Nat):Rat:=(R.asks.map (·.size)).getD k 0
theorem D2{R:Ring}{k:Nat}(h:k<R.asks.length):R.sz k=R.asks[k].size:=by
 unfold Ring.sz
 rw[List.getD_eq_getElem?_getD,List.getElem?_map,List.getElem?_eq_getElem h]
 rfl
theorem xG{qs:List Rat}{k:Nat}(h:k<qs.length):qs.getD k 0=qs[k]:=by
 rw[List.getD_eq_getElem?_getD,List.getElem?_eq_getElem h]
 rfl
end L2
namespace My
open PySem L2
def aY(R:Ring)(j:Nat):Ask:=(R.asks[j]?).getD ⟨"",0,0,0⟩
def onA(R:Ring)(j t:Nat):Bool:=isOn R.n (aY R j) t
def dI(R:Ring)(w:Nat→Int)(k g h:Nat):Int:=((List.range (R.asks.length-k)).map fun i=>if onA R (k+i) g != onA R (k+i) h then w (k+i)else 0).sum
def FE(R:Ring)(w f:Nat→Int)(k:Nat):Prop:=∀g h,g<R.n→h<R.n→dI R w k g h≤f g+f h∧(f g+f h-dI R w k g h) % 2=0
def Ff(R:Ring)(w f:Nat→Int)(k:Nat)(p:Int)(t:Nat):Int:=f t-if onA R k t then p else w k-p
def mnI(i j:Int):Int:=if j<i then j else i
def onT(R:Ring)(k:Nat):List Nat:=(PySem.W.sortI ((wayL R.n (aY R k) true).map fun (t:Nat)=>(t:Int))).map Int.toNat
def valI(R:Ring)(w f:Nat→Int)(k g h:Nat):Int:=f g+f h-dI R w (k+1) g h
def D3(R:Ring)(w f:Nat→Int)(k:Nat)(acc:Int)(g:Nat)(hs:List Nat):Int:=hs.foldl (fun t h=>if decide (g≤h)then mnI t (valI R w f k g h)else t) acc
def D4(R:Ring)(w f:Nat→Int)(k:Nat)(gs:List Nat):Int:=gs.foldl (fun t g=>D3 R w f k t g (onT R k)) (2*w k)
def D5(R:Ring)(w f:Nat→Int)(k:Nat):Int:=(D4 R w f k (onT R k)).fdiv 2
def fAt(R:Ring)(w f:Nat→Int):Nat→Nat→Int
 |0=>f
 |k+1=>Ff R w (fAt R w f k) k (D5 R w (fAt R w f k) k)
def pAt(R:Ring)(w f:Nat→Int)(k:Nat):Int:=D5 R w (fAt R w f k) k
theorem oP{t b:Int}(h:b≠0):(Rat.divInt t b).den∣b.natAbs:=by
 rw[Rat.den_divInt,if_neg h]
 exact Nat.div_dvd_of_dvd (by rw[Int.gcd];exact Nat.gcd_dvd_left _ _)
theorem iZ(p q:Rat):(p*q).den∣p.den*q.den:=by
 have e:p*q=Rat.divInt (p.num*q.num) ((p.den:Int)*q.den):=by
  rw[← Rat.divInt_mul_divInt,Rat.num_divInt_den,Rat.num_divInt_den]
 rw[e]
 have:=oP (t:=p.num*q.num) (b:=(p.den:Int)*q.den) (Int.mul_ne_zero (r9 _) (r9 _))
 rwa [Int.natAbs_mul,Int.natAbs_natCast,Int.natAbs_natCast]at this
theorem z9(q:Rat):(q.num:Rat)=q*(q.den:Rat):=by
 have h:((q.den:Int):Rat)≠0:=fun e=>r9 q (by
  have:((q.den:Int):Rat)=((0:Int):Rat):=e
  exact Rat.intCast_inj.mp this)
 have e:q=(q.num:Rat) / ((q.den:Int):Rat):=by
  conv=>lhs;rw[← Rat.num_divInt_den q,Rat.divInt_eq_div]
 have:=Rat.div_mul_cancel (a:=(q.num:Rat)) h
 rw[← e]at this
 exact this.symm
def cbN(qs:List Rat):Nat:=qs.foldl (fun b q=>Nat.lcm b q.den) 1
def qw(u:Nat)(q:Rat):Int:=q.num*((u / q.den:Nat):Int)
theorem qx{u:Nat}{q:Rat}(h:q.den∣u):((qw u q:Int):Rat)=q*(u:Rat):=by
 obtain⟨c,rfl⟩:=h
 unfold qw
 rw[Nat.mul_div_cancel_left _ (den_pos q),Rat.intCast_mul,z9,Rat.intCast_natCast,Rat.natCast_mul,Rat.mul_assoc]
def D6(R:Ring):List Rat:=R.asks.map (·.size)
def Fg(R:Ring)(q:Rat):List Rat:=R.rooms.map fun r=>q*r
def cbR(R:Ring)(q:Rat):Nat:=cbN (D6 R++Fg R q)
def AQ(R:Ring)(q:Rat):Nat:=2*cbR R q
def wI(R:Ring)(q:Rat)(j:Nat):Int:=qw (AQ R q) (aY R j).size
def f0I(R:Ring)(q:Rat)(t:Nat):Int:=qw (AQ R q) (q*R.room t)
def pI(R:Ring)(q:Rat)(k:Nat):Int:=pAt R (wI R q) (f0I R q) k
end My
set_option exponentiation.threshold 2000
namespace L2
open PySem
end L2
set_option exponentiation.threshold 5000
namespace My
open PySem L2
structure LB (R:Ring) (ps:List Rat):Prop where
 p:∀p∈ps,RB 4100 p
 ld:∀k t,RB 4100 (z6 R.n (R.asks.take k) (ps.take k) t)
 st:∀(k:Nat)(h1:k<R.asks.length)(h2:k<ps.length)(t:Nat),RB 4100 (sent R.n R.asks[k] ps[k] t)
 sm:∀t,Fe ((R.asks.zip ps).map fun x=>sent R.n x.1 x.2 t)
theorem LB.all{R:Ring}{ps:List Rat}(h:LB R ps)(hl:ps.length=R.asks.length)(t:Nat):RB 4100 (z6 R.n R.asks ps t):=by
 have:=h.ld R.asks.length t
 rwa [List.take_of_length_le (Nat.le_refl _),List.take_of_length_le (by omega)]at this
theorem LB.of{R:Ring}(hR:R.Ok)(hT:∀a∈R.asks,RB 60 a.size){ps:List Rat}{c:Nat}(hb:∀p∈ps,RB c p)(hc:c≤100):LB R ps:=by
 refine⟨fun p hp=>(hb p hp).mono (by omega),fun k t=>?_,fun k h1 h2 t=>?_,fun t=>.inl ?_⟩
 ·
  exact(z7 (uw hT) (uw hb) (by rw[List.length_take];have:=hR.few;omega) t).mono (by omega)
 ·
  exact(sy (hT _ (List.getElem_mem h1)) (hb _ (List.getElem_mem h2)) t).mono (by omega)
 ·
  refine Nat.lt_of_le_of_lt (xF (b:=161) _ fun q hq=>?_) (Nat.pow_lt_pow_right (by decide) ?_)
  ·
   obtain⟨x,hx,rfl⟩:=List.mem_map.mp hq
   obtain⟨h1,h2⟩:=List.of_mem_zip (a:=x.1) (b:=x.2) hx
   exact(sy (hT _ h1) (hb _ h2) t).mono (by omega)
  ·
   rw[List.length_map,List.length_zip]
   have:=hR.few
   omega
def zI(R:Ring)(q:Rat)(t j:Nat):Int:=if isOn R.n (aY R j) t then pI R q j else wI R q j-pI R q j
def ratB:D→Bool
 |.tup [.int i,.int j]=>decide (1≤j) && decide ((Int.gcd i j:Int)=1)
 |_=>false
theorem xH{d:D}(h:∀i j,d≠.tup [.int i,.int j]):ratB d=false:=by
 unfold ratB
 split
 ·
  rename_i i j
  exact absurd rfl (h i j)
 ·
  rfl
mutual
def widD:D→Nat
 |.tup xs=>max xs.length (sD xs)
 |.lst xs=>max xs.length (sD xs)
 |_=>0
def sD:List D→Nat
 |[]=>0
 |x::xs=>max (widD x) (sD xs)
end
theorem uy{n:Nat}:∀{xs:List D},(∀x∈xs,widD x≤n)→sD xs≤n
 |[],_=>Nat.zero_le _
 | y::ys,h=>by
  simp only[sD]
  have:=h y List.mem_cons_self
  have:=uy (xs:=ys) fun x hx=>h x (List.mem_cons_of_mem _ hx)
  omega
theorem D7{n:Nat}(h:n≤99):n≤sizeLine:=Nat.le_trans h (by decide)
theorem Cq(q:Rat):widD (frD q)=2:=by simp[frD,widD,sD]
theorem Aa(a:Ask):widD (askD a)=4:=by
 have:=Cq a.size
 simp[askD,widD,sD,this]
theorem xI{as:List Ask}{n:Nat}(h:as.length≤n)(h2:4≤n):widD (.lst (as.map askD))≤n:=by
 simp only[widD,List.length_map]
 have:=uy (n:=4) (xs:=as.map askD) fun x hx=>by
  obtain⟨q,_,rfl⟩:=List.mem_map.mp hx
  rw[Aa]
  exact Nat.le_refl _
 omega
structure SmD (n:Nat) (d:D):Prop where
 dep:depD d<n
 wid:widD d≤99
theorem SmD.mono{n m:Nat}{d:D}(h:SmD n d)(hm:n≤m):SmD m d:=⟨Nat.lt_of_lt_of_le h.dep hm,h.wid⟩
theorem Cr(q:Rat):depD (frD q)=1:=by simp[frD,depD,rR]
theorem Ab(a:Ask):depD (askD a)=2:=by
 have:=Cr a.size
 simp[askD,depD,rR,this]
theorem Ac{xs:List D}{n:Nat}(h:∀x∈xs,depD x≤n):depD (.lst xs)≤n+1:=by
 simp only[depD]
 have:=t8 h
 omega
theorem xJ(as:List Ask):depD (.lst (as.map askD))≤3:=Ac fun x hx=>by
 obtain⟨q,_,rfl⟩:=List.mem_map.mp hx
 rw[Ab]
 exact Nat.le_refl _
theorem SmD.asks{as:List Ask}(h:as.length≤99):SmD 4 (.lst (as.map askD)):=⟨by have:=xJ as;omega,xI h (by decide)⟩
end My
set_option exponentiation.threshold 5000
namespace My
open PySem L2
def Tw(R:Ring)(ps:List Rat):Prop:=∀k,k<R.asks.length→∃v:Int,0≤v∧v≤12∧ps.getD k 0=R.sz k*Rat.divInt v 12
end My
set_option exponentiation.threshold 5000
namespace My
open PySem L2
structure aI where
 k:Nat
 kw:Bool
 l:Nat
 lw:Bool
 am:Rat
def slD(s:aI):D:=.tup [.int (s.k:Int),.str (wayS s.kw),.int (s.l:Int),.str (wayS s.lw),frD s.am]
def nsQ(R:Ring)(ps:List Rat)(k:Nat)(w:Bool):Rat:=if w then R.sz k-ps.getD k 0 else ps.getD k 0
def msQ(R:Ring)(ps:List Rat)(k:Nat)(kw:Bool)(l:Nat)(lw:Bool):Rat:=if nsQ R ps l lw<nsQ R ps k kw then nsQ R ps l lw else nsQ R ps k kw
def bhQ(p:Rat)(w:Bool)(am:Rat):Rat:=if w then p+am else p-am
def slL(ps:List Rat)(s:aI):List Rat:=(ps.set s.k (bhQ (ps.getD s.k 0) s.kw s.am)).set s.l (bhQ ((ps.set s.k (bhQ (ps.getD s.k 0) s.kw s.am)).getD s.l 0) s.lw s.am)
def gp(n:Nat)(a:Ask)(aw:Bool)(b:Ask)(bw:Bool):Bool:=!((wayL n a aw).any fun t=>decide (t∈wayL n b bw))
def bc(n:Nat)(a b:Ask):Bool×Bool:=if gp n a true b true then(true,true)else if gp n a true b false then(true,false)else if gp n a false b true then(false,true)else(false,false)
structure SlOk (R:Ring) (ps:List Rat):Prop where
 ok:R.Ok
 len:ps.length=R.asks.length
 lo:∀k,k<ps.length→0≤ps.getD k 0∧ps.getD k 0≤R.sz k
 cd:∃D:Nat,0<D∧D<2^1500∧(∀a∈R.asks,a.size.den∣D)∧∀p∈ps,p.den∣D
theorem i3{R:Ring}{k:Nat}(h:k<R.asks.length):R.sz k=R.asks[k].size:=by
 unfold Ring.sz
 rw[List.getD_eq_getElem?_getD,List.getElem?_map,List.getElem?_eq_getElem h]
 rfl
theorem bR{ps:List Rat}{k:Nat}(h:k<ps.length):ps.getD k 0=ps[k]:=by rw[List.getD_eq_getElem?_getD,List.getElem?_eq_getElem h];rfl
theorem rlt{a b c:Rat}(h1:a≤b)(h2:b<c):a<c:=by
 rw[← Rat.not_le]at h2 ⊢
 exact fun z=>h2 (Rat.le_trans z h1)
theorem uz{q:Rat}{D:Nat}(h0:0≤q)(h1:q<((2^300:Nat):Rat))(d0:0<D)(d1:D<2^1500)(hd:q.den∣D):RB 1800 q:=RB.of_val (v:=300) (d:=1500) h0 (Nat.lt_of_le_of_lt (Nat.le_of_dvd d0 hd) d1) h1
theorem SlOk.sz_rb{R:Ring}{ps:List Rat}(h:SlOk R ps){k:Nat}(hk:k<ps.length):RB 1800 (R.sz k):=by
 have hk':k<R.asks.length:=by rw[← h.len];exact hk
 rw[i3 hk']
 exact(h.ok.rb (List.getElem_mem hk')).mono (by decide)
theorem SlOk.rb{R:Ring}{ps:List Rat}(h:SlOk R ps){k:Nat}(hk:k<ps.length):RB 1800 (ps.getD k 0):=by
 obtain⟨D,d0,d1,_,hd⟩:=h.cd
 have hk':k<R.asks.length:=by rw[← h.len];exact hk
 obtain⟨h1,h2⟩:=h.lo k hk
 refine uz h1 (rlt h2 ?_) d0 d1 (hd _ (by rw[bR hk];exact List.getElem_mem hk))
 rw[i3 hk']
 exact(h.ok.ask _ (List.getElem_mem hk')).lt
theorem sE{p q:Rat}{D:Nat}(d0:0<D)(h1:p.den∣D)(h2:q.den∣D):(p+q).den∣D:=by
 have e:p+q=Rat.divInt (qw D p+qw D q) (D:Int):=by
  have hD:((D:Int):Rat)≠0:=by
   have:(0:Rat)<(D:Rat):=Rat.natCast_pos.mpr d0
   intro z
   rw[show((D:Int):Rat)=(D:Rat)from rfl]at z
   rw[z]at this
   exact absurd this (by decide)
  rw[Rat.divInt_eq_div,Rat.intCast_add,qx h1,qx h2,← Rat.add_mul,Rat.div_def,Rat.mul_assoc,show((D:Nat):Rat)=((D:Int):Rat)from rfl,Rat.mul_inv_cancel _ hD,Rat.mul_one]
 rw[e]
 have:=oP (t:=qw D p+qw D q) (b:=(D:Int)) (by omega)
 simpa using this
theorem sF{p q:Rat}{D:Nat}(d0:0<D)(h1:p.den∣D)(h2:q.den∣D):(p-q).den∣D:=by
 rw[Rat.sub_eq_add_neg]
 exact sE d0 h1 (by rw[Rat.neg_den];exact h2)
theorem SlOk.ns{R:Ring}{ps:List Rat}(h:SlOk R ps){k:Nat}(hk:k<ps.length)(w:Bool):0≤nsQ R ps k w∧nsQ R ps k w≤R.sz k:=by
 obtain⟨h1,h2⟩:=h.lo k hk
 unfold nsQ
 cases w
 ·
  exact⟨h1,h2⟩
 ·
  have h3:=(Rat.le_iff_sub_nonneg _ _).mp h2
  refine⟨h3,?_⟩
  show R.sz k-ps.getD k 0≤R.sz k
  rw[Rat.le_iff_sub_nonneg]
  have:R.sz k-(R.sz k-ps.getD k 0)=ps.getD k 0:=by
   rw[Rat.sub_eq_add_neg,Rat.sub_eq_add_neg,Rat.neg_add,Rat.neg_neg,← Rat.add_assoc,Rat.add_neg_cancel,Rat.zero_add]
  rw[this]
  exact h1
def lowP(a:Ask):Nat:=min a.one a.other
def gq(a:Ask):Nat:=max a.one a.other
def upB(a:Ask):Bool:=decide (a.one<a.other)
theorem qy{n:Nat}{a:Ask}(h:kx n a){t:Nat}(ht:t<n):(isOn n a t == upB a)=true↔lowP a≤t∧t<gq a:=by
 have h1:=h.one
 have h2:=h.other
 have h3:=h.ne
 unfold isOn lowP gq upB
 rw[nO h1 ht,nO h1 h2]
 rw[beq_iff_eq,decide_eq_decide]
 by_cases h4:a.one<a.other
 ·
  rw[if_pos (show a.one≤a.other by omega)]
  by_cases h5:a.one≤t
  ·
   rw[if_pos h5];omega
  ·
   rw[if_neg h5];omega
 ·
  rw[if_neg (show ¬a.one≤a.other by omega)]
  by_cases h5:a.one≤t
  ·
   rw[if_pos h5];omega
  ·
   rw[if_neg h5];omega
theorem oQ{n:Nat}{a b:Ask}(ha:kx n a)(hb:kx n b){aw bw:Bool}(h:∀t,t<n→(isOn n a t == aw)=true→(isOn n b t == bw)=true→False):gp n a aw b bw=true:=by
 unfold gp
 rw[Bool.not_eq_true',List.any_eq_false]
 intro t ht
 rw[decide_eq_true_iff]
 intro hb'
 have htn:t<n:=by
  cases aw
  ·
   exact((uu ha.one ha.other ha.ne).mp ht).1
  ·
   exact((AO ha.one).mp ht).1
 exact h t htn ((xE ha aw htn).mp ht) ((xE hb bw htn).mp hb')
theorem qz{n:Nat}{a:Ask}(h:kx n a){t:Nat}(ht:t<n):(isOn n a t == !upB a)=true↔¬(lowP a≤t∧t<gq a):=by
 rw[← qy h ht]
 cases isOn n a t<;>cases upB a<;>simp
def crsB(a b:Ask):Bool:=decide (lowP a<lowP b∧lowP b<gq a∧gq a<gq b) ||decide (lowP b<lowP a∧lowP a<gq b∧gq b<gq a)
theorem Ad{n:Nat}{a b:Ask}(ha:kx n a)(hb:kx n b)(h:crsB a b=false):gp n a (bc n a b).1 b (bc n a b).2=true:=by
 have ex:∃aw bw,gp n a aw b bw=true:=by
  unfold crsB at h
  rw[Bool.or_eq_false_iff,decide_eq_false_iff_not,decide_eq_false_iff_not]at h
  have la:lowP a<gq a:=by have:=ha.ne;unfold lowP gq;omega
  have lb:lowP b<gq b:=by have:=hb.ne;unfold lowP gq;omega
  by_cases h1:gq a≤lowP b∨gq b≤lowP a
  ·
   refine⟨upB a,upB b,oQ ha hb fun t ht p q=>?_⟩
   have p:=(qy ha ht).mp p
   have q:=(qy hb ht).mp q
   omega
  ·
   by_cases h2:lowP b≤lowP a∧gq a≤gq b
   ·
    refine⟨upB a,!upB b,oQ ha hb fun t ht p q=>?_⟩
    have p:=(qy ha ht).mp p
    have q:=(qz hb ht).mp q
    omega
   ·
    refine⟨!upB a,upB b,oQ ha hb fun t ht p q=>?_⟩
    have p:=(qz ha ht).mp p
    have q:=(qy hb ht).mp q
    omega
 unfold bc
 split
 ·
  assumption
 ·
  split
  ·
   assumption
  ·
   split
   ·
    assumption
   ·
    obtain⟨aw,bw,e⟩:=ex
    cases aw<;>cases bw<;>first|exact e|contradiction
def gsl(R:Ring)(ps:List Rat)(k l:Nat)(w:Bool×Bool):aI:=⟨k,w.1,l,w.2,msQ R ps k w.1 l w.2⟩
theorem SlOk.ms{R:Ring}{ps:List Rat}(h:SlOk R ps){k l:Nat}(hk:k<ps.length)(hl:l<ps.length)(kw lw:Bool):0≤msQ R ps k kw l lw∧msQ R ps k kw l lw≤nsQ R ps k kw∧msQ R ps k kw l lw≤nsQ R ps l lw∧(msQ R ps k kw l lw=nsQ R ps k kw∨msQ R ps k kw l lw=nsQ R ps l lw):=by
 have h1:=h.ns hk kw
 have h2:=h.ns hl lw
 unfold msQ
 split
 ·
  rename_i hlt
  exact⟨h2.1,Rat.le_of_lt hlt,Rat.le_refl,.inr rfl⟩
 ·
  rename_i hlt
  exact⟨h1.1,Rat.le_refl,Rat.not_lt.mp hlt,.inl rfl⟩
def crA(R:Ring)(k l:Nat):Bool:=crsB (aY R k) (aY R l)
def fsB(cr:Nat→Nat→Bool):List Nat→Option (Nat×Nat)
 |[]=>none
 | k::ks=>match ks.find? (fun l=>!cr k l)with
  |some l=>some (k,l)
  |none=>fsB cr ks
def xK:Option (Nat×Nat)→D
 |none=>.non
 |some (k,l)=>.tup [.int (k:Int),.int (l:Int)]
theorem dS{R:Ring}{k:Nat}(h:k<R.asks.length):aY R k=R.asks[k]:=by
 unfold aY
 rw[List.getElem?_eq_getElem h]
 rfl
end My
set_option exponentiation.threshold 5000
namespace My
open PySem L2
def ptB(R:Ring)(ps:List Rat)(k:Nat):Bool:=decide (0<ps.getD k 0) && decide (ps.getD k 0<R.sz k)
def ptL(R:Ring)(ps:List Rat):List Nat:=(List.range ps.length).filter (ptB R ps)
theorem jL{R:Ring}{ps:List Rat}{k:Nat}(h:k∈ptL R ps):k<ps.length∧ptB R ps k=true:=by
 obtain⟨h1,h2⟩:=List.mem_filter.mp h
 exact⟨List.mem_range.mp h1,h2⟩
theorem xM(R:Ring)(ps:List Rat):(ptL R ps).Pairwise (· < ·):=List.Pairwise.filter _ List.pairwise_lt_range
theorem lK{cr:Nat→Nat→Bool}:∀{ks:List Nat}{k l:Nat},ks.Pairwise (· < ·)→fsB cr ks=some (k,l)→k∈ks∧l∈ks∧k<l∧cr k l=false
 |[],_,_,_,h=>by cases h
 | a::ks,k,l,hp,h=>by
  obtain⟨p1,p2⟩:=List.pairwise_cons.mp hp
  unfold fsB at h
  cases e:ks.find? (fun l=>!cr a l)with
  | none =>
   rw[e]at h
   obtain⟨h1,h2,h3,h4⟩:=lK p2 h
   exact⟨List.mem_cons_of_mem _ h1,List.mem_cons_of_mem _ h2,h3,h4⟩
  | some m =>
   rw[e]at h
   cases h
   have hm:=List.mem_of_find?_eq_some e
   have hc:=List.find?_some e
   exact⟨List.mem_cons_self,List.mem_cons_of_mem _ hm,p1 _ hm,by simpa using hc⟩
theorem Cs(p s:Rat):p+(s-p)=s:=by
 rw[Rat.sub_eq_add_neg,← Rat.add_assoc,Rat.add_comm p s,Rat.add_assoc,Rat.add_neg_cancel,Rat.add_zero]
theorem xN(p:Rat):p-p=0:=by rw[Rat.sub_eq_add_neg,Rat.add_neg_cancel]
theorem Ct{p a:Rat}(h:a≤p):0≤p-a:=(Rat.le_iff_sub_nonneg _ _).mp h
theorem Ae{p a:Rat}(h:0≤a):p-a≤p:=by
 rw[Rat.le_iff_sub_nonneg,Rat.sub_eq_add_neg,Rat.sub_eq_add_neg,Rat.neg_add,Rat.neg_neg,← Rat.add_assoc,Rat.add_neg_cancel,Rat.zero_add]
 exact h
theorem Cu{p a:Rat}(h1:0≤p)(h2:0≤a):0≤p+a:=Rat.add_nonneg h1 h2
structure SlDo (R:Ring) (ps:List Rat) (s:aI):Prop where
 k:s.k<ps.length
 l:s.l<ps.length
 kl:s.k≠s.l
 nn:0≤s.am
 kn:s.am≤nsQ R ps s.k s.kw
 ln:s.am≤nsQ R ps s.l s.lw
theorem bz(ps:List Rat)(s:aI):(slL ps s).length=ps.length:=by simp[slL]
theorem eN{ps:List Rat}{s:aI}(hk:s.k<ps.length)(hl:s.l<ps.length)(hkl:s.k≠s.l)(i:Nat):(slL ps s).getD i 0=if i=s.k then bhQ (ps.getD s.k 0) s.kw s.am else if i=s.l then bhQ (ps.getD s.l 0) s.lw s.am else ps.getD i 0:=by
 have e0:(ps.set s.k (bhQ (ps.getD s.k 0) s.kw s.am)).getD s.l 0=ps.getD s.l 0:=by
  rw[List.getD_eq_getElem?_getD,List.getElem?_set_ne hkl,← List.getD_eq_getElem?_getD]
 unfold slL
 rw[e0,List.getD_eq_getElem?_getD]
 by_cases h1:i=s.k
 ·
  subst h1
  rw[if_pos rfl,List.getElem?_set_ne (Ne.symm hkl),List.getElem?_set_self hk]
  rfl
 ·
  rw[if_neg h1]
  by_cases h2:i=s.l
  ·
   subst h2
   rw[if_pos rfl,List.getElem?_set_self (by simpa using hl)]
   rfl
  ·
   rw[if_neg h2,List.getElem?_set_ne (Ne.symm h2),List.getElem?_set_ne (Ne.symm h1),List.getD_eq_getElem?_getD]
theorem uA{R:Ring}{ps:List Rat}{k:Nat}{w:Bool}{am:Rat}(h1:0≤ps.getD k 0)(h2:ps.getD k 0≤R.sz k)(a0:0≤am)(a1:am≤nsQ R ps k w):0≤bhQ (ps.getD k 0) w am∧bhQ (ps.getD k 0) w am≤R.sz k:=by
 unfold nsQ at a1
 unfold bhQ
 cases w with
 | true =>
  simp only[if_true]at a1 ⊢
  refine⟨Cu h1 a0,?_⟩
  have:=(Rat.add_le_add_left (c:=ps.getD k 0)).mpr a1
  rwa [Cs]at this
 | false =>
  simp only[Bool.false_eq_true,if_false]at a1 ⊢
  exact⟨Ct a1,Rat.le_trans (Ae a0) h2⟩
theorem SlOk.slid{R:Ring}{ps:List Rat}{s:aI}(h:SlOk R ps)(hs:SlDo R ps s)(hd:∀D:Nat,0<D→(∀a∈R.asks,a.size.den∣D)→(∀p∈ps,p.den∣D)→s.am.den∣D):SlOk R (slL ps s):=by
 refine⟨h.ok,by rw[bz];exact h.len,fun i hi=>?_,?_⟩
 ·
  rw[bz]at hi
  rw[eN hs.k hs.l hs.kl]
  split
  ·
   rename_i e;subst e
   exact uA (h.lo _ hs.k).1 (h.lo _ hs.k).2 hs.nn hs.kn
  ·
   split
   ·
    rename_i e;subst e
    exact uA (h.lo _ hs.l).1 (h.lo _ hs.l).2 hs.nn hs.ln
   ·
    exact h.lo i hi
 ·
  obtain⟨D,d0,d1,da,dp⟩:=h.cd
  have dm:=hd D d0 da dp
  have dk:∀k,k<ps.length→(ps.getD k 0).den∣D:=fun k hk=>dp _ (by rw[bR hk];exact List.getElem_mem hk)
  have db:∀(k:Nat)(w:Bool),k<ps.length→(bhQ (ps.getD k 0) w s.am).den∣D:=fun k w hk=>by
   unfold bhQ
   cases w
   ·
    exact sF d0 (dk k hk) dm
   ·
    exact sE d0 (dk k hk) dm
  refine⟨D,d0,d1,da,fun p hp=>?_⟩
  obtain⟨i,hi,rfl⟩:=List.getElem_of_mem hp
  rw[← bR hi,eN hs.k hs.l hs.kl]
  rw[bz]at hi
  split
  ·
   exact db _ _ hs.k
  ·
   split
   ·
    exact db _ _ hs.l
   ·
    exact dk i hi
theorem nP{R:Ring}{ps:List Rat}(h:SlOk R ps){k:Nat}(hk:k<ps.length)(w:Bool){D:Nat}(d0:0<D)(da:∀a∈R.asks,a.size.den∣D)(dp:∀p∈ps,p.den∣D):(nsQ R ps k w).den∣D:=by
 have hk':k<R.asks.length:=by rw[← h.len];exact hk
 have e1:(ps.getD k 0).den∣D:=dp _ (by rw[bR hk];exact List.getElem_mem hk)
 unfold nsQ
 cases w
 ·
  exact e1
 ·
  refine sF d0 ?_ e1
  rw[i3 hk']
  exact da _ (List.getElem_mem hk')
theorem AR{R:Ring}{ps:List Rat}(h:SlOk R ps){k l:Nat}(hk:k<ps.length)(hl:l<ps.length)(hkl:k≠l)(w:Bool×Bool):SlDo R ps (gsl R ps k l w):=by
 obtain⟨m1,m2,m3,_⟩:=h.ms hk hl w.1 w.2
 exact⟨hk,hl,hkl,m1,m2,m3⟩
theorem AS{R:Ring}{ps:List Rat}(h:SlOk R ps){k l:Nat}(hk:k<ps.length)(hl:l<ps.length)(hkl:k≠l)(w:Bool×Bool):SlOk R (slL ps (gsl R ps k l w)):=by
 refine h.slid (AR h hk hl hkl w) fun D d0 da dp=>?_
 show(msQ R ps k w.1 l w.2).den∣D
 rcases(h.ms hk hl w.1 w.2).2.2.2 with e|e
 ·
  rw[e];exact nP h hk _ d0 da dp
 ·
  rw[e];exact nP h hl _ d0 da dp
theorem AU{R:Ring}{ps:List Rat}{k:Nat}{w:Bool}:¬(0<bhQ (ps.getD k 0) w (nsQ R ps k w)∧bhQ (ps.getD k 0) w (nsQ R ps k w)<R.sz k):=by
 unfold bhQ nsQ
 cases w with
 | true =>
  simp only[if_true]
  rw[Cs]
  exact fun z=>Rat.lt_irrefl z.2
 | false =>
  simp only[Bool.false_eq_true,if_false]
  rw[xN]
  exact fun z=>Rat.lt_irrefl z.1
theorem sG{p q:Nat→Bool}:∀{l:List Nat}{x:Nat},(∀y∈l,q y=true→p y=true)→x∈l→p x=true→q x=false→(l.filter q).length<(l.filter p).length
 |[],_,_,hx,_,_=>by cases hx
 | a::l,x,h,hx,hp,hq=>by
  have le:∀m:List Nat,(∀y∈m,q y=true→p y=true)→(m.filter q).length≤(m.filter p).length:=fun m hm=>by
   induction m with
   |nil=>exact Nat.le_refl _
   | cons b m ih =>
    have ih:=ih fun y hy=>hm y (List.mem_cons_of_mem _ hy)
    have hb:=hm b List.mem_cons_self
    rw[List.filter_cons,List.filter_cons]
    cases e1:q b<;>cases e2:p b<;>simp_all<;>omega
  have h':∀y∈l,q y=true→p y=true:=fun y hy=>h y (List.mem_cons_of_mem _ hy)
  rw[List.filter_cons,List.filter_cons]
  rcases List.mem_cons.mp hx with rfl|hx
  ·
   rw[hp,hq]
   have:=le l h'
   simp
   omega
  ·
   have ih:=sG h' hx hp hq
   have hb:=h a List.mem_cons_self
   cases e1:q a<;>cases e2:p a<;>simp_all<;>omega
theorem uB{R:Ring}{ps:List Rat}(h:SlOk R ps){k l:Nat}(hk:k∈ptL R ps)(hl:l∈ptL R ps)(hkl:k≠l)(w:Bool×Bool):(ptL R (slL ps (gsl R ps k l w))).length<(ptL R ps).length:=by
 obtain⟨hk1,hk2⟩:=jL hk
 obtain⟨hl1,hl2⟩:=jL hl
 have at_:=eN (s:=gsl R ps k l w) hk1 hl1 hkl
 unfold ptL
 rw[bz]
 have up:∀y∈List.range ps.length,ptB R (slL ps (gsl R ps k l w)) y=true→ptB R ps y=true:=fun y _ hy=>by
  unfold ptB at hy ⊢
  rw[at_]at hy
  by_cases e1:y=k
  ·
   subst e1;exact hk2
  ·
   by_cases e2:y=l
   ·
    subst e2;exact hl2
   ·
    rw[if_neg (show ¬y=(gsl R ps k l w).k from e1),if_neg (show ¬y=(gsl R ps k l w).l from e2)]at hy
    exact hy
 rcases(h.ms hk1 hl1 w.1 w.2).2.2.2 with e|e
 ·
  refine sG up (List.mem_range.mpr hk1) hk2 ?_
  unfold ptB
  rw[at_,if_pos (show k=(gsl R ps k l w).k from rfl)]
  show(decide (0<bhQ (ps.getD k 0) w.1 (msQ R ps k w.1 l w.2)) && decide (bhQ (ps.getD k 0) w.1 (msQ R ps k w.1 l w.2)<R.sz k))=false
  rw[e]
  have:=AU (R:=R) (ps:=ps) (k:=k) (w:=w.1)
  rw[← Bool.not_eq_true,Bool.and_eq_true,decide_eq_true_eq,decide_eq_true_eq]
  exact this
 ·
  refine sG up (List.mem_range.mpr hl1) hl2 ?_
  unfold ptB
  rw[at_,if_neg (show ¬l=(gsl R ps k l w).k from Ne.symm hkl),if_pos (show l=(gsl R ps k l w).l from rfl)]
  show(decide (0<bhQ (ps.getD l 0) w.2 (msQ R ps k w.1 l w.2)) && decide (bhQ (ps.getD l 0) w.2 (msQ R ps k w.1 l w.2)<R.sz l))=false
  rw[e]
  have:=AU (R:=R) (ps:=ps) (k:=l) (w:=w.2)
  rw[← Bool.not_eq_true,Bool.and_eq_true,decide_eq_true_eq,decide_eq_true_eq]
  exact this
def nxtS(R:Ring)(ps:List Rat):Option aI:=(fsB (crA R) (ptL R ps)).map fun p=>gsl R ps p.1 p.2 (bc R.n (aY R p.1) (aY R p.2))
def slsF(R:Ring):Nat→List Rat→List aI
 |0,_=>[]
 | n+1,ps=>match nxtS R ps with
  |none=>[]
  |some s=>s::slsF R n (slL ps s)
theorem jM{R:Ring}{ps:List Rat}(h:SlOk R ps){k:Nat}(hk:k<ps.length)(w:Bool):RB 3700 (nsQ R ps k w):=by
 unfold nsQ
 cases w
 ·
  exact(h.rb hk).mono (by decide)
 ·
  exact((h.sz_rb hk).sub (h.rb hk)).mono (by decide)
theorem xO{R:Ring}{ps:List Rat}{k:Nat}(w:Bool):R.sz k-nsQ R ps k (!w)=nsQ R ps k w:=by
 unfold nsQ
 cases w
 ·
  show R.sz k-(R.sz k-ps.getD k 0)=ps.getD k 0
  rw[Rat.sub_eq_add_neg,Rat.sub_eq_add_neg,Rat.neg_add,Rat.neg_neg,← Rat.add_assoc,Rat.add_neg_cancel,Rat.zero_add]
 ·
  rfl
end My
set_option exponentiation.threshold 5000
namespace My
open PySem L2
def slB(R:Ring)(ps:List Rat)(s:aI):Bool:=!decide (s.k=s.l) && (gp R.n (aY R s.k) s.kw (aY R s.l) s.lw && (decide (0<s.am) && !decide (msQ R ps s.k s.kw s.l s.lw<s.am)))
theorem AV{R:Ring}{ps:List Rat}{k:Nat}(h:ptB R ps k=true)(w:Bool):0<nsQ R ps k w:=by
 unfold ptB at h
 rw[Bool.and_eq_true,decide_eq_true_eq,decide_eq_true_eq]at h
 unfold nsQ
 cases w
 ·
  exact h.1
 ·
  show 0<R.sz k-ps.getD k 0
  have:=h.2
  rw[← Rat.not_le]at this ⊢
  intro z
  apply this
  have:=(Rat.add_le_add_left (c:=ps.getD k 0)).mpr z
  rw[Cs,Rat.add_zero]at this
  exact this
theorem uC{R:Ring}{ps:List Rat}{s:aI}(h:SlOk R ps)(e:nxtS R ps=some s):SlDo R ps s∧slB R ps s=true∧SlOk R (slL ps s)∧(ptL R (slL ps s)).length<(ptL R ps).length∧RB 4000 s.am∧s.k∈ptL R ps∧s.l∈ptL R ps:=by
 unfold nxtS at e
 cases e1:fsB (crA R) (ptL R ps)with
 |none=>rw[e1]at e;cases e
 | some p =>
  obtain⟨k,l⟩:=p
  rw[e1]at e
  obtain⟨hk,hl,hkl,hc⟩:=lK (xM R ps) e1
  obtain⟨hk1,hk2⟩:=jL hk
  obtain⟨hl1,hl2⟩:=jL hl
  have hk':k<R.asks.length:=by rw[← h.len];exact hk1
  have hl':l<R.asks.length:=by rw[← h.len];exact hl1
  have hkl':k≠l:=by omega
  have ee:gsl R ps k l (bc R.n (aY R k) (aY R l))=s:=Option.some.inj e
  subst ee
  refine⟨AR h hk1 hl1 hkl' _,?_,AS h hk1 hl1 hkl' _,uB h hk hl hkl' _,?_,hk,hl⟩
  ·
   unfold slB
   show(!decide (k=l) && (gp R.n (aY R k) (bc R.n (aY R k) (aY R l)).1 (aY R l) (bc R.n (aY R k) (aY R l)).2 && (decide (0<msQ R ps k (bc R.n (aY R k) (aY R l)).1 l (bc R.n (aY R k) (aY R l)).2) && !decide (msQ R ps k (bc R.n (aY R k) (aY R l)).1 l (bc R.n (aY R k) (aY R l)).2<msQ R ps k (bc R.n (aY R k) (aY R l)).1 l (bc R.n (aY R k) (aY R l)).2))))=true
   rw[decide_eq_false hkl',Ad (by rw[dS hk'];exact h.ok.ask _ (List.getElem_mem hk')) (by rw[dS hl'];exact h.ok.ask _ (List.getElem_mem hl')) hc,decide_eq_false (Rat.lt_irrefl),decide_eq_true]
   ·
    rfl
   ·
    rcases(h.ms hk1 hl1 (bc R.n (aY R k) (aY R l)).1 (bc R.n (aY R k) (aY R l)).2).2.2.2 with z|z
    ·
     rw[z];exact AV hk2 _
    ·
     rw[z];exact AV hl2 _
  ·
   show RB 4000 (msQ R ps k _ l _)
   rcases(h.ms hk1 hl1 (bc R.n (aY R k) (aY R l)).1 (bc R.n (aY R k) (aY R l)).2).2.2.2 with z|z
   ·
    rw[z];exact(jM h hk1 _).mono (by decide)
   ·
    rw[z];exact(jM h hl1 _).mono (by decide)
theorem xP{R:Ring}:∀(m:Nat)(ps:List Rat),SlOk R ps→(slsF R m ps).length≤(ptL R ps).length
 |0,_,_=>Nat.zero_le _
 | m+1,ps,h=>by
  unfold slsF
  cases e:nxtS R ps with
  |none=>exact Nat.zero_le _
  | some s =>
   obtain⟨_,_,h2,h3,_⟩:=uC h e
   have:=xP m (slL ps s) h2
   simp only[List.length_cons]
   omega
end My
set_option exponentiation.threshold 5000
namespace My
open PySem L2
end My
set_option exponentiation.threshold 5000
namespace My
open PySem L2
def wayB:D→Bool
 |.str z=>decide (z=Str.ofString "on") ||decide (z=Str.ofString "back")
 |_=>false
theorem Cv(z:Str):inF (.str z) [.str (Str.ofString "on"),.str (Str.ofString "back")]=wayB (.str z):=by
 have e1:(Str.ofString "on" == z)=decide (z=Str.ofString "on"):=by rw[Bool.eq_iff_iff,beq_iff_eq,decide_eq_true_iff]; exact eq_comm
 have e2:(Str.ofString "back" == z)=decide (z=Str.ofString "back"):=by rw[Bool.eq_iff_iff,beq_iff_eq,decide_eq_true_iff]; exact eq_comm
 show(Str.ofString "on" == z ||(Str.ofString "back" == z ||false))=_
 rw[e1,e2,Bool.or_false]
 rfl
structure Pt (n:Nat) (d:D):Prop where
 dep:depD d≤n
 wid:widD d≤99
 same:ub (20+n) d=true
theorem Pt.int(i:Int):Pt 0 (.int i):=⟨by simp[depD],by simp[widD],by simp[ub]⟩
theorem Pt.str(z:Str):Pt 0 (.str z):=⟨by simp[depD],by simp[widD],by simp[ub]⟩
end My
set_option exponentiation.threshold 5000
namespace My
open PySem L2
def mh:D→Option Bool
 |.str z=>if z=wayS true then some true else if z=wayS false then some false else none
 |_=>none
def mi:D→Option Nat
 |.int i=>if 0≤i then some i.toNat else none
 |_=>none
def qC(d:D):Option Rat:=match d with
 |.tup [.int i,.int j]=>if ratB (.tup [.int i,.int j])then some (Rat.divInt i j)else none
 |_=>none
def slOf:D→Option aI
 | .tup [a,b,c,d,e]=>match mi a,mh b,mi c,mh d,qC e with
  |some k,some kw,some l,some lw,some am=>some ⟨k,kw,l,lw,am⟩
  |_,_,_,_,_=>none
 |_=>none
theorem uD{d:D}{w:Bool}(h:mh d=some w):d=.str (wayS w):=by
 unfold mh at h
 split at h
 ·
  split at h
  ·
   rename_i e;cases h;rw[e]
  ·
   split at h
   ·
    rename_i e;cases h;rw[e]
   ·
    cases h
 ·
  cases h
theorem xQ(w:Bool):mh (.str (wayS w))=some w:=by cases w<;>decide +kernel
theorem xR(d:D):wayB d=(mh d).isSome:=by
 unfold wayB mh
 cases d with
 | str z =>
  have e1:wayS true=Str.ofString "on":=rfl
  have e2:wayS false=Str.ofString "back":=rfl
  rw[← e1,← e2]
  by_cases h1:z=wayS true
  ·
   simp[h1]
  ·
   by_cases h2:z=wayS false
   ·
    simp[h1,h2]
    split<;>rfl
   ·
    simp[h1,h2]
 |_=>rfl
theorem uE{d:D}{k:Nat}(h:mi d=some k):d=.int (k:Int):=by
 unfold mi at h
 split at h
 ·
  split at h
  ·
   cases h
   congr 1
   omega
  ·
   cases h
 ·
  cases h
theorem xS(k:Nat):mi (.int (k:Int))=some k:=by
 show(if(0:Int)≤(k:Int)then some ((k:Int)).toNat else none)=_
 rw[if_pos (by omega)]
 rfl
theorem Af{d:D}{q:Rat}(h:qC d=some q):d=frD q:=by
 unfold qC at h
 split at h
 ·
  rename_i i j
  split at h
  ·
   rename_i e
   cases h
   show D.tup [.int i,.int j]=_
   have e':(decide (1≤j) && decide ((Int.gcd i j:Int)=1))=true:=e
   rw[Bool.and_eq_true,decide_eq_true_eq,decide_eq_true_eq]at e'
   obtain⟨h1,h2⟩:=e'
   have h3:Nat.gcd i.natAbs j.natAbs=1:=Int.ofNat_inj.mp h2
   obtain⟨m,rfl⟩:=Int.eq_ofNat_of_zero_le (show 0≤j by omega)
   have hm:m≠0:=by omega
   have h3':i.natAbs.Coprime m:=by rw[Int.natAbs_natCast]at h3;exact h3
   have em:Rat.divInt i (m:Int)=Rat.mk' i m hm h3':=by rw[Rat.mk_eq_divInt]
   rw[em]
   rfl
  ·
   cases h
 ·
  cases h
theorem Ag(q:Rat):ratB (frD q)=true:=by
 unfold frD ratB
 have h1:=q.den_pos
 have h2:=q.reduced
 unfold Nat.Coprime at h2
 rw[Bool.and_eq_true,decide_eq_true_eq,decide_eq_true_eq]
 refine⟨by omega,?_⟩
 show((Nat.gcd q.num.natAbs ((q.den:Int)).natAbs:Nat):Int)=1
 rw[Int.natAbs_natCast,h2]
 rfl
theorem Ah(q:Rat):qC (frD q)=some q:=by
 show(if ratB (.tup [.int q.num,.int (q.den:Int)])then some (Rat.divInt q.num (q.den:Int))else none)=_
 rw[show ratB (.tup [.int q.num,.int (q.den:Int)])=true from Ag q,if_pos rfl,Rat.num_divInt_den]
theorem Cw(d:D):ratB d=(qC d).isSome:=by
 by_cases h:∃i j,d=.tup [.int i,.int j]
 ·
  obtain⟨i,j,rfl⟩:=h
  show _=(if ratB (.tup [.int i,.int j])then some (Rat.divInt i j)else none).isSome
  cases e:ratB (.tup [.int i,.int j])<;>rfl
 ·
  have hn:∀i j,d≠.tup [.int i,.int j]:=fun i j e=>h ⟨i,j,e⟩
  rw[xH hn]
  unfold qC
  split
  ·
   exact absurd rfl (hn _ _)
  ·
   rfl
theorem i4(s:aI):slOf (slD s)=some s:=by
 simp only[slD,slOf,xS,xQ,Ah]
theorem xT{d:D}{s:aI}(h:slOf d=some s):d=slD s:=by
 unfold slOf at h
 split at h
 ·
  split at h
  ·
   rename_i h1 h2 h3 h4 h5
   cases h
   rw[uE h1,uD h2,uE h3,uD h4,Af h5]
   rfl
  ·
   cases h
 ·
  cases h
def mV(n:Nat)(d:D):Bool:=match slOf d with
 |some s=>decide (s.k<n) && decide (s.l<n)
 |none=>false
def oR(d:D)(n:Int):Bool:=match d with
 |.int i=>decide (0≤i∧i<n)
 |_=>false
theorem uF(d:D)(n:Nat):oR d (n:Int)=match mi d with|some k=>decide (k<n)|none=>false:=by
 unfold oR mi
 cases d with
 | int i =>
  by_cases h:0≤i
  ·
   simp only[h,if_true,true_and]
   rw[decide_eq_decide]
   omega
  ·
   simp only[h,if_false,false_and,decide_false]
 |_=>rfl
theorem Cy(n:Nat)(a b c d e:D):mV n (.tup [a,b,c,d,e])=(oR a n && (oR c n && (wayB b && (wayB d && ratB e)))):=by
 rw[uF,uF,xR,xR,Cw]
 unfold mV
 have e0:slOf (.tup [a,b,c,d,e])=match mi a,mh b,mi c,mh d,qC e with
  |some k,some kw,some l,some lw,some am=>some ⟨k,kw,l,lw,am⟩
  |_,_,_,_,_=>none:=rfl
 rw[e0]
 cases mi a<;>cases mh b<;>cases mi c<;>cases mh d<;>cases qC e<;>simp
theorem xU{n:Nat}{xs:List D}(h:xs.length≠5):mV n (.tup xs)=false:=by
 have:slOf (.tup xs)=none:=by
  unfold slOf
  split
  ·
   rename_i eq
   cases eq
   exact absurd rfl h
  ·
   rfl
 unfold mV
 rw[this]
theorem Ai{n:Nat}{d:D}(h:∀xs,d≠.tup xs):mV n d=false:=by
 have:slOf d=none:=by
  unfold slOf
  split
  ·
   exact absurd rfl (h _)
  ·
   rfl
 unfold mV
 rw[this]
theorem five{xs:List D}(h:xs.length=5):∃a b c d e,xs=[a,b,c,d,e]:=by
 match xs,h with
 |[a,b,c,d,e],_=>exact⟨a,b,c,d,e,rfl⟩
def slT(R:Ring)(ps:List Rat)(d:D):Bool:=match slOf d with
 |some s=>decide (s.k<ps.length) && (decide (s.l<ps.length) && slB R ps s)
 |none=>false
theorem xV{R:Ring}{ps:List Rat}{s:aI}(hk:s.k<ps.length)(hl:s.l<ps.length):slT R ps (slD s)=slB R ps s:=by
 unfold slT
 rw[i4]
 simp[hk,hl]
theorem AW{R:Ring}{ps:List Rat}{d:D}(h:slT R ps d=true):∃s,d=slD s∧s.k<ps.length∧s.l<ps.length∧slB R ps s=true:=by
 unfold slT at h
 split at h
 ·
  rename_i s e
  rw[Bool.and_eq_true,Bool.and_eq_true,decide_eq_true_eq,decide_eq_true_eq]at h
  exact⟨s,xT e,h.1,h.2.1,h.2.2⟩
 ·
  cases h
end My
set_option exponentiation.threshold 5000
namespace My
open PySem L2
theorem Cz{R:Ring}{ps:List Rat}{s:aI}(h:SlOk R ps)(e:nxtS R ps=some s){D:Nat}(d0:0<D)(da:∀a∈R.asks,a.size.den∣D)(dp:∀p∈ps,p.den∣D):s.am.den∣D:=by
 unfold nxtS at e
 cases e1:fsB (crA R) (ptL R ps)with
 |none=>rw[e1]at e;cases e
 | some p =>
  obtain⟨k,l⟩:=p
  rw[e1]at e
  obtain⟨hk,hl,hkl,hc⟩:=lK (xM R ps) e1
  obtain⟨hk1,hk2⟩:=jL hk
  obtain⟨hl1,hl2⟩:=jL hl
  have ee:gsl R ps k l (bc R.n (aY R k) (aY R l))=s:=Option.some.inj e
  subst ee
  show(msQ R ps k _ l _).den∣D
  rcases(h.ms hk1 hl1 (bc R.n (aY R k) (aY R l)).1 (bc R.n (aY R k) (aY R l)).2).2.2.2 with z|z
  ·
   rw[z];exact nP h hk1 _ d0 da dp
  ·
   rw[z];exact nP h hl1 _ d0 da dp
theorem D8{R:Ring}{ps:List Rat}(h:SlOk R ps){k l:Nat}(hk:k<ps.length)(hl:l<ps.length)(kw lw:Bool):0≤msQ R ps k kw l lw∧msQ R ps k kw l lw<((2^300:Nat):Rat):=by
 obtain⟨m0,m1,_⟩:=h.ms hk hl kw lw
 refine⟨m0,rlt m1 (rlt (h.ns hk kw).2 ?_)⟩
 have hk':k<R.asks.length:=by rw[← h.len];exact hk
 rw[i3 hk']
 exact(h.ok.ask _ (List.getElem_mem hk')).lt
theorem Aj{R:Ring}{ps:List Rat}{D:Nat}{s:aI}{v:Nat}(hS:SlOk R ps)(d0:0<D)(d1:D*12<2^1500)(da:∀a∈R.asks,a.size.den∣D)(dp:∀p∈ps,p.den∣D)(hk:s.k<ps.length)(hl:s.l<ps.length)(v1:1≤v)(v2:v≤12)
  (e:s.am=Rat.divInt ((msQ R ps s.k s.kw s.l s.lw).num*v) (((msQ R ps s.k s.kw s.l s.lw).den:Int)*12)):RB 1800 s.am∧s.am.den∣D*12:=by
 obtain⟨m0,m1⟩:=D8 hS hk hl s.kw s.lw
 have md:(msQ R ps s.k s.kw s.l s.lw).den∣D:=by
  rcases(hS.ms hk hl s.kw s.lw).2.2.2 with z|z
  ·
   rw[z];exact nP hS hk _ d0 da dp
  ·
   rw[z];exact nP hS hl _ d0 da dp
 generalize msQ R ps s.k s.kw s.l s.lw=m at *
 have e':s.am=m*Rat.divInt v 12:=by rw[e,← Rat.divInt_mul_divInt,Rat.num_divInt_den]
 have hd:s.am.den∣D*12:=by
  rw[e']
  refine Nat.dvd_trans (iZ _ _) (Nat.mul_dvd_mul md ?_)
  have:=oP (t:=(v:Int)) (b:=12) (by decide)
  exact this
 have f0:0≤Rat.divInt (v:Int) 12:=Rat.divInt_nonneg (by omega) (by decide)
 have f1:0≤1-Rat.divInt (v:Int) 12:=by
  have e1:1-Rat.divInt (v:Int) 12=Rat.divInt (12-(v:Int)) 12:=by
   have:(1:Rat)=Rat.divInt 12 12:=rfl
   rw[this,Rat.divInt_sub_divInt _ _ (by decide) (by decide),Rat.divInt_eq_divInt_iff (by decide) (by decide)]
   omega
  rw[e1]
  exact Rat.divInt_nonneg (by omega) (by decide)
 have g0:=Rat.mul_nonneg m0 f0
 have g1:=Rat.mul_nonneg m0 f1
 refine⟨uz (by rw[e'];exact g0) (rlt ?_ m1) (by omega) d1 hd,hd⟩
 rw[e']
 grind
end My
set_option exponentiation.threshold 5000
namespace My
open PySem L2
structure SlV (R:Ring) (qs:List Rat) (s:aI):Prop where
 k:s.k<qs.length
 l:s.l<qs.length
 kl:s.k≠s.l
 nt:gp R.n (aY R s.k) s.kw (aY R s.l) s.lw=true
 pos:0<s.am
 kn:s.am≤nsQ R qs s.k s.kw
 ln:s.am≤nsQ R qs s.l s.lw
theorem SlV.b{R:Ring}{qs:List Rat}{s:aI}(h:SlV R qs s):slB R qs s=true:=by
 have hm:¬msQ R qs s.k s.kw s.l s.lw<s.am:=by
  unfold msQ
  split
  ·
   exact Rat.not_lt.mpr h.ln
  ·
   exact Rat.not_lt.mpr h.kn
 unfold slB
 rw[decide_eq_false h.kl,h.nt,decide_eq_true h.pos,decide_eq_false hm]
 rfl
theorem SlV.of{R:Ring}{qs:List Rat}{s:aI}(hS:SlOk R qs)(hk:s.k<qs.length)(hl:s.l<qs.length)(h:slB R qs s=true):SlV R qs s:=by
 unfold slB at h
 simp only[Bool.and_eq_true,Bool.not_eq_true',decide_eq_false_iff_not,decide_eq_true_eq]at h
 obtain⟨e1,e2,e3,e4⟩:=h
 obtain⟨_,m2,m3,_⟩:=hS.ms hk hl s.kw s.lw
 have le:=Rat.not_lt.mp e4
 exact⟨hk,hl,e1,e2,e3,Rat.le_trans le m2,Rat.le_trans le m3⟩
def Vs(R:Ring):List Rat→List aI→Prop
 |_,[]=>True
 |qs,s::ss=>SlV R qs s∧Vs R (slL qs s) ss
def runL(qs:List Rat)(ss:List aI):List Rat:=ss.foldl slL qs
theorem Vs.app{R:Ring}:∀{ss ts:List aI}{qs:List Rat},Vs R qs ss→Vs R (runL qs ss) ts→Vs R qs (ss++ts)
 |[],_,_,_,h=>h
 |s::ss,ts,qs,h,h2=>⟨h.1,Vs.app (ss:=ss) h.2 h2⟩
theorem Vs.unapp{R:Ring}:∀{ss ts:List aI}{qs:List Rat},Vs R qs (ss++ts)→Vs R qs ss∧Vs R (runL qs ss) ts
 |[],_,_,h=>⟨trivial,h⟩
 | s::ss,ts,qs,h=>by
  have:=Vs.unapp (ss:=ss) h.2
  exact⟨⟨h.1,this.1⟩,this.2⟩
theorem jN(qs:List Rat)(ss ts:List aI):runL qs (ss++ts)=runL (runL qs ss) ts:=List.foldl_append ..
theorem uG{as bs:List Rat}(hl:as.length=bs.length)(h:∀i,i<as.length→as.getD i 0=bs.getD i 0):as=bs:=by
 refine List.ext_getElem hl fun i h1 h2=>?_
 have:=h i h1
 rw[List.getD_eq_getElem?_getD,List.getElem?_eq_getElem h1,List.getD_eq_getElem?_getD,List.getElem?_eq_getElem h2]at this
 exact this
theorem uH{R:Ring}{qs:List Rat}{s:aI}(hk:s.k<qs.length)(hl:s.l<qs.length)(hkl:s.k≠s.l){i:Nat}(h1:i≠s.k)(h2:i≠s.l)(w:Bool):nsQ R (slL qs s) i w=nsQ R qs i w:=by
 unfold nsQ
 rw[eN hk hl hkl,if_neg h1,if_neg h2]
def hfS(s:aI):aI:={s with am:=s.am / 2}
theorem Ak{a:Rat}(h:0<a):0<a / 2∧a / 2≤a:=by constructor<;>grind
theorem xW(p a:Rat)(w:Bool):bhQ (bhQ p w (a / 2)) w (a / 2)=bhQ p w a:=by
 unfold bhQ
 cases w
 ·
  show p-a / 2-a / 2=p-a
  grind
 ·
  show p+a / 2+a / 2=p+a
  grind
theorem SlV.half{R:Ring}{qs:List Rat}{s:aI}(h:SlV R qs s):SlV R qs (hfS s)∧SlV R (slL qs (hfS s)) (hfS s)∧slL (slL qs (hfS s)) (hfS s)=slL qs s:=by
 obtain⟨p1,p2⟩:=Ak h.pos
 have h1:SlV R qs (hfS s):=⟨h.k,h.l,h.kl,h.nt,p1,Rat.le_trans p2 h.kn,Rat.le_trans p2 h.ln⟩
 have at_:∀i,(slL qs (hfS s)).getD i 0=if i=s.k then bhQ (qs.getD s.k 0) s.kw (s.am / 2)else if i=s.l then bhQ (qs.getD s.l 0) s.lw (s.am / 2)else qs.getD i 0:=fun i=>eN (s:=hfS s) h1.k h1.l h1.kl i
 have hl:(slL qs (hfS s)).length=qs.length:=bz _ _
 have k2:s.k<(slL qs (hfS s)).length:=by rw[hl];exact h.k
 have l2:s.l<(slL qs (hfS s)).length:=by rw[hl];exact h.l
 have nk:nsQ R (slL qs (hfS s)) s.k s.kw=nsQ R qs s.k s.kw-s.am / 2:=by
  unfold nsQ
  rw[at_,if_pos rfl]
  unfold bhQ
  show(if s.kw=true then R.sz s.k-(if s.kw=true then qs.getD s.k 0+s.am / 2 else qs.getD s.k 0-s.am / 2)else(if s.kw=true then qs.getD s.k 0+s.am / 2 else qs.getD s.k 0-s.am / 2))=_
  cases s.kw
  ·
   rfl
  ·
   show R.sz s.k-(qs.getD s.k 0+s.am / 2)=R.sz s.k-qs.getD s.k 0-s.am / 2
   grind
 have nl:nsQ R (slL qs (hfS s)) s.l s.lw=nsQ R qs s.l s.lw-s.am / 2:=by
  unfold nsQ
  rw[at_,if_neg (Ne.symm h.kl),if_pos rfl]
  unfold bhQ
  show(if s.lw=true then R.sz s.l-(if s.lw=true then qs.getD s.l 0+s.am / 2 else qs.getD s.l 0-s.am / 2)else(if s.lw=true then qs.getD s.l 0+s.am / 2 else qs.getD s.l 0-s.am / 2))=_
  cases s.lw
  ·
   rfl
  ·
   show R.sz s.l-(qs.getD s.l 0+s.am / 2)=R.sz s.l-qs.getD s.l 0-s.am / 2
   grind
 have a1:=h.kn
 have a2:=h.ln
 refine⟨h1,⟨k2,l2,h.kl,h.nt,p1,?_,?_⟩,?_⟩
 ·
  show s.am / 2≤nsQ R (slL qs (hfS s)) s.k s.kw
  rw[nk]
  generalize nsQ R qs s.k s.kw=x at a1
  grind
 ·
  show s.am / 2≤nsQ R (slL qs (hfS s)) s.l s.lw
  rw[nl]
  generalize nsQ R qs s.l s.lw=x at a2
  grind
 ·
  refine uG (by rw[bz,bz,bz]) fun i hi=>?_
  have bt:(slL (slL qs (hfS s)) (hfS s)).getD i 0=if i=s.k then bhQ ((slL qs (hfS s)).getD s.k 0) s.kw (s.am / 2)else if i=s.l then bhQ ((slL qs (hfS s)).getD s.l 0) s.lw (s.am / 2)else(slL qs (hfS s)).getD i 0:=eN (s:=hfS s) k2 l2 h.kl i
  rw[bt,eN h.k h.l h.kl,at_ s.k,at_ s.l,at_ i,if_pos (rfl:s.k=s.k),if_neg (Ne.symm h.kl),if_pos (rfl:s.l=s.l),xW,xW]
  by_cases c1:i=s.k
  ·
   rw[if_pos c1,if_pos c1]
  ·
   rw[if_neg c1,if_neg c1,if_neg c1]
   by_cases c2:i=s.l
   ·
    rw[if_pos c2,if_pos c2]
   ·
    rw[if_neg c2,if_neg c2,if_neg c2]
def hvL:List aI→List aI
 |[]=>[]
 |s::ss=>hfS s::hfS s::hvL ss
theorem xX:∀(ss:List aI)(s:aI),hvL (ss++[s])=hvL ss++[hfS s,hfS s]
 |[],_=>rfl
 | t::ss,s=>by
  show hfS t::hfS t::hvL (ss++[s])=hfS t::hfS t::(hvL ss++[hfS s,hfS s])
  rw[xX ss s]
theorem sH:∀ss:List aI,(hvL ss).length=2*ss.length
 |[]=>rfl
 | s::ss=>by
  show(hvL ss).length+1+1=2*(ss.length+1)
  rw[sH ss]
  omega
theorem xY:∀{ss:List aI}{t:aI},t∈hvL ss→∃s∈ss,t=hfS s
 |[],_,h=>by cases h
 | s::ss,t,h=>by
  rcases List.mem_cons.mp h with e|h
  ·
   exact⟨s,List.mem_cons_self,e⟩
  ·
   rcases List.mem_cons.mp h with e|h
   ·
    exact⟨s,List.mem_cons_self,e⟩
   ·
    obtain⟨u,hu,e⟩:=xY h
    exact⟨u,List.mem_cons_of_mem _ hu,e⟩
theorem Vs.halves{R:Ring}:∀{ss:List aI}{qs:List Rat},Vs R qs ss→Vs R qs (hvL ss)∧runL qs (hvL ss)=runL qs ss
 |[],_,_=>⟨trivial,rfl⟩
 | s::ss,qs,h=>by
  obtain⟨a,b,e⟩:=h.1.half
  obtain⟨c,d⟩:=Vs.halves (ss:=ss) h.2
  rw[← e]at c d
  refine⟨⟨a,b,c⟩,?_⟩
  show runL (slL (slL qs (hfS s)) (hfS s)) (hvL ss)=runL (slL qs s) ss
  rw[d,e]
theorem SlV.swap{R:Ring}{qs:List Rat}{s t:aI}(h1:SlV R qs s)(h2:SlV R (slL qs s) t)(n1:t.k≠s.k)(n2:t.k≠s.l)(n3:t.l≠s.k)(n4:t.l≠s.l):SlV R qs t∧SlV R (slL qs t) s∧slL (slL qs t) s=slL (slL qs s) t:=by
 have tk:t.k<qs.length:=by have:=h2.k;rwa [bz]at this
 have tl:t.l<qs.length:=by have:=h2.l;rwa [bz]at this
 have kn:=h2.kn
 have ln:=h2.ln
 rw[uH h1.k h1.l h1.kl n1 n2]at kn
 rw[uH h1.k h1.l h1.kl n3 n4]at ln
 have ht:SlV R qs t:=⟨tk,tl,h2.kl,h2.nt,h2.pos,kn,ln⟩
 have sk:s.k<(slL qs t).length:=by rw[bz];exact h1.k
 have sl:s.l<(slL qs t).length:=by rw[bz];exact h1.l
 refine⟨ht,⟨sk,sl,h1.kl,h1.nt,h1.pos,?_,?_⟩,uG (by rw[bz,bz,bz,bz]) fun i hi=>?_⟩
 ·
  rw[uH tk tl h2.kl (Ne.symm n1) (Ne.symm n3)]
  exact h1.kn
 ·
  rw[uH tk tl h2.kl (Ne.symm n2) (Ne.symm n4)]
  exact h1.ln
 ·
  have A:=fun i=>eN h1.k h1.l h1.kl i
  have B:=fun i=>eN tk tl h2.kl i
  rw[eN sk sl h1.kl,eN h2.k h2.l h2.kl,B s.k,B s.l,A t.k,A t.l,A i,B i]
  rw[if_neg (Ne.symm n1),if_neg (Ne.symm n3),if_neg (Ne.symm n2),if_neg (Ne.symm n4),if_neg n1,if_neg n2,if_neg n3,if_neg n4]
  by_cases c1:i=s.k
  ·
   subst c1
   rw[if_pos rfl,if_neg (Ne.symm n1),if_neg (Ne.symm n3),if_pos rfl]
  ·
   rw[if_neg c1]
   by_cases c2:i=s.l
   ·
    subst c2
    rw[if_pos rfl,if_neg (Ne.symm n2),if_neg (Ne.symm n4),if_neg c1,if_pos rfl]
   ·
    rw[if_neg c2,if_neg c1,if_neg c2]
end My
set_option exponentiation.threshold 1000
namespace Hd
open PySem PySem.W PyProof.Rows
abbrev pr:Program:=PySem.Challenge.pw_ringloads_k33_whole_slides_by_halves
def top(i:Nat):Stmt:=pr.main.body.getD i (.Pass ⟨0,0,0,0⟩)
def inCls(st:Stmt)(j:Nat):Stmt:=match st with
 |.ClassDef _ _ _ b ..=>b.getD j (.Pass ⟨0,0,0,0⟩)
 |_=>.Pass ⟨0,0,0,0⟩
def xZ(s:Stmt):Str:=match s with
 |.FunctionDef n ..=>n
 |_=>""
def D9(s:Stmt):Arguments:=match s with
 |.FunctionDef _ a _ _ _ _ _ _ _ _=>a
 |_=>{posonlyargs:=[],args:=[],vararg:=none,kwonlyargs:=[],kw_defaults:=[],kwarg:=none,defaults:=[] }
def Fh(s:Stmt):List Stmt:=match s with
 |.FunctionDef _ _ b _ _ _ _ _ _ _=>b
 |_=>[]
def Ea(s:Stmt):Scope:=match s with
 |.FunctionDef _ _ _ _ _ _ sc _ _ _=>sc
 |_=>{kind:=.function,names:=[],isGenerator:=false,isCoroutine:=false}
def dPos(s:Stmt):Pos:=match s with
 |.FunctionDef _ _ _ _ _ _ _ _ _ p=>p
 |_=>⟨0,0,0,0⟩
def fdOf (st:Stmt) (q:Str) (g:Addr) (md cd:Value):FuncData:={ name:=xZ st,qualname:=q,params:=D9 st,body:=.stmts (Fh st),scope:=Ea st,globals:=g,closure:=[],defaults:=.none,kwdefaults:=.none,doc:=.none,pyModule:=md,annotations:=none,code:=cd,closureTuple:=.none,builtins:=0 }
noncomputable def kh(P:Params)(x:Str):Int:=PySem.PyData.keyHash P x
def tupO(vs:List Value):Obj:=⟨.type "tuple",none,.seq vs.toArray 0,#[]⟩
def fldO(vs:List Value):Obj:=⟨.none,none,.fields vs.toArray,#[]⟩
def numb:Nat→List Str→List Value
 |_,[]=>[]
 |t,x::r=>.str x t::numb (t+1) r
noncomputable def Eb(st:Stmt)(a t:Nat)(v1 v2:Value)(tm u:Nat):Obj:=⟨.type "code",none,.fields #[.str (xZ st) t,.str (xZ st) (t+1),.str "/claim/cut.py" (t+2),.int (dPos st).line 0,.int (D9 st).args.length 0,.int 0 0,.int 0 0,.int 3 0,.ref a,.bool true,.int 181 0,.ref (a+1),.none,v1,v2,.ref tm,.int u 0,.int (dPos st).line 0,.str "/claim/cut.py" (u+1)],#[]⟩
def fnO(st:Stmt)(md:Value)(cd:Nat):Obj:=⟨.type "function",none,.func (fdOf st (xZ st) 3 md (.ref cd)),#[]⟩
def tmO(st:Stmt):Obj:=⟨.none,none,.func (fdOf st (xZ st) 0 .none .none),#[]⟩
noncomputable def bA(st:Stmt)(a t:Nat)(vs:List Str)(md:Value):List Obj:=[tupO [],fldO [],tupO (numb (t+3) vs),tupO [],tmO st,Eb st a t (.ref (a+2)) (.ref (a+3)) (a+4) (t+3+vs.length),fnO st md (a+5)]
noncomputable def Al(st:Stmt)(a t:Nat)(md:Value):List Obj:=[tupO [],fldO [],tmO st,Eb st a t .none .none (a+2) (t+3),fnO st md (a+3)]
noncomputable def vo (P:Params) (nm:Value) (es:List DictEntry) (n:Nat):Obj:=⟨.type "dict",none,.dict (([⟨kh P "__name__",.str "__name__" 165,nm⟩,⟨kh P "__doc__",.str "__doc__" 166,.none⟩,⟨kh P "__package__",.str "__package__" 167,.none⟩,⟨kh P "__loader__",.str "__loader__" 168,.builtin "__main__.__loader__#opaque"⟩,⟨kh P "__spec__",.str "__spec__" 169,.none⟩,⟨kh P "__annotations__",.str "__annotations__" 170,.ref 6⟩,⟨kh P "__builtins__",.str "__builtins__" 171,.ref 4⟩,⟨kh P "__file__",.str "__file__" 173,.str "/claim/cut.py" 172⟩,⟨kh P "__cached__",.str "__cached__" 174,.none⟩]:List DictEntry)++es).toArray n,#[]⟩
noncomputable def modO:Obj:=⟨.type "code",none,.fields #[.str "<module>" 182,.str "<module>" 183,.str "/claim/cut.py" 184,.int 1 0,.int 0 0,.int 0 0,.int 0 0,.int 0 0,.ref 11,.bool false,.int 181 0,.ref 12,.none,.none,.none,.none,.int 185 0,.int 1 0,.str "/claim/cut.py" 186],#[]⟩
noncomputable def frmO:Obj:=⟨.type "frame",none,.plain,#[some (.ref 13),some (.ref 3),some (.ref 3),none,some (.str "__main__" 164),none,some (.ref 0)]⟩
noncomputable def CA(P:Params):List Obj:=[boot_o_0 P,boot_o_1 P,boot_o_2 P,boot_o_3 P,boot_o_4 P,boot_o_5 P,boot_o_6 P,boot_o_7 P,boot_o_8 P,boot_o_9 P,boot_o_10 P,tupO [],fldO [],modO,frmO]
def mW:Life:=⟨[],[],[],0,[],[],false,#[],[],0,false,false,false,0,[2000,10,10],false,0,true,[],[],0,false⟩
noncomputable def Fi(l:List (Nat×Obj))(b:Nat):Option Obj:=@List.rec (Nat×Obj) (fun _=>Option Obj) none (fun x _ ih=>bif Nat.beq x.1 b then some x.2 else ih) l
noncomputable def Ec(P:Params)(ob:Params→Nat→Obj)(b:Nat):Obj:=bif b.blt 15 then(CA P).getD b default else ob P b
noncomputable def memN(l:List Nat)(b:Nat):Bool:=@List.rec Nat (fun _=>Bool) false (fun x _ ih=>@Bool.rec (fun _=>Bool) ih true (Nat.beq x b)) l
noncomputable def obAt(ks:List Nat)(P:Params)(ov:List (Nat×Obj))(ob:Params→Nat→Obj)(b j:Nat):Obj:=@Bool.rec (fun _=>Obj) (Ec P ob b) ((Fi ov b).getD default) (memN ks b)
noncomputable def L0(n:Nat)(f:Nat→Obj)(a b j:Nat):BT:=.nil
noncomputable def L1(n:Nat)(f:Nat→Obj)(a b j:Nat):BT:=@Bool.rec (fun _=>BT) .nil (.node (f b) (L0 n f (2*a) (a+b) j) (L0 n f (2*a) (2*a+b) j)) (b.blt n)
noncomputable def L2(n:Nat)(f:Nat→Obj)(a b j:Nat):BT:=@Bool.rec (fun _=>BT) .nil (.node (f b) (L1 n f (2*a) (a+b) j) (L1 n f (2*a) (2*a+b) j)) (b.blt n)
noncomputable def L3(n:Nat)(f:Nat→Obj)(a b j:Nat):BT:=@Bool.rec (fun _=>BT) .nil (.node (f b) (L2 n f (2*a) (a+b) j) (L2 n f (2*a) (2*a+b) j)) (b.blt n)
noncomputable def L4(n:Nat)(f:Nat→Obj)(a b j:Nat):BT:=@Bool.rec (fun _=>BT) .nil (.node (f b) (L3 n f (2*a) (a+b) j) (L3 n f (2*a) (2*a+b) j)) (b.blt n)
noncomputable def L5(n:Nat)(f:Nat→Obj)(a b j:Nat):BT:=@Bool.rec (fun _=>BT) .nil (.node (f b) (L4 n f (2*a) (a+b) j) (L4 n f (2*a) (2*a+b) j)) (b.blt n)
noncomputable def L6(n:Nat)(f:Nat→Obj)(a b j:Nat):BT:=@Bool.rec (fun _=>BT) .nil (.node (f b) (L5 n f (2*a) (a+b) j) (L5 n f (2*a) (2*a+b) j)) (b.blt n)
noncomputable def L7(n:Nat)(f:Nat→Obj)(a b j:Nat):BT:=@Bool.rec (fun _=>BT) .nil (.node (f b) (L6 n f (2*a) (a+b) j) (L6 n f (2*a) (2*a+b) j)) (b.blt n)
noncomputable def L8(n:Nat)(f:Nat→Obj)(a b j:Nat):BT:=@Bool.rec (fun _=>BT) .nil (.node (f b) (L7 n f (2*a) (a+b) j) (L7 n f (2*a) (2*a+b) j)) (b.blt n)
noncomputable def L9(n:Nat)(f:Nat→Obj)(a b j:Nat):BT:=@Bool.rec (fun _=>BT) .nil (.node (f b) (L8 n f (2*a) (a+b) j) (L8 n f (2*a) (2*a+b) j)) (b.blt n)
noncomputable def L10(n:Nat)(f:Nat→Obj)(a b j:Nat):BT:=@Bool.rec (fun _=>BT) .nil (.node (f b) (L9 n f (2*a) (a+b) j) (L9 n f (2*a) (2*a+b) j)) (b.blt n)
noncomputable def L11(n:Nat)(f:Nat→Obj)(a b j:Nat):BT:=@Bool.rec (fun _=>BT) .nil (.node (f b) (L10 n f (2*a) (a+b) j) (L10 n f (2*a) (2*a+b) j)) (b.blt n)
noncomputable def L12(n:Nat)(f:Nat→Obj)(a b j:Nat):BT:=@Bool.rec (fun _=>BT) .nil (.node (f b) (L11 n f (2*a) (a+b) j) (L11 n f (2*a) (2*a+b) j)) (b.blt n)
theorem nQ{p:Program}{w:World}{m:Nat}{ann:Option Value}{b n:Nat}{s:SharedT}{t:Thread}{r:Option (Flow×SharedT×Code×Pos)}(h:Fast.tw10110043849684766642 Fast.tw14364793385576792824 p w m ann b n s t=r):segRunT treeTable p w m ann b n s t=r:=by
 rw[Fast.te10110043849684766642,Fast.te14364793385576792824];exact h
theorem Ed{p:Program}{w:World}{m:Nat}{ann:Option Value}{n:Nat}{s:Shared}{t:Thread}{r:Option Shared}(h:Fast.tw14082659384304107361 Fast.tw14364793385576792824 p w m ann n s t=r):topRun treeTable p w m ann n s t=r:=by
 rw[Fast.te14082659384304107361,Fast.te14364793385576792824];exact h
theorem Ee:denote treeTable=Fast.tw11892475500146522536 Fast.tw14364793385576792824:=by rw[← Fast.te11892475500146522536,← Fast.te14364793385576792824]
theorem Fj{p:Program}{w:World}{m:Nat}{ann:Option Value}{n:Nat}{s:Shared}{t:Thread}{r:Option (Shared×Thread)}(h:Fast.tw15667345088766844465 Fast.tw14364793385576792824 p w m ann n s t=r):topGo treeTable p w m ann n s t=r:=by
 rw[Fast.te15667345088766844465,Fast.te14364793385576792824];exact h
theorem CB{b b':List Stmt}(e:b=b'){tb:String→Option Builtin}{p:Program}{w:World}{m:Nat}{ann:Option Value}{n:Nat}{s:Shared}{env:Env}{c:Code}{ps:Pos}{B:List Frame}{r:Option Shared}(h:topRun tb p w m ann n s (restOf b' env c ps B)=r):topRun tb p w m ann n s (restOf b env c ps B)=r:=by rw[e];exact h
noncomputable def f1(P:Params):List Obj:=bA (top 1) 15 189 ["one","other","rest"] (.str "ringloads.divisors" 187)
noncomputable def f3(P:Params):List Obj:=[(Obj.mk (.type "tuple") none (.seq #[(.type "ValueError")] 0) #[]),
 (Obj.mk (.type "builtin_function_or_method") none (.fields #[(.builtin "type.__prepare__"),(.type "type")]) #[]),
 (Obj.mk (.type "dict") none (.dict #[(DictEntry.mk (kh P "__module__") (.str "__module__" 207) (.str "ringloads.errors" 198)),(DictEntry.mk (kh P "__qualname__") (.str "__qualname__" 209) (.str "LoadError" 208)),(DictEntry.mk (kh P "__firstlineno__") (.str "__firstlineno__" 211) (.int 9 210)),(DictEntry.mk (kh P "__init__") (.str "__init__" 219) (.ref 35)),(DictEntry.mk (kh P "__static_attributes__") (.str "__static_attributes__" 220) (.ref 36))] 5) #[]),
 (Obj.mk (.type "tuple") none (.seq #[] 0) #[]),
 (Obj.mk .none none (.fields #[(.int 11 0),(.int 4 0),(.ref 34)]) #[]),
 (Obj.mk (.type "code") none (.fields #[(.str "LoadError" 202),(.str "LoadError" 203),(.str "/claim/cut.py" 204),(.int 9 0),(.int 0 0),(.int 0 0),(.int 0 0),(.int 0 0),(.ref 25),(.bool false),(.int 181 0),(.ref 26),.none,.none,.none,.none,(.int 205 0),(.int 9 0),(.str "/claim/cut.py" 206)]) #[]),
 (Obj.mk (.type "frame") none .plain #[(some (.ref 27)),(some (.ref 3)),(some (.ref 24)),none,(some (.str "ringloads.errors" 198)),none,(some (.ref 0))]),
 (Obj.mk (.type "tuple") none (.seq #[] 0) #[]),
 (Obj.mk .none none (.fields #[]) #[]),
 (Obj.mk (.type "tuple") none (.seq #[(.str "self" 215),(.str "text" 216)] 0) #[]),
 (Obj.mk (.type "tuple") none (.seq #[] 0) #[]),
 (Obj.mk .none none (.func (fdOf (inCls (top 3) 0) "LoadError.__init__" 0 .none .none)) #[]),
 (Obj.mk (.type "code") none (.fields #[(.str "__init__" 212),(.str "LoadError.__init__" 213),(.str "/claim/cut.py" 214),(.int 11 0),(.int 2 0),(.int 0 0),(.int 0 0),(.int 3 0),(.ref 29),(.bool true),(.int 181 0),(.ref 30),.none,(.ref 31),(.ref 32),(.ref 33),(.int 217 0),(.int 11 0),(.str "/claim/cut.py" 218)]) #[]),
 (Obj.mk (.type "function") none (.func (fdOf (inCls (top 3) 0) "LoadError.__init__" 3 (.str "ringloads.errors" 198) (.ref 34))) #[]),
 (Obj.mk (.type "tuple") none (.seq #[] 0) #[]),
 (Obj.mk (.type "dict") none (.dict #[(DictEntry.mk (kh P "__module__") (.str "__module__" 207) (.str "ringloads.errors" 198)),(DictEntry.mk (kh P "__firstlineno__") (.str "__firstlineno__" 211) (.int 9 210)),(DictEntry.mk (kh P "__init__") (.str "__init__" 219) (.ref 35)),(DictEntry.mk (kh P "__static_attributes__") (.str "__static_attributes__" 220) (.ref 36)),(DictEntry.mk (kh P "__weakref__") (.str "__weakref__" 222) (.ref 39)),(DictEntry.mk (kh P "__doc__") (.str "__doc__" 223) .none)] 3) #[]),
 (Obj.mk (.type "type") none (.cls (PySem.ClassData.mk "LoadError" [(.type "ValueError")] [(.ref 38),(.type "ValueError"),(.type "Exception"),(.type "BaseException"),(.type "object")] 37 "LoadError" true [] [(.ref 58)] false none false)) #[(some (.ref 22)),none,(some (.str "LoadError" 200)),(some (.str "LoadError" 208)),(some (.builtin "ValueError.__new__")),(some (.bool true))]),
 (Obj.mk (.type "getset_descriptor") none (.fields #[(.str "__weakref__" 221),(.ref 38),(.builtin "ExceptionGroup.__weakref__"),.none]) #[]),
 (Obj.mk (.type "super") none (.fields #[(.ref 38),(.ref 38),(.ref 38)]) #[]),
 (Obj.mk (.type "builtin_function_or_method") none (.fields #[(.builtin "object.__init_subclass__"),(.ref 38)]) #[])]
noncomputable def f4(P:Params):List Obj:=[(Obj.mk (.type "tuple") none (.seq #[(.ref 38)] 0) #[]),
 (Obj.mk (.type "builtin_function_or_method") none (.fields #[(.builtin "type.__prepare__"),(.type "type")]) #[]),
 (Obj.mk (.type "dict") none (.dict #[(DictEntry.mk (kh P "__module__") (.str "__module__" 233) (.str "ringloads.errors" 198)),(DictEntry.mk (kh P "__qualname__") (.str "__qualname__" 235) (.str "NoSlide" 234)),(DictEntry.mk (kh P "__firstlineno__") (.str "__firstlineno__" 237) (.int 13 236)),(DictEntry.mk (kh P "__init__") (.str "__init__" 245) (.ref 55)),(DictEntry.mk (kh P "__static_attributes__") (.str "__static_attributes__" 247) (.ref 56))] 5) #[]),
 (Obj.mk (.type "tuple") none (.seq #[] 0) #[]),
 (Obj.mk .none none (.fields #[(.int 15 0),(.int 4 0),(.ref 54)]) #[]),
 (Obj.mk (.type "code") none (.fields #[(.str "NoSlide" 228),(.str "NoSlide" 229),(.str "/claim/cut.py" 230),(.int 13 0),(.int 0 0),(.int 0 0),(.int 0 0),(.int 0 0),(.ref 45),(.bool false),(.int 181 0),(.ref 46),.none,.none,.none,.none,(.int 231 0),(.int 13 0),(.str "/claim/cut.py" 232)]) #[]),
 (Obj.mk (.type "frame") none .plain #[(some (.ref 47)),(some (.ref 3)),(some (.ref 44)),none,(some (.str "ringloads.errors" 198)),none,(some (.ref 0))]),
 (Obj.mk (.type "tuple") none (.seq #[] 0) #[]),
 (Obj.mk .none none (.fields #[]) #[]),
 (Obj.mk (.type "tuple") none (.seq #[(.str "self" 241),(.str "number" 242)] 0) #[]),
 (Obj.mk (.type "tuple") none (.seq #[] 0) #[]),
 (Obj.mk .none none (.func (fdOf (inCls (top 4) 0) "NoSlide.__init__" 0 .none .none)) #[]),
 (Obj.mk (.type "code") none (.fields #[(.str "__init__" 238),(.str "NoSlide.__init__" 239),(.str "/claim/cut.py" 240),(.int 15 0),(.int 2 0),(.int 0 0),(.int 0 0),(.int 3 0),(.ref 49),(.bool true),(.int 181 0),(.ref 50),.none,(.ref 51),(.ref 52),(.ref 53),(.int 243 0),(.int 15 0),(.str "/claim/cut.py" 244)]) #[]),
 (Obj.mk (.type "function") none (.func (fdOf (inCls (top 4) 0) "NoSlide.__init__" 3 (.str "ringloads.errors" 198) (.ref 54))) #[]),
 (Obj.mk (.type "tuple") none (.seq #[(.str "number" 246)] 0) #[]),
 (Obj.mk (.type "dict") none (.dict #[(DictEntry.mk (kh P "__module__") (.str "__module__" 233) (.str "ringloads.errors" 198)),(DictEntry.mk (kh P "__firstlineno__") (.str "__firstlineno__" 237) (.int 13 236)),(DictEntry.mk (kh P "__init__") (.str "__init__" 245) (.ref 55)),(DictEntry.mk (kh P "__static_attributes__") (.str "__static_attributes__" 247) (.ref 56)),(DictEntry.mk (kh P "__doc__") (.str "__doc__" 248) .none)] 2) #[]),
 (Obj.mk (.type "type") none (.cls (PySem.ClassData.mk "NoSlide" [(.ref 38)] [(.ref 58),(.ref 38),(.type "ValueError"),(.type "Exception"),(.type "BaseException"),(.type "object")] 57 "NoSlide" true [] [] false none false)) #[(some (.ref 42)),none,(some (.str "NoSlide" 226)),(some (.str "NoSlide" 234)),(some (.builtin "ValueError.__new__")),(some (.bool true))]),
 (Obj.mk (.type "super") none (.fields #[(.ref 58),(.ref 58),(.ref 58)]) #[]),
 (Obj.mk (.type "builtin_function_or_method") none (.fields #[(.builtin "object.__init_subclass__"),(.ref 58)]) #[])]
noncomputable def f6(P:Params):List Obj:=bA (top 6) 61 253 ["thing"] (.str "ringloads.names" 251)
noncomputable def f7(P:Params):List Obj:=bA (top 7) 68 260 ["thing","many"] (.str "ringloads.names" 251)
noncomputable def f8(P:Params):List Obj:=bA (top 8) 75 268 ["thing"] (.str "ringloads.names" 251)
noncomputable def f9(P:Params):List Obj:=bA (top 9) 82 275 ["thing"] (.str "ringloads.names" 251)
noncomputable def f11(P:Params):List Obj:=[(Obj.mk (.type "tuple") none (.seq #[(.int 0 284),(.int 1 285)] 0) #[])]
noncomputable def f12(P:Params):List Obj:=bA (top 12) 90 287 ["top","bottom","shared"] (.str "ringloads.ratios" 282)
noncomputable def f13(P:Params):List Obj:=bA (top 13) 97 296 ["one","other"] (.str "ringloads.ratios" 282)
noncomputable def f14(P:Params):List Obj:=bA (top 14) 104 304 ["one","other"] (.str "ringloads.ratios" 282)
noncomputable def f15(P:Params):List Obj:=bA (top 15) 111 312 ["one","other"] (.str "ringloads.ratios" 282)
noncomputable def f16(P:Params):List Obj:=bA (top 16) 118 320 ["one","other"] (.str "ringloads.ratios" 282)
noncomputable def f18(P:Params):List Obj:=bA (top 18) 125 330 ["ring","k"] (.str "ringloads.crossing" 328)
noncomputable def f19(P:Params):List Obj:=bA (top 19) 132 338 ["ring","k"] (.str "ringloads.crossing" 328)
noncomputable def f20(P:Params):List Obj:=bA (top 20) 139 346 ["ring","k","l","low","high","first","last"] (.str "ringloads.crossing" 328)
noncomputable def f21(P:Params):List Obj:=Al (top 21) 146 359 (.str "ringloads.crossing" 328)
noncomputable def f22(P:Params):List Obj:=bA (top 22) 151 365 ["ring","some","number","k","l"] (.str "ringloads.crossing" 328)
noncomputable def f26(P:Params):List Obj:=bA (top 26) 158 382 ["thing"] (.str "ringloads.ways" 376)
noncomputable def f27(P:Params):List Obj:=Al (top 27) 165 389 (.str "ringloads.ways" 376)
noncomputable def f29(P:Params):List Obj:=bA (top 29) 170 397 ["ring","sending","thing","slid","number","slide"] (.str "ringloads.slides" 395)
noncomputable def f30(P:Params):List Obj:=bA (top 30) 177 409 ["ring","sending","thing"] (.str "ringloads.slides" 395)
noncomputable def f31(P:Params):List Obj:=bA (top 31) 184 418 ["thing","asks"] (.str "ringloads.slides" 395)
noncomputable def f32(P:Params):List Obj:=Al (top 32) 191 426 (.str "ringloads.slides" 395)
noncomputable def f33(P:Params):List Obj:=bA (top 33) 196 432 ["ring","sending","k","way"] (.str "ringloads.slides" 395)
noncomputable def f34(P:Params):List Obj:=bA (top 34) 203 442 ["ring","sending","slide"] (.str "ringloads.slides" 395)
noncomputable def f35(P:Params):List Obj:=bA (top 35) 210 451 ["sending","slide","slid"] (.str "ringloads.slides" 395)
noncomputable def f36(P:Params):List Obj:=bA (top 36) 217 460 ["part","way","amount"] (.str "ringloads.slides" 395)
noncomputable def f37(P:Params):List Obj:=bA (top 37) 224 469 ["ring","sending","slid","slides","pair","slide"] (.str "ringloads.slides" 395)
noncomputable def f38(P:Params):List Obj:=bA (top 38) 231 481 ["ring","sending","k","l","ways","slide"] (.str "ringloads.slides" 395)
noncomputable def f39(P:Params):List Obj:=bA (top 39) 238 493 ["ring","k","l","ways"] (.str "ringloads.slides" 395)
noncomputable def f41(P:Params):List Obj:=bA (top 41) 245 505 ["_law_script","_law_k","_law_cell"] (.str "law_ringloads_k33_whole_slides_by_halves" 503)
noncomputable def f42(P:Params):List Obj:=bA (top 42) 252 514 ["_law_state","_law_many","_law_digit","_law_drawn_here","_law_turn"] (.str "law_ringloads_k33_whole_slides_by_halves" 503)
noncomputable def f43(P:Params):List Obj:=bA (top 43) 259 525 ["_law_top","_law_bottom","_law_one","_law_share"] (.str "law_ringloads_k33_whole_slides_by_halves" 503)
noncomputable def f44(P:Params):List Obj:=bA (top 44) 266 535 ["_law_state","_law_least","_law_kind","_law_bottom","_law_top"] (.str "law_ringloads_k33_whole_slides_by_halves" 503)
noncomputable def f45(P:Params):List Obj:=Al (top 45) 273 546 (.str "law_ringloads_k33_whole_slides_by_halves" 503)
noncomputable def f46(P:Params):List Obj:=bA (top 46) 278 552 ["_law_state","_law_ties","_law_kind","_law_alike","_law_one","_law_rooms_here","_law_more"] (.str "law_ringloads_k33_whole_slides_by_halves" 503)
noncomputable def f47(P:Params):List Obj:=bA (top 47) 285 565 ["_law_state","_law_shape","_law_places","_law_k","_law_one","_law_other"] (.str "law_ringloads_k33_whole_slides_by_halves" 503)
noncomputable def f48(P:Params):List Obj:=bA (top 48) 292 577 ["_law_script","_law_at","_law_most","_law_count","_law_state","_law_places","_law_many","_law_kinds","_law_shape","_law_names_here","_law_rooms_here","_law_asks","_law_k","_law_one","_law_other"] (.str "law_ringloads_k33_whole_slides_by_halves" 503)
noncomputable def f49(P:Params):List Obj:=bA (top 49) 299 598 ["_law_state","_law_ring_here","_law_parts_here","_law_name","_law_one","_law_other","_law_size","_law_way","_law_share"] (.str "law_ringloads_k33_whole_slides_by_halves" 503)
noncomputable def f50(P:Params):List Obj:=bA (top 50) 306 613 ["_law_one","_law_other"] (.str "law_ringloads_k33_whole_slides_by_halves" 503)
noncomputable def f51(P:Params):List Obj:=bA (top 51) 313 621 ["_law_one","_law_other"] (.str "law_ringloads_k33_whole_slides_by_halves" 503)
noncomputable def f52(P:Params):List Obj:=bA (top 52) 320 629 ["_law_ring_here","_law_sending","_law_k","_law_way"] (.str "law_ringloads_k33_whole_slides_by_halves" 503)
noncomputable def f53(P:Params):List Obj:=bA (top 53) 327 639 ["_law_state","_law_ring_here","_law_sending","_law_many","_law_k","_law_l","_law_way","_law_other","_law_first","_law_second","_law_most","_law_share"] (.str "law_ringloads_k33_whole_slides_by_halves" 503)
noncomputable def f54(P:Params):List Obj:=bA (top 54) 334 657 ["_law_ring_here","_law_sending","_law_thing","_law_found"] (.str "law_ringloads_k33_whole_slides_by_halves" 503)
noncomputable def f55(P:Params):List Obj:=bA (top 55) 341 667 ["_law_slides","_law_found","_law_k","_law_way","_law_l","_law_other","_law_amount_here","_law_half"] (.str "law_ringloads_k33_whole_slides_by_halves" 503)
noncomputable def f56(P:Params):List Obj:=bA (top 56) 348 681 ["_law_slides","_law_at","_law_first","_law_second"] (.str "law_ringloads_k33_whole_slides_by_halves" 503)
noncomputable def f57(P:Params):List Obj:=bA (top 57) 355 691 ["_law_script","_law_ring_here","_law_sending","_law_here","_law_slides","_law_k","_law_state","_law_one","_law_behind","_law_more","_law_due","_law_turn","_law_at","_law_amid"] (.str "law_ringloads_k33_whole_slides_by_halves" 503)
noncomputable def obll(P:Params)(b:Nat):Obj:=(bif b.blt 82 then(bif b.blt 61 then(bif b.blt 22 then(f1 P).getD (b-15) default else(bif b.blt 42 then(f3 P).getD (b-22) default else(f4 P).getD (b-42) default))else(bif b.blt 68 then(f6 P).getD (b-61) default else(bif b.blt 75 then(f7 P).getD (b-68) default else(f8 P).getD (b-75) default)))else(bif b.blt 97 then(bif b.blt 89 then(f9 P).getD (b-82) default else(bif b.blt 90 then(f11 P).getD (b-89) default else(f12 P).getD (b-90) default))else(bif b.blt 104 then(f13 P).getD (b-97) default else(bif b.blt 111 then(f14 P).getD (b-104) default else(f15 P).getD (b-111) default))))
noncomputable def oblr(P:Params)(b:Nat):Obj:=(bif b.blt 158 then(bif b.blt 139 then(bif b.blt 125 then(f16 P).getD (b-118) default else(bif b.blt 132 then(f18 P).getD (b-125) default else(f19 P).getD (b-132) default))else(bif b.blt 146 then(f20 P).getD (b-139) default else(bif b.blt 151 then(f21 P).getD (b-146) default else(f22 P).getD (b-151) default)))else(bif b.blt 177 then(bif b.blt 165 then(f26 P).getD (b-158) default else(bif b.blt 170 then(f27 P).getD (b-165) default else(f29 P).getD (b-170) default))else(bif b.blt 184 then(f30 P).getD (b-177) default else(bif b.blt 191 then(f31 P).getD (b-184) default else(f32 P).getD (b-191) default))))
noncomputable def obl(P:Params)(b:Nat):Obj:=bif b.blt 118 then obll P b else oblr P b
noncomputable def obrl(P:Params)(b:Nat):Obj:=(bif b.blt 238 then(bif b.blt 217 then(bif b.blt 203 then(f33 P).getD (b-196) default else(bif b.blt 210 then(f34 P).getD (b-203) default else(f35 P).getD (b-210) default))else(bif b.blt 224 then(f36 P).getD (b-217) default else(bif b.blt 231 then(f37 P).getD (b-224) default else(f38 P).getD (b-231) default)))else(bif b.blt 259 then(bif b.blt 245 then(f39 P).getD (b-238) default else(bif b.blt 252 then(f41 P).getD (b-245) default else(f42 P).getD (b-252) default))else(bif b.blt 266 then(f43 P).getD (b-259) default else(bif b.blt 273 then(f44 P).getD (b-266) default else(f45 P).getD (b-273) default))))
noncomputable def obrr(P:Params)(b:Nat):Obj:=(bif b.blt 320 then(bif b.blt 299 then(bif b.blt 285 then(f46 P).getD (b-278) default else(bif b.blt 292 then(f47 P).getD (b-285) default else(f48 P).getD (b-292) default))else(bif b.blt 306 then(f49 P).getD (b-299) default else(bif b.blt 313 then(f50 P).getD (b-306) default else(f51 P).getD (b-313) default)))else(bif b.blt 341 then(bif b.blt 327 then(f52 P).getD (b-320) default else(bif b.blt 334 then(f53 P).getD (b-327) default else(f54 P).getD (b-334) default))else(bif b.blt 348 then(f55 P).getD (b-341) default else(bif b.blt 355 then(f56 P).getD (b-348) default else(f57 P).getD (b-355) default))))
noncomputable def obr(P:Params)(b:Nat):Obj:=bif b.blt 278 then obrl P b else obrr P b
noncomputable def ob(P:Params)(b:Nat):Obj:=bif b.blt 196 then obl P b else obr P b
noncomputable def ents(P:Params):List DictEntry:=[(DictEntry.mk (kh P "greatest_shared") (.str "greatest_shared" 197) (.ref 21)),
 (DictEntry.mk (kh P "LoadError") (.str "LoadError" 225) (.ref 38)),
 (DictEntry.mk (kh P "NoSlide") (.str "NoSlide" 250) (.ref 58)),
 (DictEntry.mk (kh P "is_whole") (.str "is_whole" 259) (.ref 67)),
 (DictEntry.mk (kh P "is_number_below") (.str "is_number_below" 267) (.ref 74)),
 (DictEntry.mk (kh P "are_two_wholes") (.str "are_two_wholes" 274) (.ref 81)),
 (DictEntry.mk (kh P "is_ratio") (.str "is_ratio" 281) (.ref 88)),
 (DictEntry.mk (kh P "NOUGHT") (.str "NOUGHT" 286) (.ref 89)),
 (DictEntry.mk (kh P "lowest") (.str "lowest" 295) (.ref 96)),
 (DictEntry.mk (kh P "plus") (.str "plus" 303) (.ref 103)),
 (DictEntry.mk (kh P "minus") (.str "minus" 311) (.ref 110)),
 (DictEntry.mk (kh P "under") (.str "under" 319) (.ref 117)),
 (DictEntry.mk (kh P "lesser") (.str "lesser" 327) (.ref 124)),
 (DictEntry.mk (kh P "lesser_place") (.str "lesser_place" 337) (.ref 131)),
 (DictEntry.mk (kh P "greater_place") (.str "greater_place" 345) (.ref 138)),
 (DictEntry.mk (kh P "do_cross") (.str "do_cross" 358) (.ref 145)),
 (DictEntry.mk (kh P "parted_in") (.str "parted_in" 364) (.ref 150)),
 (DictEntry.mk (kh P "first_side_by_side") (.str "first_side_by_side" 375) (.ref 157)),
 (DictEntry.mk (kh P "ON") (.str "ON" 379) (.str "on" 378)),
 (DictEntry.mk (kh P "BACK") (.str "BACK" 381) (.str "back" 380)),
 (DictEntry.mk (kh P "is_way") (.str "is_way" 388) (.ref 164)),
 (DictEntry.mk (kh P "ties_of") (.str "ties_of" 394) (.ref 169)),
 (DictEntry.mk (kh P "slid_by") (.str "slid_by" 408) (.ref 176)),
 (DictEntry.mk (kh P "is_slide") (.str "is_slide" 417) (.ref 183)),
 (DictEntry.mk (kh P "has_form_of_slide") (.str "has_form_of_slide" 425) (.ref 190)),
 (DictEntry.mk (kh P "share_no_tie") (.str "share_no_tie" 431) (.ref 195)),
 (DictEntry.mk (kh P "not_sent") (.str "not_sent" 441) (.ref 202)),
 (DictEntry.mk (kh P "most_slid") (.str "most_slid" 450) (.ref 209)),
 (DictEntry.mk (kh P "slid_once") (.str "slid_once" 459) (.ref 216)),
 (DictEntry.mk (kh P "part_behind") (.str "part_behind" 468) (.ref 223)),
 (DictEntry.mk (kh P "slides_for") (.str "slides_for" 480) (.ref 230)),
 (DictEntry.mk (kh P "greatest_slide") (.str "greatest_slide" 492) (.ref 237)),
 (DictEntry.mk (kh P "ways_apart") (.str "ways_apart" 502) (.ref 244)),
 (DictEntry.mk (kh P "_law_begun") (.str "_law_begun" 513) (.ref 251)),
 (DictEntry.mk (kh P "_law_take") (.str "_law_take" 524) (.ref 258)),
 (DictEntry.mk (kh P "_law_low") (.str "_law_low" 534) (.ref 265)),
 (DictEntry.mk (kh P "_law_amount") (.str "_law_amount" 545) (.ref 272)),
 (DictEntry.mk (kh P "_law_names") (.str "_law_names" 551) (.ref 277)),
 (DictEntry.mk (kh P "_law_rooms") (.str "_law_rooms" 564) (.ref 284)),
 (DictEntry.mk (kh P "_law_ends") (.str "_law_ends" 576) (.ref 291)),
 (DictEntry.mk (kh P "_law_ring") (.str "_law_ring" 597) (.ref 298)),
 (DictEntry.mk (kh P "_law_parts") (.str "_law_parts" 612) (.ref 305)),
 (DictEntry.mk (kh P "_law_minus") (.str "_law_minus" 620) (.ref 312)),
 (DictEntry.mk (kh P "_law_under") (.str "_law_under" 628) (.ref 319)),
 (DictEntry.mk (kh P "_law_gone") (.str "_law_gone" 638) (.ref 326)),
 (DictEntry.mk (kh P "_law_drawn") (.str "_law_drawn" 656) (.ref 333)),
 (DictEntry.mk (kh P "_law_let_by") (.str "_law_let_by" 666) (.ref 340)),
 (DictEntry.mk (kh P "_law_halves") (.str "_law_halves" 680) (.ref 347)),
 (DictEntry.mk (kh P "_law_turned") (.str "_law_turned" 690) (.ref 354)),
 (DictEntry.mk (kh P "law") (.str "law" 710) (.ref 361))]
noncomputable def plc:List Value:=[(.int 2 0),(.int 0 0),(.ref 20),(.int 9 0),(.int 0 0),(.ref 27),(.int 13 0),(.int 0 0),(.ref 47),(.int 19 0),(.int 0 0),(.ref 66),(.int 21 0),(.int 0 0),(.ref 73),(.int 23 0),(.int 0 0),(.ref 80),(.int 25 0),(.int 0 0),(.ref 87),(.int 29 0),(.int 0 0),(.ref 95),(.int 34 0),(.int 0 0),(.ref 102),(.int 36 0),(.int 0 0),(.ref 109),(.int 38 0),(.int 0 0),(.ref 116),(.int 40 0),(.int 0 0),(.ref 123),(.int 43 0),(.int 0 0),(.ref 130),(.int 45 0),(.int 0 0),(.ref 137),(.int 47 0),(.int 0 0),(.ref 144),(.int 53 0),(.int 0 0),(.ref 149),(.int 55 0),(.int 0 0),(.ref 156),(.int 64 0),(.int 0 0),(.ref 163),(.int 66 0),(.int 0 0),(.ref 168),(.int 74 0),(.int 0 0),(.ref 175),(.int 83 0),(.int 0 0),(.ref 182),(.int 89 0),(.int 0 0),(.ref 189),(.int 95 0),(.int 0 0),(.ref 194),(.int 98 0),(.int 0 0),(.ref 201),(.int 100 0),(.int 0 0),(.ref 208),(.int 102 0),(.int 0 0),(.ref 215),(.int 107 0),(.int 0 0),(.ref 222),(.int 109 0),(.int 0 0),(.ref 229),(.int 119 0),(.int 0 0),(.ref 236),(.int 123 0),(.int 0 0),(.ref 243),(.int 129 0),(.int 0 0),(.ref 250),(.int 134 0),(.int 0 0),(.ref 257),(.int 145 0),(.int 0 0),(.ref 264),(.int 153 0),(.int 0 0),(.ref 271),(.int 157 0),(.int 0 0),(.ref 276),(.int 163 0),(.int 0 0),(.ref 283),(.int 173 0),(.int 0 0),(.ref 290),(.int 183 0),(.int 0 0),(.ref 297),(.int 197 0),(.int 0 0),(.ref 304),(.int 204 0),(.int 0 0),(.ref 311),(.int 206 0),(.int 0 0),(.ref 318),(.int 208 0),(.int 0 0),(.ref 325),(.int 212 0),(.int 0 0),(.ref 332),(.int 223 0),(.int 0 0),(.ref 339),(.int 230 0),(.int 0 0),(.ref 346),(.int 236 0),(.int 0 0),(.ref 353),(.int 242 0),(.int 0 0),(.ref 360)]
noncomputable def ov0(P:Params):List (Nat×Obj):=[(12,fldO (plc.take 0))]
noncomputable def T0(P:Params):BT:=L12 15 (fun b=>obAt [12] P (ov0 P) ob b 0) 1 0 0
noncomputable abbrev S0(w:World)(os:OsState):SharedT:=⟨T0 w.params,15,mW,#[],⟨0,0,0,0⟩,187,os⟩
noncomputable def ov1(P:Params):List (Nat×Obj):=[(3,vo P (.str "ringloads.errors" 198) ((ents P).take 2) 11),(12,fldO (plc.take 6)),(38,(Obj.mk (.type "type") none (.cls (PySem.ClassData.mk "LoadError" [(.type "ValueError")] [(.ref 38),(.type "ValueError"),(.type "Exception"),(.type "BaseException"),(.type "object")] 37 "LoadError" true [] [] false none false)) #[(some (.ref 22)),none,(some (.str "LoadError" 200)),(some (.str "LoadError" 208)),(some (.builtin "ValueError.__new__")),(some (.bool true))]))]
noncomputable def T1(P:Params):BT:=L12 42 (fun b=>obAt [3,12,38] P (ov1 P) ob b 1) 1 0 1
noncomputable abbrev S1(w:World)(os:OsState):SharedT:=⟨T1 w.params,42,mW,#[],⟨0,0,0,0⟩,226,os⟩
noncomputable def ov2(P:Params):List (Nat×Obj):=[(3,vo P (.str "ringloads.ratios" 282) ((ents P).take 8) 17),(12,fldO (plc.take 21))]
noncomputable def T2(P:Params):BT:=L12 90 (fun b=>obAt [3,12] P (ov2 P) ob b 2) 1 0 2
noncomputable abbrev S2(w:World)(os:OsState):SharedT:=⟨T2 w.params,90,mW,#[],⟨0,0,0,0⟩,287,os⟩
noncomputable def ov3(P:Params):List (Nat×Obj):=[(3,vo P (.str "ringloads.ways" 376) ((ents P).take 22) 31),(12,fldO (plc.take 57))]
noncomputable def T3(P:Params):BT:=L12 170 (fun b=>obAt [3,12] P (ov3 P) ob b 3) 1 0 3
noncomputable abbrev S3(w:World)(os:OsState):SharedT:=⟨T3 w.params,170,mW,#[],⟨0,0,0,0⟩,395,os⟩
noncomputable def ov4(P:Params):List (Nat×Obj):=[(3,vo P (.str "law_ringloads_k33_whole_slides_by_halves" 503) ((ents P).take 34) 43),(12,fldO (plc.take 93))]
noncomputable def T4(P:Params):BT:=L12 252 (fun b=>obAt [3,12] P (ov4 P) ob b 4) 1 0 4
noncomputable abbrev S4(w:World)(os:OsState):SharedT:=⟨T4 w.params,252,mW,#[],⟨0,0,0,0⟩,514,os⟩
noncomputable def ov5(P:Params):List (Nat×Obj):=[(3,vo P (.str "law_ringloads_k33_whole_slides_by_halves" 503) ((ents P).take 45) 54),(12,fldO (plc.take 126))]
noncomputable def T5(P:Params):BT:=L12 327 (fun b=>obAt [3,12] P (ov5 P) ob b 5) 1 0 5
noncomputable abbrev S5(w:World)(os:OsState):SharedT:=⟨T5 w.params,327,mW,#[],⟨0,0,0,0⟩,639,os⟩
noncomputable def ov6(P:Params):List (Nat×Obj):=[(3,vo P (.str "law_ringloads_k33_whole_slides_by_halves" 503) ((ents P).take 50) 59),(12,fldO (plc.take 141))]
noncomputable def T6(P:Params):BT:=L12 362 (fun b=>obAt [3,12] P (ov6 P) ob b 6) 1 0 6
noncomputable abbrev S6(w:World)(os:OsState):SharedT:=⟨T6 w.params,362,mW,#[],⟨0,0,0,0⟩,711,os⟩
abbrev env:Env:={scope:=pr.main.scope,locals:=mainNs,globals:=mainNs,cells:=[],code:=.ref 13,frame:=some 14}
abbrev cE:Code:=.body (behindTheImports pr) env
abbrev B:List Frame:=[topFrame ⟨0,0,0,0⟩]
def sts1:List Stmt:=(pr.main.body.drop 0).take 4
theorem pc1(w:World)(os:OsState):segRunT treeTable pr w 11 (some (.ref 6)) 1 267 (S0 w os) (piecesOf sts1 env cE ⟨0,0,0,0⟩ B)=some (.next,S1 w os,cE,⟨9,0,12,39⟩):=nQ (by kernel_rfl)
def sts2:List Stmt:=(pr.main.body.drop 4).take 8
theorem pc2(w:World)(os:OsState):segRunT treeTable pr w 11 (some (.ref 6)) 1 393 (S1 w os) (piecesOf sts2 env cE ⟨9,0,12,39⟩ B)=some (.next,S2 w os,cE,⟨28,0,28,6⟩):=nQ (by kernel_rfl)
def sts3:List Stmt:=(pr.main.body.drop 12).take 16
theorem pc3(w:World)(os:OsState):segRunT treeTable pr w 11 (some (.ref 6)) 1 397 (S2 w os) (piecesOf sts3 env cE ⟨28,0,28,6⟩ B)=some (.next,S3 w os,cE,⟨66,0,72,80⟩):=nQ (by kernel_rfl)
def sts4:List Stmt:=(pr.main.body.drop 28).take 14
theorem pc4(w:World)(os:OsState):segRunT treeTable pr w 11 (some (.ref 6)) 1 396 (S3 w os) (piecesOf sts4 env cE ⟨66,0,72,80⟩ B)=some (.next,S4 w os,cE,⟨129,0,133,115⟩):=nQ (by kernel_rfl)
def sts5:List Stmt:=(pr.main.body.drop 42).take 11
theorem pc5(w:World)(os:OsState):segRunT treeTable pr w 11 (some (.ref 6)) 1 366 (S4 w os) (piecesOf sts5 env cE ⟨129,0,133,115⟩ B)=some (.next,S5 w os,cE,⟨208,0,211,73⟩):=nQ (by kernel_rfl)
def sts6:List Stmt:=(pr.main.body.drop 53).take 5
theorem pc6(w:World)(os:OsState):segRunT treeTable pr w 11 (some (.ref 6)) 1 183 (S5 w os) (piecesOf sts6 env cE ⟨208,0,211,73⟩ B)=some (.next,S6 w os,cE,⟨242,0,269,15⟩):=nQ (by kernel_rfl)
noncomputable abbrev H1(P:Params):Heap:=absHeap (T6 P) 362 mW
theorem pre(w:World)(os:OsState):topGo treeTable pr w 11 (some (.ref 6)) 12 ⟨boot_heap w.params,#[],boot_drawn,boot_toks,os⟩ (topStub pr)=some (⟨⟨⟨CA w.params⟩,mW⟩,#[],⟨0,0,0,0⟩,187,os⟩,⟨denote treeTable cE,cE,⟨0,0,0,0⟩,B⟩):=by rw[Ee];exact Fj (by kernel_rfl)
theorem A1(w:World)(os:OsState):segRun treeTable pr w 11 (some (.ref 6)) 1 1 ⟨⟨⟨CA w.params⟩,mW⟩,#[],⟨0,0,0,0⟩,187,os⟩ (blockOf (behindTheImports pr) env cE ⟨0,0,0,0⟩ B)=some (.next,(S0 w os).abs,cE,⟨0,0,0,0⟩):=by kernel_rfl
theorem fin(w:World)(os:OsState):topRun treeTable pr w 11 (some (.ref 6)) 2 (S6 w os).abs ⟨doneF .next,cE,⟨242,0,269,15⟩,B⟩=some ⟨H1 w.params,#[],⟨0,0,0,0⟩,711,os⟩:=Ed (by kernel_rfl)
theorem CC:behindTheImports pr=(sts1++(sts2++(sts3++(sts4++(sts5++(sts6++[])))))):=by kernel_rfl
theorem run(w:World)(os:OsState):topRun treeTable pr w 11 (some (.ref 6)) (12+(1+(267+(393+(397+(396+(366+(183+2)))))))) ⟨boot_heap w.params,#[],boot_drawn,boot_toks,os⟩ (topStub pr)=some ⟨H1 w.params,#[],⟨0,0,0,0⟩,711,os⟩ :=
 go_top (pre w os) (piece_block (A1 w os) (CB CC (piece_app (segRun_of (pc1 w os)) (piece_app (segRun_of (pc2 w os)) (piece_app (segRun_of (pc3 w os)) (piece_app (segRun_of (pc4 w os)) (piece_app (segRun_of (pc5 w os)) (piece_app (segRun_of (pc6 w os)) (piece_nil (fin w os))))))))))
abbrev q:Program:=view pr [57]
noncomputable def loose:List Str:=(["greatest_shared","LoadError","NoSlide","is_whole","is_number_below","are_two_wholes","is_ratio","NOUGHT","lowest","plus","minus","under","lesser","lesser_place","greater_place","do_cross","parted_in","first_side_by_side","ON","BACK","is_way","ties_of","slid_by","is_slide","has_form_of_slide","share_no_tie","not_sent","most_slid","slid_once","part_behind","slides_for","greatest_slide","ways_apart","_law_begun","_law_take","_law_low","_law_amount","_law_names","_law_rooms","_law_ends","_law_ring","_law_parts","_law_minus","_law_under","_law_gone","_law_drawn","_law_let_by","_law_halves","_law_turned"]:List String).map Str.ofString
noncomputable def Kf(P:Params):Frag:=(3,((ov6 P).getD 0 (0,default)).2)::[(2,boot_o_2 P),(20,(f1 P).getD 5 default),(21,(f1 P).getD 6 default),(22,(f3 P).getD 0 default),(23,(f3 P).getD 1 default),(24,(f3 P).getD 2 default),(25,(f3 P).getD 3 default),(26,(f3 P).getD 4 default),(27,(f3 P).getD 5 default),(28,(f3 P).getD 6 default),(29,(f3 P).getD 7 default),(30,(f3 P).getD 8 default),(31,(f3 P).getD 9 default),(32,(f3 P).getD 10 default),(33,(f3 P).getD 11 default),(34,(f3 P).getD 12 default),(35,(f3 P).getD 13 default),(36,(f3 P).getD 14 default),(37,(f3 P).getD 15 default),(38,(f3 P).getD 16 default),(39,(f3 P).getD 17 default),(40,(f3 P).getD 18 default),(41,(f3 P).getD 19 default),(42,(f4 P).getD 0 default),(43,(f4 P).getD 1 default),(44,(f4 P).getD 2 default),(45,(f4 P).getD 3 default),(46,(f4 P).getD 4 default),(47,(f4 P).getD 5 default),(48,(f4 P).getD 6 default),(49,(f4 P).getD 7 default),(50,(f4 P).getD 8 default),(51,(f4 P).getD 9 default),(52,(f4 P).getD 10 default),(53,(f4 P).getD 11 default),(54,(f4 P).getD 12 default),(55,(f4 P).getD 13 default),(56,(f4 P).getD 14 default),(57,(f4 P).getD 15 default),(58,(f4 P).getD 16 default),(59,(f4 P).getD 17 default),(60,(f4 P).getD 18 default),(66,(f6 P).getD 5 default),(67,(f6 P).getD 6 default),(73,(f7 P).getD 5 default),(74,(f7 P).getD 6 default),(80,(f8 P).getD 5 default),(81,(f8 P).getD 6 default),(87,(f9 P).getD 5 default),(88,(f9 P).getD 6 default),(89,(f11 P).getD 0 default),(95,(f12 P).getD 5 default),(96,(f12 P).getD 6 default),(102,(f13 P).getD 5 default),(103,(f13 P).getD 6 default),(109,(f14 P).getD 5 default),(110,(f14 P).getD 6 default),(116,(f15 P).getD 5 default),(117,(f15 P).getD 6 default),(123,(f16 P).getD 5 default),(124,(f16 P).getD 6 default),(130,(f18 P).getD 5 default),(131,(f18 P).getD 6 default),(137,(f19 P).getD 5 default),(138,(f19 P).getD 6 default),(144,(f20 P).getD 5 default),(145,(f20 P).getD 6 default),(149,(f21 P).getD 3 default),(150,(f21 P).getD 4 default),(156,(f22 P).getD 5 default),(157,(f22 P).getD 6 default),(163,(f26 P).getD 5 default),(164,(f26 P).getD 6 default),(168,(f27 P).getD 3 default),(169,(f27 P).getD 4 default),(175,(f29 P).getD 5 default),(176,(f29 P).getD 6 default),(182,(f30 P).getD 5 default),(183,(f30 P).getD 6 default),(189,(f31 P).getD 5 default),(190,(f31 P).getD 6 default),(194,(f32 P).getD 3 default),(195,(f32 P).getD 4 default),(201,(f33 P).getD 5 default),(202,(f33 P).getD 6 default),(208,(f34 P).getD 5 default),(209,(f34 P).getD 6 default),(215,(f35 P).getD 5 default),(216,(f35 P).getD 6 default),(222,(f36 P).getD 5 default),(223,(f36 P).getD 6 default),(229,(f37 P).getD 5 default),(230,(f37 P).getD 6 default),(236,(f38 P).getD 5 default),(237,(f38 P).getD 6 default),(243,(f39 P).getD 5 default),(244,(f39 P).getD 6 default),(250,(f41 P).getD 5 default),(251,(f41 P).getD 6 default),(257,(f42 P).getD 5 default),(258,(f42 P).getD 6 default),(264,(f43 P).getD 5 default),(265,(f43 P).getD 6 default),(271,(f44 P).getD 5 default),(272,(f44 P).getD 6 default),(276,(f45 P).getD 3 default),(277,(f45 P).getD 4 default),(283,(f46 P).getD 5 default),(284,(f46 P).getD 6 default),(290,(f47 P).getD 5 default),(291,(f47 P).getD 6 default),(297,(f48 P).getD 5 default),(298,(f48 P).getD 6 default),(304,(f49 P).getD 5 default),(305,(f49 P).getD 6 default),(311,(f50 P).getD 5 default),(312,(f50 P).getD 6 default),(318,(f51 P).getD 5 default),(319,(f51 P).getD 6 default),(325,(f52 P).getD 5 default),(326,(f52 P).getD 6 default),(332,(f53 P).getD 5 default),(333,(f53 P).getD 6 default),(339,(f54 P).getD 5 default),(340,(f54 P).getD 6 default),(346,(f55 P).getD 5 default),(347,(f55 P).getD 6 default),(353,(f56 P).getD 5 default),(354,(f56 P).getD 6 default),(360,(f57 P).getD 5 default),(361,(f57 P).getD 6 default)]
noncomputable abbrev as:List Addr:=[3,2,20,21,22,23,24,25,26,27,28,29,30,31,32,33,34,35,36,37,38,39,40,41,42,43,44,45,46,47,48,49,50,51,52,53,54,55,56,57,58,59,60,66,67,73,74,80,81,87,88,89,95,96,102,103,109,110,116,117,123,124,130,131,137,138,144,145,149,150,156,157,163,164,168,169,175,176,182,183,189,190,194,195,201,202,208,209,215,216,222,223,229,230,236,237,243,244,250,251,257,258,264,265,271,272,276,277,283,284,290,291,297,298,304,305,311,312,318,319,325,326,332,333,339,340,346,347,353,354,360,361]
noncomputable abbrev Hk:Hook:=kHook Kf as (fun _=>by kernel_rfl)
abbrev Xt:Shared→Bool:=fun s=>xlAt q [] s && recOk (RowW.records PySem.Challenge.rw_ringloads_k33_whole_slides_by_halves.row.toRowW) s
theorem size (w:World):((boot_heap w.params).isNs mainGlobals && (#[]:Array GenState).size == 0,(boot_heap w.params).objs.size,(boot_heap w.params).nsMap mainGlobals "__annotations__")=(true,11,some (.ref 6)):=by kernel_rfl
theorem Fk(w:World)(os:OsState):(staticsOk (importedModules pr.main.body) (boot_heap w.params) (H1 w.params) && namesBound pr (H1 w.params) && gensDone ⟨H1 w.params,#[],⟨0,0,0,0⟩,711,os⟩ && laidKept (boot_heap w.params) (H1 w.params))=true:=by kernel_rfl
theorem Fm(w:World)(os:OsState):openSeen q loose (importedModules pr.main.body) Xt true ⟨H1 w.params,#[],⟨0,0,0,0⟩,711,os⟩=openGood q loose:=by rw[Fast.te4187177175401517315];kernel_rfl
theorem Fn(w:World)(os:OsState):Hk.obs ⟨H1 w.params,#[],⟨0,0,0,0⟩,711,os⟩=Hk.val w:=by kernel_rfl
theorem Ef:opening pr=plainProg pr.main.scope.names:=by kernel_rfl
theorem left:LeftO pr q loose Xt Hk.obs Hk.val 4692:=LeftO.of_pieces (M:=(12+(1+(267+(393+(397+(396+(366+(183+2))))))))) (boot_open Ef (by decide) (fun s=>by kernel_rfl)) size run (by decide +kernel) (fun w=>funext fun os=>looks_pair (Fk w os) (looks_pair (Fm w os) (Fn w os)))
end Hd
namespace My
open PySem L2
local macro_rules | `(tactic| walk_at "w")=>do
 let ids:=("noLs noL wTry jI qk qj isA vf okX zy B5 zz zi wW Dl yW Bk Dm yX Bl y9 Dx BB BO ud B6 zB DB EM BP DC EN BS EO Dj Dk yV wc l6 AL g9 BM wV vd zj oG kZ wSeq wIf bf wBin wUn wVar jw wC wSet wRet pX cR aF ba bb aVal aVar aNil toD toDs lq isBl wTup wLst wNot wAnd wOr kg wOrV wg wIfE wFrz dC wIxV rM wF wApp oF t5 noL noLs cn bK BN jE List.all_cons List.all_nil Bool.and_true Bool.true_and ownV wPar Bz wFor oe Bo wSrc wU BJ tZ se sf vi bQ qo xm zM eT bG t7 gk bo mT dz uZ opLt opLe opGt opGe opEq opNe yY zF zG zH zJ zK B7 B8 B9 Ca DW DX Cd Ce Fb Fc xv xw Cg AK zf uk eX xy xj um nL xl DY zL List.length_map xk xn xq xr zO vj xu si sj sq qp sr oM zP Cb u0 u4 u3 u5 nD oi zQ Ci zR zS zT zU vk qq qr xx Cj EG qe y7 beq_self_eq_true String.reduceBEq String.reduceEq reduceCtorEq wSl2 u6 oy bV eK a9 va wO vb lX BG Dy List.getElem?_cons_zero List.getElem?_cons_succ List.set_cons_zero List.set_cons_succ List.cons_append List.nil_append List.replicate_succ List.replicate_zero List.map_cons List.map_nil List.drop_succ_cons List.drop_zero Option.getD_some true_and decide_eq_true_eq Bool.not_eq_true' decide_eq_false_iff_not ite_true ite_false Bool.false_eq_true Bool.true_eq_false if_true if_false List.length_cons List.length_nil Nat.reduceAdd Nat.reduceSub oJ mU zC DS EX ix30 ix31 ix32 Option.some.injEq exists_eq_left' exists_eq_left".splitOn " ").toArray.map fun s=>Lean.mkIdent ((s.splitOn ".").foldl Lean.Name.mkStr Lean.Name.anonymous)
 `(tactic| try simp only [$[$ids:ident],*])
local macro_rules | `(tactic| walk_at "o")=>`(tactic| first | exact Or.inl rfl | exact Or.inr rfl)
abbrev cB:Stmt:=Hd.top 1
noncomputable abbrev kA:List Str:=["one","other","rest"]
abbrev kB:Stmt:=Hd.top 6
noncomputable abbrev vp:List Str:=["thing"]
abbrev cD:Stmt:=Hd.top 7
noncomputable abbrev kC:List Str:=["thing","many"]
abbrev c8:Stmt:=Hd.top 8
noncomputable abbrev ly:List Str:=["thing"]
abbrev kD:Stmt:=Hd.top 9
noncomputable abbrev vq:List Str:=["thing"]
abbrev oS:Stmt:=Hd.top 12
noncomputable abbrev Am:List Str:=["top","bottom","shared"]
abbrev ya:Stmt:=Hd.top 13
noncomputable abbrev Eg:List Str:=["one","other"]
abbrev sI:Stmt:=Hd.top 14
noncomputable abbrev CD:List Str:=["one","other"]
abbrev sJ:Stmt:=Hd.top 15
noncomputable abbrev CF:List Str:=["one","other"]
abbrev oT:Stmt:=Hd.top 16
noncomputable abbrev An:List Str:=["one","other"]
abbrev d7:Stmt:=Hd.top 18
noncomputable abbrev mX:List Str:=["ring","k"]
abbrev dE:Stmt:=Hd.top 19
noncomputable abbrev ml:List Str:=["ring","k"]
abbrev kE:Stmt:=Hd.top 20
noncomputable abbrev vt:List Str:=["ring","k","l","low","high","first","last"]
abbrev eY:Stmt:=Hd.top 21
noncomputable abbrev mn:List Str:=["ring","sending"]
abbrev bX:Stmt:=Hd.top 22
noncomputable abbrev ic:List Str:=["ring","some","number","k","l"]
abbrev oU:Stmt:=Hd.top 26
noncomputable abbrev Ao:List Str:=["thing"]
abbrev gu:Stmt:=Hd.top 27
noncomputable abbrev mq:List Str:=["ring","k","way","places","one","other"]
abbrev eZ:Stmt:=Hd.top 36
noncomputable abbrev oV:List Str:=["part","way","amount"]
abbrev i5:Stmt:=Hd.top 35
noncomputable abbrev sL:List Str:=["sending","slide","slid"]
abbrev cL:Stmt:=Hd.top 32
noncomputable abbrev iw:List Str:=["ring","k","way","l","other","taken"]
abbrev cf:Stmt:=Hd.top 31
noncomputable abbrev i6:List Str:=["thing","asks"]
abbrev kF:Stmt:=Hd.top 33
noncomputable abbrev vw:List Str:=["ring","sending","k","way"]
abbrev i7:Stmt:=Hd.top 34
noncomputable abbrev sM:List Str:=["ring","sending","slide"]
abbrev kG:Stmt:=Hd.top 30
noncomputable abbrev vx:List Str:=["ring","sending","thing"]
abbrev mr:Stmt:=Hd.top 29
noncomputable abbrev yb:List Str:=["ring","sending","thing","slid","number","slide"]
abbrev gv:Stmt:=Hd.top 39
noncomputable abbrev qD:List Str:=["ring","k","l","ways"]
abbrev c9:Stmt:=Hd.top 38
noncomputable abbrev lz:List Str:=["ring","sending","k","l","ways","slide"]
abbrev gw:Stmt:=Hd.top 37
noncomputable abbrev qE:List Str:=["ring","sending","slid","slides","pair","slide"]
abbrev gy:Stmt:=Hd.top 41
noncomputable abbrev qF:List Str:=["_law_script","_law_k","_law_cell"]
abbrev i8:Stmt:=Hd.top 42
noncomputable abbrev sN:List Str:=["_law_state","_law_many","_law_digit","_law_drawn_here","_law_turn"]
abbrev cV:Stmt:=Hd.top 45
noncomputable abbrev gz:List Str:=["_law_state","_law_many","_law_letters","_law_base","_law_at","_law_turn"]
abbrev kH:Stmt:=Hd.top 43
noncomputable abbrev vz:List Str:=["_law_top","_law_bottom","_law_one","_law_share"]
abbrev fb:Stmt:=Hd.top 44
noncomputable abbrev oW:List Str:=["_law_state","_law_least","_law_kind","_law_bottom","_law_top"]
abbrev gA:Stmt:=Hd.top 46
noncomputable abbrev qG:List Str:=["_law_state","_law_ties","_law_kind","_law_alike","_law_one","_law_rooms_here","_law_more"]
abbrev i9:Stmt:=Hd.top 47
noncomputable abbrev sO:List Str:=["_law_state","_law_shape","_law_places","_law_k","_law_one","_law_other"]
abbrev ja:Stmt:=Hd.top 48
noncomputable abbrev sP:List Str:=["_law_script","_law_at","_law_most","_law_count","_law_state","_law_places","_law_many","_law_kinds","_law_shape","_law_names_here","_law_rooms_here","_law_asks","_law_k","_law_one","_law_other"]
abbrev gB:Stmt:=Hd.top 49
noncomputable abbrev qH:List Str:=["_law_state","_law_ring_here","_law_parts_here","_law_name","_law_one","_law_other","_law_size","_law_way","_law_share"]
abbrev gC:Stmt:=Hd.top 50
noncomputable abbrev qI:List Str:=["_law_one","_law_other"]
abbrev jb:Stmt:=Hd.top 52
noncomputable abbrev sQ:List Str:=["_law_ring_here","_law_sending","_law_k","_law_way"]
abbrev gD:Stmt:=Hd.top 51
noncomputable abbrev qJ:List Str:=["_law_one","_law_other"]
abbrev gE:Stmt:=Hd.top 53
noncomputable abbrev qK:List Str:=["_law_state","_law_ring_here","_law_sending","_law_many","_law_k","_law_l","_law_way","_law_other","_law_first","_law_second","_law_most","_law_share"]
abbrev ff:Stmt:=Hd.top 54
noncomputable abbrev oX:List Str:=["_law_ring_here","_law_sending","_law_thing","_law_found"]
abbrev fg:Stmt:=Hd.top 55
noncomputable abbrev oY:List Str:=["_law_slides","_law_found","_law_k","_law_way","_law_l","_law_other","_law_amount_here","_law_half"]
abbrev fh:Stmt:=Hd.top 56
noncomputable abbrev oZ:List Str:=["_law_slides","_law_at","_law_first","_law_second"]
abbrev Ap:Stmt:=Hd.top 57
noncomputable abbrev Fo:List Str:=["_law_script","_law_ring_here","_law_sending","_law_here","_law_slides","_law_k","_law_state","_law_one","_law_behind","_law_more","_law_due","_law_turn","_law_at","_law_amid"]
def bL:FS:=fun ls post=>∃a b:Int,ls=[.d (.int a),.d (.int b)]∧post (.d (.int (Int.gcd a b))) ls
def jc:W Fl:=(wSeq (wSet 2 (wBin dz (wVar 0) (wVar 1)))
  (wSeq (wSet 0 (wVar 1))
  (wSet 1 (wVar 2))))
def cF:W Fl:=(wSeq (pY (bf (wBin opNe (wVar 1) (wC (.int 0)))) jc)
  (wRet (bb u0 (aVal (wVar 0) aNil))))
theorem jd:∀ls post,ls.length=2→bL ls post→cF (ls++List.replicate 1 .un) (aV ls post):=by
 rintro ls post - ⟨a,b,rfl,h⟩
 unfold cF
 walk_at "w"
 refine⟨fun n ρ=>∃x y r,ρ=[.d (.int x),.d (.int y),r]∧Int.gcd x y=Int.gcd a b∧n=y.natAbs,⟨_,a,b,_,rfl,rfl,rfl⟩,?_⟩
 rintro n ρ ⟨x,y,r,rfl,hg,rfl⟩
 walk_at "w"
 split
 ·
  rename_i hy
  have hy:y≠0:=by simpa using hy
  exact⟨hy,_,ir x hy,y,x.fmod y,_,rfl,by rw[tV];exact hg,rfl⟩
 ·
  rename_i hy
  have hy:y=0:=by simpa using hy
  subst hy
  refine⟨_,aj (aj aG),?_⟩
  have e:(if x<0 then -x else x)=((Int.gcd a b:Nat):Int):=by rw[← hg,Int.gcd_zero_right];split<;>omega
  rw[e]
  exact h
def dF:FS:=fun ls post=>(∃i:Int,ls=[.d (.int i)]∧post (.d (.bl true)) ls)∨∃d:D,ls=[.d d]∧(∀i,d≠.int i)∧post (.d (.bl false)) ls
def hJ:W Fl:=(wRet (kg (wUn (oi "int") (wVar 0)) (wg (bf (wUn (oi "bool") (wVar 0))))))
theorem qL:∀ls post,ls.length=1→dF ls post→hJ (ls++List.replicate 0 .un) (aV ls post):=by
 rintro ls post-(⟨i,rfl,h⟩|⟨d,rfl,hd,h⟩)
 ·
  unfold hJ
  walk_at "w"
  exact⟨_,aj aG,h⟩
 ·
  unfold hJ
  cases d with
  |int i=>exact absurd rfl (hd i)
  |_=>walk_at "w"; exact⟨_,aj aG,h⟩
def bM:FS:=fun ls post=>∃(d:D)(n:Int),ls=[.d d,.d (.int n)]∧post (.d (.bl (oR d n))) ls
def cG:W Fl:=(wRet (kg (aF dF (aVal (wVar 0) aNil)) (tZ opLe opLt (wC (.int 0)) (wVar 0) (wVar 1))))
theorem je:∀ls post,ls.length=2→bM ls post→cG (ls++List.replicate 0 .un) (aV ls post):=by
 rintro ls post - ⟨d,n,rfl,h⟩
 unfold cG
 by_cases hd:∃i,d=.int i
 ·
  obtain⟨i,rfl⟩:=hd
  have h:post (.d (.bl (decide (0≤i∧i<n)))) [.d (.int i),.d (.int n)]:=h
  walk_at "w"
  refine .inl ⟨i,rfl,?_⟩
  walk_at "w"
  by_cases c:0≤i
  ·
   rw[if_pos c]
   have e:decide (0≤i∧i<n)=decide (i<n):=by rw[decide_eq_decide];omega
   rw[e]at h
   exact⟨_,aj (aj aG),h⟩
  ·
   rw[if_neg c]
   have e:decide (0≤i∧i<n)=false:=decide_eq_false (by omega)
   rw[e]at h
   exact⟨_,aj (aj aG),h⟩
 ·
  have e:oR d n=false:=by
   unfold oR
   split
   ·
    exact absurd ⟨_,rfl⟩ hd
   ·
    rfl
  rw[e]at h
  walk_at "w"
  refine .inr ⟨d,rfl,fun i e=>hd ⟨i,e⟩,?_⟩
  walk_at "w"
  exact⟨_,aj (aj aG),h⟩
def twoB:D→Bool
 |.tup [.int _,.int _]=>true
 |_=>false
def cH:FS:=fun ls post=>(∃i j:Int,ls=[.d (.tup [.int i,.int j])]∧post (.d (.bl true)) ls)∨∃d:D,ls=[.d d]∧(∀i j,d≠.tup [.int i,.int j])∧post (.d (.bl false)) ls
def b8:W Fl:=(wRet (kg (wUn (oi "tuple") (wVar 0)) (kg (wBin opEq (bb dN (aVal (wVar 0) aNil)) (wC (.int 2))) (kg (aF dF (aVal (wBin opIx (wVar 0) (wC (.int 0))) aNil)) (aF dF (aVal (wBin opIx (wVar 0) (wC (.int 1))) aNil))))))
theorem jO:∀ls post,ls.length=1→cH ls post→b8 (ls++List.replicate 0 .un) (aV ls post):=by
 rintro ls post-(⟨i,j,rfl,h⟩|⟨d,rfl,hd,h⟩)
 ·
  unfold b8
  walk_at "w"
  refine .inl ⟨_,rfl,?_⟩
  walk_at "w"
  refine .inl ⟨_,rfl,?_⟩
  walk_at "w"
  exact⟨_,aj aG,h⟩
 ·
  unfold b8
  have fin:aV [.d d] post (.rt (.d (.bl false))) [.d d]:=⟨_,aj aG,h⟩
  by_cases ht:∃xs,d=.tup xs
  ·
   obtain⟨xs,rfl⟩:=ht
   by_cases hl:xs.length=2
   ·
    obtain⟨x,y,rfl⟩:∃x y,xs=[x,y]:=by
     rcases xs with _|⟨x,_|⟨y,_|⟨z,r⟩⟩⟩<;>simp at hl
     exact⟨_,_,rfl⟩
    have wh:∀z:D,(∃i,z=.int i)∨(∀i,z≠.int i):=fun z=>by cases z<;>simp
    walk_at "w"
    rcases wh x with⟨i,rfl⟩|hx
    ·
     refine .inl ⟨_,rfl,?_⟩
     rcases wh y with⟨j,rfl⟩|hy
     ·
      exact absurd rfl (hd i j)
     ·
      walk_at "w"
      refine .inr ⟨_,rfl,hy,?_⟩
      walk_at "w"
      exact fin
    ·
     refine .inr ⟨_,rfl,hx,?_⟩
     walk_at "w"
     exact fin
   ·
    walk_at "w"
    have e:¬((xs.length:Int)=2):=by omega
    simp only[e,decide_false]
    exact fin
  ·
   have ei:isTy "tuple" d=false:=by
    cases d<;>first
     |exact absurd ⟨_,rfl⟩ ht
     |rfl
   walk_at "w"
   rw[ei]
   walk_at "w"
   exact fin
def jf:FS:=fun ls post=>∃d:D,ls=[.d d]∧post (.d (.bl (ratB d))) ls
def hW:W Fl:=(wRet (kg (aF cH (aVal (wVar 0) aNil)) (kg (wBin opGe (wBin opIx (wVar 0) (wC (.int 1))) (wC (.int 1))) (wBin opEq (aF bL (aVal (wBin opIx (wVar 0) (wC (.int 0))) (aVal (wBin opIx (wVar 0) (wC (.int 1))) aNil))) (wC (.int 1))))))
theorem qM:∀ls post,ls.length=1→jf ls post→hW (ls++List.replicate 0 .un) (aV ls post):=by
 rintro ls post - ⟨d,rfl,h⟩
 by_cases hd:∃i j,d=.tup [.int i,.int j]
 ·
  obtain⟨i,j,rfl⟩:=hd
  unfold hW
  walk_at "w"
  refine .inl ⟨_,_,rfl,?_⟩
  walk_at "w"
  have e:ratB (.tup [.int i,.int j])=(decide (1≤j) && decide ((Int.gcd i j:Int)=1)):=rfl
  rw[e]at h
  split
  ·
   rename_i hj
   refine⟨_,_,rfl,?_⟩
   walk_at "w"
   have hj':(1:Int)≤j:=hj
   rw[decide_eq_true hj',Bool.true_and]at h
   exact⟨_,aj aG,h⟩
  ·
   rename_i hj
   have hj':¬(1:Int)≤j:=hj
   rw[decide_eq_false hj',Bool.false_and]at h
   exact⟨_,aj aG,h⟩
 ·
  have hn:∀i j,d≠.tup [.int i,.int j]:=fun i j e=>hd ⟨i,j,e⟩
  rw[xH hn]at h
  unfold hW
  walk_at "w"
  refine .inr ⟨_,rfl,hn,?_⟩
  walk_at "w"
  exact⟨_,aj aG,h⟩
def jP:FS:=fun ls post=>∃t b:Int,ls=[.d (.int t),.d (.int b)]∧b≠0∧b.natAbs<2^9000∧post (.d (frD (Rat.divInt t b))) ls
def o3:W Fl:=(wSeq (wSet 2 (wFrz (aF bL (aVal (wVar 0) (aVal (wVar 1) aNil)))))
  (wSeq (wIf (bf (wBin opLt (wVar 1) (wC (.int 0)))) (wSet 2 (wUn yY (wVar 2))) cR)
  (wRet (wTup (aVal (wBin mT (wVar 0) (wVar 2)) (aVal (wBin mT (wVar 1) (wVar 2)) aNil))))))
theorem vA:∀ls post,ls.length=2→jP ls post→o3 (ls++List.replicate 1 .un) (aV ls post):=by
 rintro ls post - ⟨t,b,rfl,hb,hz,h⟩
 unfold o3
 walk_at "w"
 refine⟨t,b,rfl,?_⟩
 walk_at "w"
 have h1:=tX (t:=t) hb
 have h2:=Nat.lt_of_le_of_lt (tY (t:=t) hb) hz
 have fin:∀{g:Int}{ρ:Ev},g=bW t b→g≠0∧g.natAbs<2^9000∧g≠0∧g.natAbs<2^9000∧2≤sizeLine∧aV [.d (.int t),.d (.int b)] post (.rt (.d (.tup [.int (t.fdiv g),.int (b.fdiv g)]))) ρ:=fun {g ρ} e=>by
  have e1:g≠0:=by rw[e];exact h1
  have e2:g.natAbs<2^9000:=by rw[e];exact h2
  refine⟨e1,e2,e1,e2,by decide,_,aj (aj aG),?_⟩
  rw[uj hb e]
  exact h
 split
 ·
  rename_i hlt
  exact fin (by simp[bW,hlt])
 ·
  rename_i hlt
  exact fin (by simp[bW,hlt])
def o4:FS:=fun ls post=>∃p q:Rat,ls=[.d (frD p),.d (frD q)]∧RB 400000 p∧RB 400000 q∧p.den*q.den<2^9000∧post (.d (frD (p+q))) ls
def yc:W Fl:=(wRet (aF jP (aVal (wFrz (wBin bG (wBin bo (wBin opIx (wVar 0) (wC (.int 0))) (wBin opIx (wVar 1) (wC (.int 1)))) (wBin bo (wBin opIx (wVar 1) (wC (.int 0))) (wBin opIx (wVar 0) (wC (.int 1)))))) (aVal (wFrz (wBin bo (wBin opIx (wVar 0) (wC (.int 1))) (wBin opIx (wVar 1) (wC (.int 1))))) aNil))))
theorem Aq:∀ls post,ls.length=2→o4 ls post→yc (ls++List.replicate 0 .un) (aV ls post):=by
 rintro ls post - ⟨p,q,rfl,hp,hq,hz,h⟩
 unfold yc
 simp only[frD]
 walk_at "w"
 refine⟨hp.bn (by decide),hq.bd (by decide),hq.bn (by decide),hp.bd (by decide),hp.bd (by decide),hq.bd (by decide),_,_,rfl,rZ p q,by rw[oK];exact hz,_,aj (aj aG),?_⟩
 rw[wN]
 exact h
theorem Ar{p q:Rat}{post:L→List L→Prop}(hp:RB 4400 p)(hq:RB 4400 q)(h:post (.d (frD (p+q))) [.d (frD p),.d (frD q)]):o4 [.d (frD p),.d (frD q)] post :=
 ⟨p,q,rfl,hp.mono (by decide),hq.mono (by decide),Nat.lt_of_lt_of_le (bI hp.2 hq.2) (Nat.pow_le_pow_right (by decide) (by decide)),h⟩
def jQ:FS:=fun ls post=>∃p q:Rat,ls=[.d (frD p),.d (frD q)]∧RB 400000 p∧RB 400000 q∧p.den*q.den<2^9000∧post (.d (frD (p-q))) ls
def sR:W Fl:=(wRet (aF jP (aVal (wBin gk (wBin bo (wBin opIx (wVar 0) (wC (.int 0))) (wBin opIx (wVar 1) (wC (.int 1)))) (wBin bo (wBin opIx (wVar 1) (wC (.int 0))) (wBin opIx (wVar 0) (wC (.int 1))))) (aVal (wFrz (wBin bo (wBin opIx (wVar 0) (wC (.int 1))) (wBin opIx (wVar 1) (wC (.int 1))))) aNil))))
theorem yd:∀ls post,ls.length=2→jQ ls post→sR (ls++List.replicate 0 .un) (aV ls post):=by
 rintro ls post - ⟨p,q,rfl,hp,hq,hz,h⟩
 unfold sR
 simp only[frD]
 walk_at "w"
 refine⟨hp.bn (by decide),hq.bd (by decide),hq.bn (by decide),hp.bd (by decide),hp.bd (by decide),hq.bd (by decide),_,_,rfl,rZ p q,by rw[oK];exact hz,_,aj (aj aG),?_⟩
 rw[AJ]
 exact h
theorem qN{p q:Rat}{post:L→List L→Prop}(hp:RB 4400 p)(hq:RB 4400 q)(h:post (.d (frD (p-q))) [.d (frD p),.d (frD q)]):jQ [.d (frD p),.d (frD q)] post :=
 ⟨p,q,rfl,hp.mono (by decide),hq.mono (by decide),Nat.lt_of_lt_of_le (bI hp.2 hq.2) (Nat.pow_le_pow_right (by decide) (by decide)),h⟩
def fj:FS:=fun ls post=>∃p q:Rat,ls=[.d (frD p),.d (frD q)]∧RB 400000 p∧RB 400000 q∧post (.d (.bl (decide (p<q)))) ls
def sS:W Fl:=(wRet (wBin opLt (wBin bo (wBin opIx (wVar 0) (wC (.int 0))) (wBin opIx (wVar 1) (wC (.int 1)))) (wBin bo (wBin opIx (wVar 1) (wC (.int 0))) (wBin opIx (wVar 0) (wC (.int 1))))))
theorem ye:∀ls post,ls.length=2→fj ls post→sS (ls++List.replicate 0 .un) (aV ls post):=by
 rintro ls post - ⟨p,q,rfl,hp,hq,h⟩
 unfold sS
 walk_at "w"
 refine⟨hp.bn (by decide),hq.bd (by decide),hq.bn (by decide),hp.bd (by decide),_,aj (aj aG),?_⟩
 rw[DU]
 exact h
def mv:FS:=fun ls post=>∃p q:Rat,ls=[.d (frD p),.d (frD q)]∧RB 400000 p∧RB 400000 q∧post (.d (frD (if q<p then q else p))) ls
def o5:W Fl:=(wRet (wIfE (bf (aF fj (aVal (wVar 1) (aVal (wVar 0) aNil)))) (wVar 1) (wVar 0)))
theorem vB:∀ls post,ls.length=2→mv ls post→o5 (ls++List.replicate 0 .un) (aV ls post):=by
 rintro ls post - ⟨p,q,rfl,hp,hq,h⟩
 unfold o5
 walk_at "w"
 refine⟨q,p,rfl,hq,hp,?_⟩
 walk_at "w"
 split
 ·
  rename_i hl
  rw[if_pos hl]at h
  exact⟨_,aj (aj aG),h⟩
 ·
  rename_i hl
  rw[if_neg hl]at h
  exact⟨_,aj (aj aG),h⟩
def loA(a:Ask):Nat:=min a.one a.other
def hiA(a:Ask):Nat:=max a.one a.other
def cq:FS:=fun ls post=>∃(R:Ring)(k:Nat)(hk:k<R.asks.length),ls=[.d (aM R),.d (.int k)]∧post (.d (.int (loA R.asks[k]))) ls
def d8:W Fl:=(wRet (bb u4 (aVal (wBin opIx (wBin opIx (wBin opIx (wVar 0) (wC (.int 1))) (wVar 1)) (wC (.int 1))) (aVal (wBin opIx (wBin opIx (wBin opIx (wVar 0) (wC (.int 1))) (wVar 1)) (wC (.int 2))) aNil))))
theorem lA:∀ls post,ls.length=2→cq ls post→d8 (ls++List.replicate 0 .un) (aV ls post):=by
 rintro ls post - ⟨R,k,hk,rfl,h⟩
 unfold d8
 walk_at "w"
 refine⟨_,bJ hk,?_⟩
 walk_at "w"
 refine⟨_,bJ hk,?_⟩
 walk_at "w"
 have e:(if((R.asks[k].other:Nat):Int)<(R.asks[k].one:Int)then((R.asks[k].other:Nat):Int)else(R.asks[k].one:Int))=((loA R.asks[k]:Nat):Int):=by
  unfold loA
  split<;>omega
 first|rw[e] | skip
 exact⟨_,aj (aj aG),h⟩
def b9:FS:=fun ls post=>∃(R:Ring)(k:Nat)(hk:k<R.asks.length),ls=[.d (aM R),.d (.int k)]∧post (.d (.int ((max R.asks[k].one R.asks[k].other:Nat):Int))) ls
def dG:W Fl:=(wRet (bb u3 (aVal (wBin opIx (wBin opIx (wBin opIx (wVar 0) (wC (.int 1))) (wVar 1)) (wC (.int 1))) (aVal (wBin opIx (wBin opIx (wBin opIx (wVar 0) (wC (.int 1))) (wVar 1)) (wC (.int 2))) aNil))))
theorem kI:∀ls post,ls.length=2→b9 ls post→dG (ls++List.replicate 0 .un) (aV ls post):=by
 rintro ls post - ⟨R,k,hk,rfl,h⟩
 unfold dG
 walk_at "w"
 refine⟨_,bJ hk,?_⟩
 walk_at "w"
 refine⟨_,bJ hk,?_⟩
 walk_at "w"
 have e:(if((R.asks[k].other:Nat):Int) > (R.asks[k].one:Int)then((R.asks[k].other:Nat):Int)else(R.asks[k].one:Int))=((max R.asks[k].one R.asks[k].other:Nat):Int):=by
  split<;>omega
 first|rw[e] | skip
 exact⟨_,aj (aj aG),h⟩
def qO(a b:Ask):Bool:=decide (min a.one a.other<min b.one b.other∧min b.one b.other<max a.one a.other∧max a.one a.other<max b.one b.other) ||decide (min b.one b.other<min a.one a.other∧min a.one a.other<max b.one b.other∧max b.one b.other<max a.one a.other)
def jg:FS:=fun ls post=>∃(R:Ring)(k l:Nat)(hk:k<R.asks.length)(hl:l<R.asks.length),ls=[.d (aM R),.d (.int k),.d (.int l)]∧post (.d (.bl (qO R.asks[k] R.asks[l]))) ls
def kJ:W Fl:=(wSeq (wSet 3 (wFrz (aF cq (aVal (wVar 0) (aVal (wVar 1) aNil)))))
  (wSeq (wSet 4 (wFrz (aF b9 (aVal (wVar 0) (aVal (wVar 1) aNil)))))
  (wSeq (wSet 5 (wFrz (aF cq (aVal (wVar 0) (aVal (wVar 2) aNil)))))
  (wSeq (wSet 6 (wFrz (aF b9 (aVal (wVar 0) (aVal (wVar 2) aNil)))))
  (wRet (wOrV (oG (wVar 3) [(opLt,(wVar 5)),(opLt,(wVar 4)),(opLt,(wVar 6))]) (oG (wVar 5) [(opLt,(wVar 3)),(opLt,(wVar 6)),(opLt,(wVar 4))])))))))
theorem As(a b:Ask){A B C D':Int}(hA:A=((min a.one a.other:Nat):Int))(hB:B=((min b.one b.other:Nat):Int))(hC:C=((max a.one a.other:Nat):Int))(hD:D'=((max b.one b.other:Nat):Int)):qO a b=(decide (A<B∧B<C∧C<D') ||decide (B<A∧A<D'∧D' < C)):=by
 subst hA hB hC hD
 unfold qO
 simp only[Int.ofNat_lt]
theorem qP:∀ls post,ls.length=3→jg ls post→kJ (ls++List.replicate 4 .un) (aV ls post):=by
 rintro ls post - ⟨R,k,l,hk,hl,rfl,h⟩
 unfold kJ
 walk_at "w"
 refine⟨R,k,hk,rfl,?_⟩
 walk_at "w"
 refine⟨R,k,hk,rfl,?_⟩
 walk_at "w"
 refine⟨R,l,hl,rfl,?_⟩
 walk_at "w"
 refine⟨R,l,hl,rfl,?_⟩
 walk_at "w"
 have fin:∀b:Bool,b=qO R.asks[k] R.asks[l]→∀x3 x4 x5 x6:L,aV [.d (aM R),.d (.int k),.d (.int l)] post (.rt (.d (.bl b))) [.d (aM R),.d (.int k),.d (.int l),x3,x4,x5,x6]:=fun b hb x3 x4 x5 x6=>by
  subst hb
  exact⟨_,aj (aj (aj aG)),h⟩
 have ec:=As R.asks[k] R.asks[l] (A:=(loA R.asks[k]:Int)) (B:=(loA R.asks[l]:Int)) rfl rfl rfl rfl
 generalize hA:((loA R.asks[k]:Nat):Int)=A at *
 generalize hB:((loA R.asks[l]:Nat):Int)=B at *
 generalize hC:((max R.asks[k].one R.asks[k].other:Nat):Int)=C at *
 generalize hD:((max R.asks[l].one R.asks[l].other:Nat):Int)=D' at *
 by_cases c1:A<B<;>by_cases c2:B<C<;>by_cases c3:C<D'<;>by_cases c4:B<A<;>by_cases c5:A<D'<;>by_cases c6:D' < C <;>
  simp only[c1,c2,c3,c4,c5,c6,if_true,if_false,ite_true,ite_false,decide_true,decide_false,isBl,Bool.false_eq_true]<;>refine fin _ ?_ _ _ _ _<;>rw[ec]<;>simp only[c1,c2,c3,c4,c5,c6]<;>decide
def CG(R:Ring)(ps:List Rat)(k:Nat):Bool:=decide (0<ps.getD k 0) && decide (ps.getD k 0<R.sz k)
def CH(R:Ring)(ps:List Rat):List Nat:=(List.range ps.length).filter (CG R ps)
def cW:FS:=fun ls post=>∃(R:Ring)(ps:List Rat)(c:Nat),ls=[.d (aM R),.d (.lst (ps.map frD))]∧R.Ok∧ps.length=R.asks.length∧(∀p∈ps,RB c p)∧c≤400000∧∀a,post (.own a ((CH R ps).map fun (k:Nat)=>D.int (k:Int))) ls
def jR:W L:=(wVar 0)
def jh:W Fl:=(wRet (oy 2 [0] (wU (wVar 1)) (jy [0,1]) (wAnd (bf (aF fj (aVal (wC (.tup [(.int 0),(.int 1)])) (aVal (wVar 1) aNil)))) (bf (aF fj (aVal (wVar 1) (aVal (wBin opIx (wBin opIx (wBin opIx (wVar 2) (wC (.int 1))) (wVar 0)) (wC (.int 3))) aNil))))) jR))
theorem yf{α:Type}{e1 e2:α→D}{p:α→Bool}{caps:Ev}{ti:W Bool}{te:W L}{k:List D→Ev→Prop}{g:α→D}(as:List α)(acc:List D)(l m:L)
  (h1:∀a∈as,∀Q:Bool→Ev→Prop,Q (p a) (.d (e1 a)::.d (e2 a)::caps)→ti (.d (e1 a)::.d (e2 a)::caps) Q)
  (h2:∀a∈as,p a=true→∀Q:L→Ev→Prop,Q (.d (g a)) (.d (e1 a)::.d (e2 a)::caps)→te (.d (e1 a)::.d (e2 a)::caps) Q)
  (hk:∀l m,k (acc++(as.filter p).map g) (l::m::caps)):eL (jy [0,1]) ti te (as.map fun a=>D.tup [e1 a,e2 a]) (l::m::caps) acc k:=by
 induction as generalizing acc l m with
 |nil=>simpa[eL]using hk l m
 | cons a as ih =>
  rw[List.map_cons]
  unfold eL
  rw[qo]
  refine h1 a List.mem_cons_self _ ?_
  cases hp:p a with
  | false =>
   rw[if_neg (by decide)]
   refine ih acc _ _ (fun b hb=>h1 b (List.mem_cons_of_mem _ hb)) (fun b hb=>h2 b (List.mem_cons_of_mem _ hb)) fun l m=>?_
   have:=hk l m
   rw[List.filter_cons,if_neg (by rw[hp];decide)]at this
   exact this
  | true =>
   rw[if_pos rfl]
   refine h2 a List.mem_cons_self hp _ ?_
   refine ih _ _ _ (fun b hb=>h1 b (List.mem_cons_of_mem _ hb)) (fun b hb=>h2 b (List.mem_cons_of_mem _ hb)) fun l m=>?_
   have:=hk l m
   rw[List.filter_cons,if_pos hp,List.map_cons]at this
   rw[List.append_assoc]
   exact this
theorem o6:∀ls post,ls.length=2→cW ls post→jh (ls++List.replicate 0 .un) (aV ls post):=by
 rintro ls post - ⟨R,ps,c,rfl,hR,hl,hb,hc,h⟩
 unfold jh
 walk_at "w"
 rw[z8]
 refine⟨by rw[List.length_map,List.length_range,hl];exact Nat.le_trans hR.few (by decide),?_⟩
 refine yf (p:=CG R ps) (g:=fun (k:Nat)=>D.int (k:Int)) _ _ _ _ (fun k hk Q hq=>?_) (fun k hk hp Q hq=>?_) fun l m=>?_
 ·
  have hk':k<ps.length:=by simpa using hk
  have hb':=hb _ (List.getElem_mem hk')
  rw[← xG hk']at hb'
  walk_at "w"
  refine⟨0,_,rfl,RB.zero.mono (by decide),hb'.mono hc,?_⟩
  walk_at "w"
  unfold CG at hq
  by_cases h0:0<ps.getD k 0
  ·
   rw[if_pos h0]
   refine⟨_,bJ (by omega),?_⟩
   walk_at "w"
   refine⟨_,_,rfl,hb'.mono hc,(hR.rb (List.getElem_mem _)).mono (by decide),?_⟩
   walk_at "w"
   rw[D2 (by omega)]at hq
   simpa only[h0,decide_true,Bool.true_and]using hq
  ·
   rw[if_neg h0]
   simpa only[h0,decide_false,Bool.false_and]using hq
 ·
  unfold jR
  walk_at "w"
  exact hq
 ·
  intro a
  walk_at "w"
  exact⟨_,aj (aj aG),h a⟩
def aX:FS:=fun ls post=>∃(R:Ring)(ks:List Nat),ls=[.d (aM R),.d (.lst (ks.map fun (k:Nat)=>D.int (k:Int)))]∧ks.length≤20∧(∀k∈ks,k<R.asks.length)∧post (.d (xK (fsB (crA R) ks))) ls
def aQ:W Fl:=(wIf (wNot (bf (aF jg (aVal (wVar 0) (aVal (wVar 3) (aVal (wVar 4) aNil)))))) (wRet (wTup (aVal (wVar 3) (aVal (wVar 4) aNil)))) cR)
def cz:W Fl:=(wFor (wSrc (wSl2 (wVar 1) (some (wBin bG (wVar 2) (wC (.int 1)))) none)) (bQ 4) aQ)
def bY:W Fl:=(wSeq (wFor (wU (wVar 1)) (jy [2,3]) cz)
  (wRet (wC .non)))
theorem qQ{R:Ring}{X:D}{x2:L}{k:Nat}(hk:k<R.asks.length){Q:Fl→Ev→Prop}:∀(ls:List Nat)(x4:L),(∀l∈ls,l<R.asks.length) →
  (∀l,ls.find? (fun l=>!crA R k l)=some l→∀ρ,Back ρ [.d (aM R),.d X] [.d (aM R),.d X]→Q (.rt (.d (.tup [.int (k:Int),.int (l:Int)]))) ρ)→(ls.find? (fun l=>!crA R k l)=none→∀x4,Q .nx [.d (aM R),.d X,x2,.d (.int (k:Int)),x4]) →
  d6 (bQ 4) aQ (ls.map fun (k:Nat)=>D.int (k:Int)) [.d (aM R),.d X,x2,.d (.int (k:Int)),x4] Q
 |[],x4,_,_,h2=>h2 rfl x4
 | l::ls,x4,hl,h1,h2=>by
  have hl0:=hl l List.mem_cons_self
  show d6 (bQ 4) aQ (D.int (l:Int)::ls.map fun (k:Nat)=>D.int (k:Int)) _ Q
  unfold d6
  show aQ [.d (aM R),.d X,x2,.d (.int (k:Int)),.d (.int (l:Int))] _
  unfold aQ
  walk_at "w"
  refine⟨R,k,l,hk,hl0,rfl,?_⟩
  have ec:qO R.asks[k] R.asks[l]=crA R k l:=by
   unfold crA
   rw[dS hk,dS hl0]
   rfl
  walk_at "w"
  rw[ec]
  cases e:crA R k l with
  | false =>
   walk_at "w"
   exact⟨by decide,h1 l (by rw[List.find?_cons,e];rfl) _ (aj (aj aG))⟩
  | true =>
   walk_at "w"
   exact qQ hk ls _ (fun m hm=>hl m (List.mem_cons_of_mem _ hm)) (fun m hm=>h1 m (by rw[List.find?_cons,e];exact hm)) (fun hm=>h2 (by rw[List.find?_cons,e];exact hm))
theorem Au{cr:Nat→Nat→Bool}{ks:List Nat}{j:Nat}(h:j<ks.length):fsB cr (ks.drop j)=match (ks.drop (j+1)).find? (fun l=>!cr ks[j] l)with
  |some l=>some (ks[j],l)
  |none=>fsB cr (ks.drop (j+1)):=by
 rw[List.drop_eq_getElem_cons h]
 rfl
theorem fU:∀ls post,ls.length=2→aX ls post→bY (ls++List.replicate 3 .un) (aV ls post):=by
 rintro ls post - ⟨R,ks,rfl,h20,hks,h⟩
 unfold bY
 walk_at "w"
 refine eW _ (fun j ρ=>(∃x2 x3 x4,ρ=[.d (aM R),.d (.lst (ks.map fun (k:Nat)=>D.int (k:Int))),x2,x3,x4])∧fsB (crA R) (ks.drop j)=fsB (crA R) ks) _ ⟨⟨_,_,_,rfl⟩,rfl⟩ ?_ ?_
 ·
  rintro j x ρ hj ⟨⟨x2,x3,x4,rfl⟩,hf⟩ Q h1 h2 h3 h4
  have hj':j<ks.length:=by
   have:=(List.getElem?_eq_some_iff.mp hj).1
   simpa[dO]using this
  have ex:x=.tup [.int (j:Int),.int (ks[j]:Int)]:=by
   have:(dO (ks.map fun (k:Nat)=>D.int (k:Int)))[j]?=some (.tup [.int (j:Int),.int (ks[j]:Int)]):=by simp[dO,hj']
   rw[this]at hj
   exact(Option.some.inj hj).symm
  subst ex
  unfold cz
  walk_at "w"
  rw[show(j:Int)+1=((j+1:Nat):Int) by omega,zE,zN (show j+1≤ks.length by omega)]
  rw[Au hj']at hf
  refine fun _=>qQ (hks _ (List.getElem_mem hj')) _ _ (fun l hl=>hks l (List.mem_of_mem_drop hl)) (fun l e ρ b=>h4 _ _ ?_) fun e x4=>h1 _ ⟨⟨_,_,_,rfl⟩,?_⟩
  ·
   rw[e]at hf
   rw[← hf]at h
   exact⟨_,b,h⟩
  ·
   rw[e]at hf
   exact hf
 ·
  rintro ρ ⟨⟨x2,x3,x4,rfl⟩,hf⟩
  have e:ks.drop (dO (ks.map fun (k:Nat)=>D.int (k:Int))).length=[]:=by simp[dO]
  rw[e]at hf
  rw[← hf]at h
  exact⟨_,aj (aj aG),h⟩
def jS:FS:=fun ls post=>∃d:D,ls=[.d d]∧post (.d (.bl (wayB d))) ls
def o7:W Fl:=(wRet (kg (wUn (oi "str") (wVar 0)) (wBin (y7 false) (wVar 0) (wTup (aVal (wC (.str "on")) (aVal (wC (.str "back")) aNil))))))
theorem vC:∀ls post,ls.length=1→jS ls post→o7 (ls++List.replicate 0 .un) (aV ls post):=by
 rintro ls post - ⟨d,rfl,h⟩
 unfold o7
 cases d with
 | str z =>
  walk_at "w"
  rw[Cv]
  exact⟨by decide,rfl,rfl,_,aj aG,h⟩
 | _ =>
  walk_at "w"
  exact⟨_,aj aG,h⟩
def hX:FS:=fun ls post=>∃(R:Ring)(k:Nat)(w:Bool)(hk:k<R.asks.length),ls=[.d (aM R),.d (.int k),.d (.str (wayS w))]∧R.Ok∧∀c,post (.own c ((wayL R.n R.asks[k] w).map fun (t:Nat)=>D.int (t:Int))) ls
def mw:W L:=(wBin dz (wBin gk (wBin gk (wVar 1) (wC (.int 1))) (wVar 0)) (wVar 2))
def mx:W L:=(wBin dz (wBin bG (wVar 1) (wVar 0)) (wVar 2))
def my:W Fl:=(wRet (oy 1 [4,3] (oe (wBin dz (wBin gk (wVar 4) (wVar 5)) (wVar 3))) (bQ 0) ou mw))
def mz:W Fl:=(wSeq (wIf (bf (wBin opEq (wVar 2) (wC (.str "on")))) (wRet (oy 1 [4,3] (oe (wBin dz (wBin gk (wVar 5) (wVar 4)) (wVar 3))) (bQ 0) ou mx)) cR)
  my)
def mB:W Fl:=(wSeq (wSet 5 (wBin opIx (wBin opIx (wBin opIx (wVar 0) (wC (.int 1))) (wVar 1)) (wC (.int 2))))
  mz)
def mC:W Fl:=(wSeq (wSet 4 (wBin opIx (wBin opIx (wBin opIx (wVar 0) (wC (.int 1))) (wVar 1)) (wC (.int 1))))
  mB)
def mD:W Fl:=(wSeq (wSet 3 (wFrz (bb dN (aVal (wBin opIx (wVar 0) (wC (.int 0))) aNil))))
  mC)
theorem sT:∀ls post,ls.length=3→hX ls post→mD (ls++List.replicate 3 .un) (aV ls post):=by
 rintro ls post - ⟨R,k,w,hk,rfl,hR,h⟩
 have ha:=hR.ask _ (List.getElem_mem hk)
 have h1:=ha.one
 have h2:=ha.other
 have hlo:=hR.lo
 have hhi:=hR.hi
 unfold mD
 walk_at "w"
 unfold mC
 walk_at "w"
 refine⟨_,bJ hk,?_⟩
 walk_at "w"
 unfold mB
 walk_at "w"
 refine⟨_,bJ hk,?_⟩
 walk_at "w"
 unfold mz
 walk_at "w"
 have f1:=xB h1 h2
 have f2:=xB h2 h1
 have b1:=Nat.mod_lt (R.asks[k].other+R.n-R.asks[k].one) (y:=R.n) (by omega)
 have b2:=Nat.mod_lt (R.asks[k].one+R.n-R.asks[k].other) (y:=R.n) (by omega)
 split
 ·
  rename_i hw
  subst hw
  rw[f1]
  refine⟨by omega,⟨by omega,by omega⟩,?_⟩
  rw[jJ,Int.toNat_natCast]
  refine⟨by rw[List.length_map,List.length_range];exact Nat.le_trans (show _≤12 by omega) (by decide),?_⟩
  refine lH (h:=fun s=>D.int (((R.asks[k].one+s) % R.n:Nat):Int)) _ _ _ (fun s hs Q q=>?_) fun l'=>?_
  ·
   unfold mx
   walk_at "w"
   refine⟨by omega,?_⟩
   rw[zY]
   exact q
  ·
   walk_at "w"
   intro c
   refine⟨_,aj (aj (aj aG)),?_⟩
   have:=h c
   simp only[wayL,onL,if_true,List.map_map]at this
   exact this
 ·
  rename_i hw
  have hw:w=false:=by simpa using hw
  subst hw
  unfold my
  walk_at "w"
  rw[f2]
  refine⟨by omega,⟨by omega,by omega⟩,?_⟩
  rw[jJ,Int.toNat_natCast]
  refine⟨by rw[List.length_map,List.length_range];exact Nat.le_trans (show _≤12 by omega) (by decide),?_⟩
  refine lH (h:=fun s=>D.int (((R.asks[k].one+R.n-1-s) % R.n:Nat):Int)) _ _ _ (fun s hs Q q=>?_) fun l'=>?_
  ·
   unfold mw
   walk_at "w"
   refine⟨by omega,?_⟩
   have hs:=List.mem_range.mp hs
   rw[zZ (by omega) (by omega)]
   exact q
  ·
   walk_at "w"
   intro c
   refine⟨_,aj (aj (aj aG)),?_⟩
   have:=h c
   simp only[wayL,sx,Bool.false_eq_true,if_false,List.map_map]at this
   exact this
def cM:FS:=fun ls post=>∃(p am:Rat)(w:Bool),ls=[.d (frD p),.d (.str (wayS w)),.d (frD am)]∧RB 4400 p∧RB 4400 am∧post (.d (frD (bhQ p w am))) ls
def fk:W Fl:=(wRet (wIfE (bf (wBin opEq (wVar 1) (wC (.str "on")))) (aF o4 (aVal (wVar 0) (aVal (wVar 2) aNil))) (aF jQ (aVal (wVar 0) (aVal (wVar 2) aNil)))))
theorem mE:∀ls post,ls.length=3→cM ls post→fk (ls++List.replicate 0 .un) (aV ls post):=by
 rintro ls post - ⟨p,am,w,rfl,hp,ha,h⟩
 unfold fk
 unfold bhQ at h
 walk_at "w"
 cases w with
 | true =>
  walk_at "w"
  exact Ar hp ha ⟨_,aj (aj (aj aG)),h⟩
 | false =>
  walk_at "w"
  exact qN hp ha ⟨_,aj (aj (aj aG)),h⟩
def dU:FS:=fun ls post=>∃(ps:List Rat)(s:aI),ls=[.d (.lst (ps.map frD)),.d (slD s)]∧ps.length≤20∧s.k<ps.length∧s.l<ps.length∧s.k≠s.l∧(∀p∈ps,RB 4000 p)∧RB 4000 s.am∧∀a,post (.own a ((slL ps s).map frD)) ls
def ji:W Fl:=(wSeq (wSet 2 (bb nD (aVal (wVar 0) aNil)))
  (wSeq (rM 2 (wBin opIx (wVar 1) (wC (.int 0))) (aF cM (aVal (dC 2 (wIxV 2 (wBin opIx (wVar 1) (wC (.int 0)))) (wBin opIx (wVar 2) (wBin opIx (wVar 1) (wC (.int 0))))) (aVal (wBin opIx (wVar 1) (wC (.int 1))) (aVal (wBin opIx (wVar 1) (wC (.int 4))) aNil)))))
  (wSeq (rM 2 (wBin opIx (wVar 1) (wC (.int 2))) (aF cM (aVal (dC 2 (wIxV 2 (wBin opIx (wVar 1) (wC (.int 2)))) (wBin opIx (wVar 2) (wBin opIx (wVar 1) (wC (.int 2))))) (aVal (wBin opIx (wVar 1) (wC (.int 3))) (aVal (wBin opIx (wVar 1) (wC (.int 4))) aNil)))))
  (wRet (jw 2)))))
theorem yg{n k:Nat}(h:k<n):ixN n (k:Int)=some k:=by
 unfold ixN
 rw[if_pos (by omega),if_pos (by omega)]
 simp
theorem o8:∀ls post,ls.length=2→dU ls post→ji (ls++List.replicate 1 .un) (aV ls post):=by
 rintro ls post - ⟨ps,s,rfl,h20,hk,hl,hkl,hp,ha,h⟩
 unfold ji
 simp only[slD]
 walk_at "w"
 have r1:=hp _ (List.getElem_mem hk)
 have r2:=hp _ (List.getElem_mem hl)
 refine fun a=>⟨_,bJ hk,ps[s.k],s.am,s.kw,rfl,r1.mono (by decide),ha.mono (by decide),?_⟩
 walk_at "w"
 have hl':s.l<(ps.set s.k (bhQ ps[s.k] s.kw s.am)).length:=by rw[List.length_set];exact hl
 have e1:(ps.set s.k (bhQ ps[s.k] s.kw s.am))[s.l]=ps[s.l]:=by rw[List.getElem_set_ne hkl]
 refine⟨s.k,yg hk,?_⟩
 rw[← List.map_set]
 refine⟨_,bJ hl',_,s.am,s.lw,rfl,by rw[e1];exact r2.mono (by decide),ha.mono (by decide),?_⟩
 walk_at "w"
 refine⟨s.l,yg (by simpa using hl),_,aj (aj aG),?_⟩
 have h:=h a
 unfold slL at h
 rw[bR hk,bR hl',List.map_set]at h
 exact h
def cu:FS:=fun ls post=>∃(R:Ring)(k l:Nat)(kw lw:Bool)(hk:k<R.asks.length)(hl:l<R.asks.length),ls=[.d (aM R),.d (.int (k:Int)),.d (.str (wayS kw)),.d (.int (l:Int)),.d (.str (wayS lw))]∧R.Ok∧post (.d (.bl (gp R.n R.asks[k] kw R.asks[l] lw))) ls
def fR:W L:=(wBin (y7 false) (wVar 0) (wVar 1))
def d9:W Fl:=(wSeq (wSet 5 (wFrz (aF hX (aVal (wVar 0) (aVal (wVar 3) (aVal (wVar 4) aNil))))))
  (wRet (wg (bf (bb DD (aVal (wFrz (oy 1 [5] (wSrc (aF hX (aVal (wVar 0) (aVal (wVar 1) (aVal (wVar 2) aNil))))) (bQ 0) ou fR)) aNil))))))
theorem lB:∀ls post,ls.length=5→cu ls post→d9 (ls++List.replicate 1 .un) (aV ls post):=by
 rintro ls post - ⟨R,k,l,kw,lw,hk,hl,rfl,hR,h⟩
 unfold d9
 walk_at "w"
 refine⟨R,l,lw,hl,rfl,hR,fun c=>?_⟩
 walk_at "w"
 refine⟨R,k,kw,hk,rfl,hR,fun c2=>?_⟩
 walk_at "w"
 have hlen:=Cm (hR.ask _ (List.getElem_mem hk)) kw
 have hhi:=hR.hi
 refine⟨D7 (by omega),lH (h:=fun t=>.bl (decide (t∈wayL R.n R.asks[l] lw))) (wayL R.n R.asks[k] kw) [] _ (fun t hm Q hq=>?_) fun l' a0=>?_⟩
 ·
  unfold fR
  walk_at "w"
  refine⟨rfl,by simp[lV],?_⟩
  rw[uv]
  exact hq
 ·
  rw[List.nil_append]
  refine⟨(wayL R.n R.asks[k] kw).map fun t=>decide (t∈wayL R.n R.asks[l] lw),by rw[List.map_map];rfl,?_⟩
  walk_at "w"
  refine⟨_,aj (aj (aj (aj (aj aG)))),?_⟩
  unfold gp at h
  simpa[List.any_map]using h
def bZ:FS:=fun ls post=>∃(d:D)(n:Nat),ls=[.d d,.d (.int (n:Int))]∧post (.d (.bl (mV n d))) ls
def cg:W Fl:=(wSeq (wIf (wOr (wNot (bf (wUn (oi "tuple") (wVar 0)))) (bf (wBin opNe (bb dN (aVal (wVar 0) aNil)) (wC (.int 5))))) (wRet (wC (.bl false))) cR)
  (wSeq (wIf (wOr (wNot (bf (aF bM (aVal (wBin opIx (wVar 0) (wC (.int 0))) (aVal (wVar 1) aNil))))) (wNot (bf (aF bM (aVal (wBin opIx (wVar 0) (wC (.int 2))) (aVal (wVar 1) aNil)))))) (wRet (wC (.bl false))) cR)
  (wRet (kg (aF jS (aVal (wBin opIx (wVar 0) (wC (.int 1))) aNil)) (kg (aF jS (aVal (wBin opIx (wVar 0) (wC (.int 3))) aNil)) (aF jf (aVal (wBin opIx (wVar 0) (wC (.int 4))) aNil)))))))
theorem gF:∀ls post,ls.length=2→bZ ls post→cg (ls++List.replicate 0 .un) (aV ls post):=by
 rintro ls post - ⟨d,n,rfl,h⟩
 unfold cg
 cases d with
 | tup xs =>
  by_cases h5:xs.length=5
  ·
   obtain⟨a,b,c,d,e,rfl⟩:=five h5
   rw[Cy]at h
   walk_at "w"
   refine⟨_,_,rfl,?_⟩
   cases e1:oR a n with
   | false =>
    rw[e1]at h
    walk_at "w"
    exact⟨_,aj (aj aG),h⟩
   | true =>
    rw[e1,Bool.true_and]at h
    walk_at "w"
    refine⟨_,_,rfl,?_⟩
    cases e2:oR c n with
    | false =>
     rw[e2]at h
     walk_at "w"
     exact⟨_,aj (aj aG),h⟩
    | true =>
     rw[e2,Bool.true_and]at h
     walk_at "w"
     refine⟨_,rfl,?_⟩
     cases e3:wayB b with
     | false =>
      rw[e3]at h
      walk_at "w"
      exact⟨_,aj (aj aG),h⟩
     | true =>
      rw[e3,Bool.true_and]at h
      walk_at "w"
      refine⟨_,rfl,?_⟩
      cases e4:wayB d with
      | false =>
       rw[e4]at h
       walk_at "w"
       exact⟨_,aj (aj aG),h⟩
      | true =>
       rw[e4,Bool.true_and]at h
       walk_at "w"
       exact⟨_,rfl,_,aj (aj aG),h⟩
  ·
   rw[xU h5]at h
   walk_at "w"
   have:¬((xs.length:Int)=5):=by omega
   simp only[this,not_false_eq_true,decide_true,if_true,ite_true]
   exact⟨_,aj (aj aG),h⟩
 | _ =>
  rw[Ai (by intro xs e;cases e)]at h
  walk_at "w"
  exact⟨_,aj (aj aG),h⟩
def fm:FS:=fun ls post=>∃(R:Ring)(ps:List Rat)(k:Nat)(w:Bool),ls=[.d (aM R),.d (.lst (ps.map frD)),.d (.int (k:Int)),.d (.str (wayS w))]∧SlOk R ps∧k<ps.length∧post (.d (frD (nsQ R ps k w))) ls
def kK:W Fl:=(wRet (wIfE (bf (wBin opEq (wVar 3) (wC (.str "on")))) (aF jQ (aVal (wBin opIx (wBin opIx (wBin opIx (wVar 0) (wC (.int 1))) (wVar 2)) (wC (.int 3))) (aVal (wBin opIx (wVar 1) (wVar 2)) aNil))) (wBin opIx (wVar 1) (wVar 2))))
theorem qR:∀ls post,ls.length=4→fm ls post→kK (ls++List.replicate 0 .un) (aV ls post):=by
 rintro ls post - ⟨R,ps,k,w,rfl,hS,hk,h⟩
 have hk':k<R.asks.length:=by rw[← hS.len];exact hk
 have r1:=hS.sz_rb hk
 have r2:=hS.rb hk
 rw[i3 hk']at r1
 rw[bR hk]at r2
 unfold nsQ at h
 rw[i3 hk',bR hk]at h
 unfold kK
 walk_at "w"
 cases w with
 | true =>
  walk_at "w"
  refine⟨_,bJ hk',?_⟩
  walk_at "w"
  refine⟨_,bJ hk,?_⟩
  walk_at "w"
  exact qN (r1.mono (by decide)) (r2.mono (by decide)) ⟨_,aj (aj (aj (aj aG))),h⟩
 | false =>
  walk_at "w"
  exact⟨_,bJ hk,_,aj (aj (aj (aj aG))),h⟩
def dW:FS:=fun ls post=>∃(R:Ring)(ps:List Rat)(k l:Nat)(kw lw:Bool)(more:List D),ls=[.d (aM R),.d (.lst (ps.map frD)),.d (.tup (.int (k:Int)::.str (wayS kw)::.int (l:Int)::.str (wayS lw)::more))]∧SlOk R ps∧k<ps.length∧l<ps.length∧post (.d (frD (msQ R ps k kw l lw))) ls
def jj:W Fl:=(wRet (aF mv (aVal (wFrz (aF fm (aVal (wVar 0) (aVal (wVar 1) (aVal (wBin opIx (wVar 2) (wC (.int 0))) (aVal (wBin opIx (wVar 2) (wC (.int 1))) aNil)))))) (aVal (wFrz (aF fm (aVal (wVar 0) (aVal (wVar 1) (aVal (wBin opIx (wVar 2) (wC (.int 2))) (aVal (wBin opIx (wVar 2) (wC (.int 3))) aNil)))))) aNil))))
theorem o9:∀ls post,ls.length=3→dW ls post→jj (ls++List.replicate 0 .un) (aV ls post):=by
 rintro ls post - ⟨R,ps,k,l,kw,lw,more,rfl,hS,hk,hl,h⟩
 unfold jj
 walk_at "w"
 refine⟨R,ps,k,kw,rfl,hS,hk,?_⟩
 walk_at "w"
 refine⟨R,ps,l,lw,rfl,hS,hl,?_⟩
 walk_at "w"
 exact⟨_,_,rfl,(jM hS hk kw).mono (by decide),(jM hS hl lw).mono (by decide),_,aj (aj (aj aG)),h⟩
def isSl(R:Ring)(ps:List Rat)(s:aI):Bool:=!decide (s.k=s.l) && (gp R.n (aY R s.k) s.kw (aY R s.l) s.lw && (decide (0<s.am) && !decide (msQ R ps s.k s.kw s.l s.lw<s.am)))
def jk:FS:=fun ls post=>∃(R:Ring)(ps:List Rat)(d:D),ls=[.d (aM R),.d (.lst (ps.map frD)),.d d]∧SlOk R ps∧(∀s,slOf d=some s→s.k<ps.length→s.l<ps.length→RB 400000 s.am)∧post (.d (.bl (slT R ps d))) ls
def kM:W Fl:=(wSeq (wIf (wOr (wNot (bf (aF bZ (aVal (wVar 2) (aVal (wFrz (bb dN (aVal (wBin opIx (wVar 0) (wC (.int 1))) aNil))) aNil))))) (bf (wBin opEq (wBin opIx (wVar 2) (wC (.int 0))) (wBin opIx (wVar 2) (wC (.int 2)))))) (wRet (wC (.bl false))) cR)
  (wSeq (wIf (wNot (bf (aF cu (aVal (wVar 0) (aVal (wBin opIx (wVar 2) (wC (.int 0))) (aVal (wBin opIx (wVar 2) (wC (.int 1))) (aVal (wBin opIx (wVar 2) (wC (.int 2))) (aVal (wBin opIx (wVar 2) (wC (.int 3))) aNil)))))))) (wRet (wC (.bl false))) cR)
  (wRet (kg (aF fj (aVal (wC (.tup [(.int 0),(.int 1)])) (aVal (wBin opIx (wVar 2) (wC (.int 4))) aNil))) (wg (bf (aF fj (aVal (wFrz (aF dW (aVal (wVar 0) (aVal (wVar 1) (aVal (wVar 2) aNil))))) (aVal (wBin opIx (wVar 2) (wC (.int 4))) aNil)))))))))
theorem Fp{R:Ring}{ps:List Rat}(h:SlOk R ps){k l:Nat}(hk:k<ps.length)(hl:l<ps.length)(kw lw:Bool):RB 400000 (msQ R ps k kw l lw):=by
 rcases(h.ms hk hl kw lw).2.2.2 with e|e
 ·
  rw[e];exact(jM h hk _).mono (by decide)
 ·
  rw[e];exact(jM h hl _).mono (by decide)
theorem qS:∀ls post,ls.length=3→jk ls post→kM (ls++List.replicate 0 .un) (aV ls post):=by
 rintro ls post - ⟨R,ps,d,rfl,hS,ha,h⟩
 unfold kM
 walk_at "w"
 refine⟨_,R.asks.length,rfl,?_⟩
 cases ef:mV R.asks.length d with
 | false =>
  have e:slT R ps d=false:=by
   unfold mV at ef
   unfold slT
   rw[hS.len]
   split
   ·
    rename_i s e
    rw[e]at ef
    have ef:(decide (s.k<R.asks.length) && decide (s.l<R.asks.length))=false:=ef
    rw[← Bool.and_assoc,ef]
    rfl
   ·
    rfl
  rw[e]at h
  walk_at "w"
  exact⟨_,aj (aj (aj aG)),h⟩
 |true =>
 obtain⟨s,es,hk',hl'⟩:∃s,slOf d=some s∧s.k<R.asks.length∧s.l<R.asks.length:=by
  unfold mV at ef
  split at ef
  ·
   rename_i s e
   rw[Bool.and_eq_true,decide_eq_true_eq,decide_eq_true_eq]at ef
   exact⟨s,e,ef.1,ef.2⟩
  ·
   cases ef
 have hk:s.k<ps.length:=by rw[hS.len];exact hk'
 have hl:s.l<ps.length:=by rw[hS.len];exact hl'
 have ha2:=ha s es hk hl
 have:=xT es
 subst this
 rw[xV hk hl]at h
 unfold slB at h
 rw[dS hk',dS hl']at h
 simp only[slD]at h ⊢
 walk_at "w"
 by_cases e:s.k=s.l
 ·
  rw[if_pos (by omega)]
  rw[decide_eq_true e]at h
  exact⟨_,aj (aj (aj aG)),h⟩
 rw[if_neg (by omega)]
 rw[decide_eq_false e]at h
 refine⟨R,s.k,s.l,s.kw,s.lw,hk',hl',rfl,hS.ok,?_⟩
 walk_at "w"
 cases e1:gp R.n R.asks[s.k] s.kw R.asks[s.l] s.lw with
 | false =>
  rw[e1]at h
  walk_at "w"
  exact⟨_,aj (aj (aj aG)),h⟩
 | true =>
  rw[e1]at h
  walk_at "w"
  refine⟨0,s.am,rfl,RB.zero.mono (by decide),ha2,?_⟩
  walk_at "w"
  by_cases e2:0<s.am
  ·
   rw[decide_eq_true e2]at h
   rw[if_pos e2]
   refine⟨R,ps,s.k,s.l,s.kw,s.lw,_,rfl,hS,hk,hl,?_⟩
   walk_at "w"
   refine⟨_,s.am,rfl,Fp hS hk hl _ _,ha2,?_⟩
   walk_at "w"
   refine⟨_,aj (aj (aj aG)),?_⟩
   simpa using h
  ·
   rw[decide_eq_false e2]at h
   rw[if_neg e2]
   exact⟨_,aj (aj (aj aG)),h⟩
def stD(ps:List Rat)(d:D):List Rat:=match slOf d with
 |some s=>slL ps s
 |none=>ps
def runD(R:Ring)(ps:List Rat)(ss:List D):List Rat:=ss.foldl stD ps
def badD(R:Ring):Nat→List Rat→List D→Option Nat
 |_,_,[]=>none
 |i,ps,d::ss=>if slT R ps d then badD R (i+1) (stD ps d) ss else some i
def bg:FSX:=fun ds post xp=>∃(R:Ring)(ps:List Rat)(ss:List D)(D:Nat),ds=[aM R,.lst (ps.map frD),.lst ss]∧SlOk R ps∧ss.length≤99∧(∀d∈ss,∀s,slOf d=some s→RB 4000 s.am∧s.am.den∣D)∧(0<D∧D<2^1500∧(∀a∈R.asks,a.size.den∣D)∧(∀p∈ps,p.den∣D)) ∧
 (badD R 0 ps ss=none→∀ a,post (.own a ((runD R ps ss).map frD)))∧∀ i,badD R 0 ps ss=some i→xp ⟨"NoSlide",["number"],[.int (i:Int)]⟩
def mF(xp:Xc→Prop):W Fl:=(wSeq (wIf (wNot (bf (aF jk (aVal (wVar 0) (aVal (wVar 3) (aVal (wVar 5) aNil)))))) (qj "NoSlide" ["number"] xp (aVal (wVar 4) aNil)) cR)
  (wSet 3 (aF dU (aVal (wVar 3) (aVal (wVar 5) aNil)))))
def mG(xp:Xc→Prop):W Fl:=(wSeq (wIf (wNot (bf (wUn (oi "list") (wVar 2)))) (qj "NoSlide" ["number"] xp (aVal (wC .non) aNil)) cR)
  (wSeq (wSet 3 (bb nD (aVal (wVar 1) aNil)))
  (wSeq (wFor (wU (wVar 2)) (jy [4,5]) (mF xp))
  (wRet (jw 3)))))
theorem CI{R:Ring}{ps:List Rat}{s:aI}(h:SlOk R ps)(hk:s.k<ps.length)(hl:s.l<ps.length)(e:slB R ps s=true):SlDo R ps s:=by
 unfold slB at e
 simp only[Bool.and_eq_true,Bool.not_eq_true',decide_eq_false_iff_not,decide_eq_true_eq]at e
 obtain⟨e1,_,e3,e4⟩:=e
 obtain⟨m1,m2,m3,_⟩:=h.ms hk hl s.kw s.lw
 have le:=Rat.not_lt.mp e4
 exact⟨hk,hl,e1,Rat.le_of_lt e3,Rat.le_trans le m2,Rat.le_trans le m3⟩
structure SlD (R:Ring) (ps:List Rat) (D:Nat):Prop where
 ok:SlOk R ps
 d0:0<D
 d1:D<2^1500
 da:∀a∈R.asks,a.size.den∣D
 dp:∀p∈ps,p.den∣D
theorem SlD.slid{R:Ring}{ps:List Rat}{D:Nat}{s:aI}(h:SlD R ps D)(hs:SlDo R ps s)(dm:s.am.den∣D):SlD R (slL ps s) D:=by
 have dk:∀k,k<ps.length→(ps.getD k 0).den∣D:=fun k hk=>h.dp _ (by rw[bR hk];exact List.getElem_mem hk)
 have db:∀(k:Nat)(w:Bool),k<ps.length→(bhQ (ps.getD k 0) w s.am).den∣D:=fun k w hk=>by
  unfold bhQ
  cases w
  ·
   exact sF h.d0 (dk k hk) dm
  ·
   exact sE h.d0 (dk k hk) dm
 have dp':∀p∈slL ps s,p.den∣D:=fun p hp=>by
  obtain⟨i,hi,rfl⟩:=List.getElem_of_mem hp
  rw[← bR hi,eN hs.k hs.l hs.kl]
  rw[bz]at hi
  split
  ·
   exact db _ _ hs.k
  ·
   split
   ·
    exact db _ _ hs.l
   ·
    exact dk i hi
 refine⟨⟨h.ok.ok,by rw[bz];exact h.ok.len,fun i hi=>?_,D,h.d0,h.d1,h.da,dp'⟩,h.d0,h.d1,h.da,dp'⟩
 rw[bz]at hi
 rw[eN hs.k hs.l hs.kl]
 split
 ·
  rename_i e;subst e
  exact uA (h.ok.lo _ hs.k).1 (h.ok.lo _ hs.k).2 hs.nn hs.kn
 ·
  split
  ·
   rename_i e;subst e
   exact uA (h.ok.lo _ hs.l).1 (h.ok.lo _ hs.l).2 hs.nn hs.ln
  ·
   exact h.ok.lo i hi
theorem Eh{R:Ring}{ps:List Rat}(h:SlOk R ps):∀p∈ps,RB 4000 p:=fun p hp=>by
 obtain⟨i,hi,rfl⟩:=List.getElem_of_mem hp
 rw[← bR hi]
 exact(h.rb hi).mono (by decide)
theorem yh{R:Ring}{ss:List D}{j:Nat}{qs:List Rat}(h:j<ss.length):badD R j qs (ss.drop j)=if slT R qs ss[j]then badD R (j+1) (stD qs ss[j]) (ss.drop (j+1))else some j:=by
 rw[List.drop_eq_getElem_cons h]
 rfl
theorem Av{ss:List D}{j:Nat}{x:D}(hj:(dO ss)[j]?=some x):∃h:j<ss.length,x=.tup [.int (j:Int),ss[j]]:=by
 have hj':j<ss.length:=by
  have:=(List.getElem?_eq_some_iff.mp hj).1
  simpa[dO]using this
 refine⟨hj',?_⟩
 have:(dO ss)[j]?=some (.tup [.int (j:Int),ss[j]]):=by simp[dO,hj']
 rw[this]at hj
 exact(Option.some.inj hj).symm
theorem sU:∀ds post xp,ds.length=3→bg ds post xp→mG xp (ds.map .d++List.replicate 3 .un) (okX post):=by
 rintro ds post xp - ⟨R,ps,ss,D,rfl,hS,h20,hs,⟨d0,d1,da,dp⟩,h,hx⟩
 unfold mG
 walk_at "w"
 refine fun a0=>eW _ (fun j ρ=>∃(qs:List Rat)(a:Addr)(x4 x5:L),ρ=[.d (aM R),.d (.lst (ps.map frD)),.d (.lst ss),.own a (qs.map frD),x4,x5]∧SlD R qs D∧qs.length=ps.length∧badD R j qs (ss.drop j)=badD R 0 ps ss∧runD R qs (ss.drop j)=runD R ps ss) _ ⟨ps,_,_,_,rfl,⟨hS,d0,d1,da,dp⟩,rfl,rfl,rfl⟩ ?_ ?_
 ·
  rintro j x ρ hj ⟨qs,a,x4,x5,rfl,hD,hl,hb,hr⟩ Q h1 h2 h3' h4
  obtain⟨hj',ex⟩:=Av hj
  subst ex
  have hm:=List.getElem_mem hj'
  have s3:=hs _ hm
  rw[yh hj']at hb
  have hr':runD R (stD qs ss[j]) (ss.drop (j+1))=runD R ps ss:=by
   rw[← hr,List.drop_eq_getElem_cons hj']
   rfl
  unfold mF
  walk_at "w"
  refine⟨R,qs,ss[j],rfl,hD.ok,fun s e _ _=>(s3 s e).1.mono (by decide),?_⟩
  walk_at "w"
  cases e:slT R qs ss[j]with
  | false =>
   rw[e,if_neg (by decide)]at hb
   walk_at "w"
   exact⟨.inr trivial,by decide,hx j hb.symm⟩
  | true =>
   rw[e,if_pos rfl]at hb
   obtain⟨s,es,hk,hl',e'⟩:=AW e
   have dd:=CI hD.ok hk hl' e'
   have es':slOf ss[j]=some s:=by rw[es];exact i4 s
   obtain⟨s4,s5⟩:=s3 s es'
   have est:stD qs ss[j]=slL qs s:=by unfold stD;rw[es']
   rw[est]at hb hr'
   rw[es]
   walk_at "w"
   refine⟨qs,s,rfl,by rw[hD.ok.len];exact hD.ok.ok.few,hk,hl',dd.kl,Eh hD.ok,s4,fun c=>?_⟩
   walk_at "w"
   exact h1 _ ⟨_,_,_,_,rfl,hD.slid dd s5,by rw[bz];exact hl,hb,hr'⟩
 ·
  rintro ρ ⟨qs,a,x4,x5,rfl,hD,hl,hb,hr⟩
  have e:ss.drop (dO ss).length=[]:=by simp[dO]
  rw[e]at hb hr
  walk_at "w"
  have h:=h hb.symm a
  rw[← hr]at h
  exact h
def fo:FS:=fun ls post=>∃(R:Ring)(k l:Nat)(hk:k<R.asks.length)(hl:l<R.asks.length),ls=[.d (aM R),.d (.int (k:Int)),.d (.int (l:Int))]∧R.Ok∧post (.d (.tup [.str (wayS (bc R.n R.asks[k] R.asks[l]).1),.str (wayS (bc R.n R.asks[k] R.asks[l]).2)])) ls
def eg:W Fl:=(wIf (bf (aF cu (aVal (wVar 0) (aVal (wVar 1) (aVal (wBin opIx (wVar 3) (wC (.int 0))) (aVal (wVar 2) (aVal (wBin opIx (wVar 3) (wC (.int 1))) aNil))))))) (wRet (jw 3)) cR)
def gG:W Fl:=(wSeq (wFor (wSrc (wTup (aVal (wTup (aVal (wC (.str "on")) (aVal (wC (.str "on")) aNil))) (aVal (wTup (aVal (wC (.str "on")) (aVal (wC (.str "back")) aNil))) (aVal (wTup (aVal (wC (.str "back")) (aVal (wC (.str "on")) aNil))) aNil))))) (bQ 3) eg)
  (wRet (wTup (aVal (wC (.str "back")) (aVal (wC (.str "back")) aNil)))))
theorem sV{R:Ring}{k l:Nat}(hk:k<R.asks.length)(hl:l<R.asks.length)(hR:R.Ok)(aw bw:Bool){Q:Fl→Ev→Prop}(h1:gp R.n R.asks[k] aw R.asks[l] bw=true→∀ρ,Back ρ [.d (aM R),.d (.int (k:Int)),.d (.int (l:Int))] [.d (aM R),.d (.int (k:Int)),.d (.int (l:Int))]→Q (.rt (.d (.tup [.str (wayS aw),.str (wayS bw)]))) ρ)
  (h2:gp R.n R.asks[k] aw R.asks[l] bw=false→Q .nx [.d (aM R),.d (.int (k:Int)),.d (.int (l:Int)),.d (.tup [.str (wayS aw),.str (wayS bw)])]) :
  eg [.d (aM R),.d (.int (k:Int)),.d (.int (l:Int)),.d (.tup [.str (wayS aw),.str (wayS bw)])] Q:=by
 unfold eg
 walk_at "w"
 refine⟨R,k,l,aw,bw,hk,hl,rfl,hR,?_⟩
 walk_at "w"
 cases e:gp R.n R.asks[k] aw R.asks[l] bw with
 |true=>exact h1 e _ (aj (aj (aj aG)))
 |false=>exact h2 e
theorem mY:∀ls post,ls.length=3→fo ls post→gG (ls++List.replicate 1 .un) (aV ls post):=by
 rintro ls post - ⟨R,k,l,hk,hl,rfl,hR,h⟩
 unfold gG
 walk_at "w"
 have e1:Str.ofString "on"=wayS true:=rfl
 have e2:Str.ofString "back"=wayS false:=rfl
 rw[e1,e2]
 refine⟨by decide,by decide,by decide,by decide,?_⟩
 unfold bc at h
 unfold d6
 refine sV hk hl hR true true (fun e ρ b=>?_) fun e=>?_
 ·
  rw[if_pos e]at h
  exact⟨_,b,h⟩
 rw[if_neg (by simp[e])]at h
 unfold d6
 refine sV hk hl hR true false (fun e ρ b=>?_) fun e=>?_
 ·
  rw[if_pos e]at h
  exact⟨_,b,h⟩
 rw[if_neg (by simp[e])]at h
 unfold d6
 refine sV hk hl hR false true (fun e ρ b=>?_) fun e=>?_
 ·
  rw[if_pos e]at h
  exact⟨_,b,h⟩
 rw[if_neg (by simp[e])]at h
 unfold d6
 exact⟨by decide,_,aj (aj (aj aG)),h⟩
def cI:FS:=fun ls post=>∃(R:Ring)(ps:List Rat)(k l:Nat)(hk:k<R.asks.length)(hl:l<R.asks.length),ls=[.d (aM R),.d (.lst (ps.map frD)),.d (.int (k:Int)),.d (.int (l:Int))]∧SlOk R ps∧post (.d (slD (gsl R ps k l (bc R.n R.asks[k] R.asks[l])))) ls
def dc:W Fl:=(wSeq (wSet 4 (wFrz (aF fo (aVal (wVar 0) (aVal (wVar 2) (aVal (wVar 3) aNil))))))
  (wSeq (wSet 5 (wTup (aVal (wVar 2) (aVal (wBin opIx (wVar 4) (wC (.int 0))) (aVal (wVar 3) (aVal (wBin opIx (wVar 4) (wC (.int 1))) aNil))))))
  (wRet (wBin t7 (wVar 5) (wTup (aVal (wFrz (aF dW (aVal (wVar 0) (aVal (wVar 1) (aVal (wVar 5) aNil))))) aNil))))))
theorem jT:∀ls post,ls.length=4→cI ls post→dc (ls++List.replicate 2 .un) (aV ls post):=by
 rintro ls post - ⟨R,ps,k,l,hk,hl,rfl,hS,h⟩
 unfold dc
 walk_at "w"
 refine⟨R,k,l,hk,hl,rfl,hS.ok,?_⟩
 walk_at "w"
 refine⟨by decide,R,ps,k,l,_,_,[],rfl,hS,by rw[hS.len];exact hk,by rw[hS.len];exact hl,?_⟩
 walk_at "w"
 refine⟨by decide,by simp,by simp,by decide,_,aj (aj (aj (aj aG))),h⟩
def ft:FS:=fun ls post=>∃(R:Ring)(ps:List Rat),ls=[.d (aM R),.d (.lst (ps.map frD))]∧SlOk R ps∧∀a,post (.own a ((slsF R 20 ps).map slD)) ls
def ix:W Fl:=(wSeq (wSet 5 (wFrz (aF cI (aVal (wVar 0) (aVal (wVar 2) (aVal (wBin opIx (wVar 4) (wC (.int 0))) (aVal (wBin opIx (wVar 4) (wC (.int 1))) aNil)))))))
  (wSeq (pX (wApp 3 (wVar 5)))
  (wSeq (wSet 2 (wFrz (aF dU (aVal (wVar 2) (aVal (wVar 5) aNil)))))
  (wSet 4 (wFrz (aF aX (aVal (wVar 0) (aVal (wFrz (aF cW (aVal (wVar 0) (aVal (wVar 2) aNil)))) aNil))))))))
def gH:W Fl:=(wSeq (wSet 2 (wVar 1))
  (wSeq (wSet 3 (wLst aNil))
  (wSeq (wSet 4 (wFrz (aF aX (aVal (wVar 0) (aVal (wFrz (aF cW (aVal (wVar 0) (aVal (wVar 2) aNil)))) aNil)))))
  (wSeq (pY (bf (wBin qe (wVar 4) (wC .non))) ix)
  (wRet (jw 3))))))
theorem qT{R:Ring}{ps:List Rat}(h:SlOk R ps){post:L→List L→Prop}(q:post (.d (xK (fsB (crA R) (ptL R ps)))) [.d (aM R),.d (.lst ((ptL R ps).map fun (k:Nat)=>D.int (k:Int)))]):aX [.d (aM R),.d (.lst ((ptL R ps).map fun (k:Nat)=>D.int (k:Int)))] post:=by
 refine⟨R,ptL R ps,rfl,?_,fun k hk=>by rw[← h.len];exact(jL hk).1,q⟩
 refine Nat.le_trans (List.length_filter_le _ _) ?_
 rw[List.length_range,h.len]
 exact h.ok.few
theorem nR{R:Ring}{ps:List Rat}(h:SlOk R ps){post:L→List L→Prop}(q:∀a,post (.own a ((ptL R ps).map fun (k:Nat)=>D.int (k:Int))) [.d (aM R),.d (.lst (ps.map frD))]):cW [.d (aM R),.d (.lst (ps.map frD))] post:=by
 refine⟨R,ps,1800,rfl,h.ok,h.len,fun p hp=>?_,by decide,q⟩
 obtain⟨i,hi,rfl⟩:=List.getElem_of_mem hp
 rw[← bR hi]
 exact h.rb hi
theorem Fq{R:Ring}{ps:List Rat}(h:SlOk R ps){k l:Nat}(hk:k<ps.length)(hl:l<ps.length)(w:Bool×Bool):RB 4000 (gsl R ps k l w).am:=by
 show RB 4000 (msQ R ps k w.1 l w.2)
 rcases(h.ms hk hl w.1 w.2).2.2.2 with e|e
 ·
  rw[e];exact(jM h hk _).mono (by decide)
 ·
  rw[e];exact(jM h hl _).mono (by decide)
theorem Fs{R:Ring}{ps:List Rat}(h:SlOk R ps):∀p∈ps,RB 4000 p:=fun p hp=>by
 obtain⟨i,hi,rfl⟩:=List.getElem_of_mem hp
 rw[← bR hi]
 exact(h.rb hi).mono (by decide)
theorem mZ:∀ls post,ls.length=2→ft ls post→gH (ls++List.replicate 4 .un) (aV ls post):=by
 rintro ls post - ⟨R,ps,rfl,hS,h⟩
 unfold gH
 walk_at "w"
 refine⟨by decide,fun a=>nR hS fun b=>?_⟩
 walk_at "w"
 refine qT hS ?_
 walk_at "w"
 have h20:(ptL R ps).length≤20:=by
  refine Nat.le_trans (List.length_filter_le _ _) ?_
  rw[List.length_range,hS.len]
  exact hS.ok.few
 refine⟨fun n ρ=>∃(qs:List Rat)(done:List aI)(m:Nat)(x5:L),ρ=[.d (aM R),.d (.lst (ps.map frD)),.d (.lst (qs.map frD)),.own a (done.map slD),.d (xK (fsB (crA R) (ptL R qs))),x5]∧SlOk R qs∧(ptL R qs).length=n∧n≤m∧done.length+m=20∧done++slsF R m qs=slsF R 20 ps,
  ⟨_,ps,[],20,_,rfl,hS,rfl,h20,rfl,rfl⟩,?_⟩
 rintro n ρ ⟨qs,done,m,x5,rfl,hQ,hn,hm,hd,hs⟩
 cases e:fsB (crA R) (ptL R qs)with
 | none =>
  unfold xK
  walk_at "w"
  have e0:slsF R m qs=[]:=by
   cases m with
   |zero=>rfl
   |succ m=>unfold slsF nxtS;rw[e];rfl
  rw[e0,List.append_nil]at hs
  subst hs
  exact⟨_,aj (aj aG),h a⟩
 | some p =>
  obtain⟨k,l⟩:=p
  obtain⟨hk,hl,hkl,hc⟩:=lK (xM R qs) e
  obtain⟨hk1,hk2⟩:=jL hk
  obtain⟨hl1,hl2⟩:=jL hl
  have hk':k<R.asks.length:=by rw[← hQ.len];exact hk1
  have hl':l<R.asks.length:=by rw[← hQ.len];exact hl1
  have hkl':k≠l:=by omega
  simp only[xK]
  walk_at "w"
  unfold ix
  walk_at "w"
  refine⟨R,qs,k,l,hk',hl',rfl,hQ,?_⟩
  have en:nxtS R qs=some (gsl R qs k l (bc R.n R.asks[k] R.asks[l])):=by
   unfold nxtS
   rw[e]
   show some (gsl R qs k l (bc R.n (aY R k) (aY R l)))=_
   rw[dS hk',dS hl']
  have ok2:=AS hQ hk1 hl1 hkl' (bc R.n R.asks[k] R.asks[l])
  have less:=uB hQ hk hl hkl' (bc R.n R.asks[k] R.asks[l])
  have arb:=Fq hQ hk1 hl1 (bc R.n R.asks[k] R.asks[l])
  generalize hs':gsl R qs k l (bc R.n R.asks[k] R.asks[l])=s at *
  have sk:s.k=k:=by rw[← hs'];rfl
  have sl:s.l=l:=by rw[← hs'];rfl
  walk_at "w"
  refine⟨?_,qs,s,rfl,by rw[hQ.len];exact hQ.ok.few,by rw[sk];exact hk1,by rw[sl];exact hl1,by rw[sk,sl];exact hkl',Fs hQ,arb,fun c=>?_⟩
  ·
   exact Nat.lt_of_le_of_lt (show done.length≤20 by omega) (by decide)
  walk_at "w"
  refine nR ok2 fun d=>?_
  walk_at "w"
  refine qT ok2 ?_
  walk_at "w"
  cases m with
  |zero=>omega
  | succ m =>
   refine⟨_,by rw[← hn];exact less,slL qs s,done++[s],m,_,by rw[List.map_append];rfl,ok2,rfl,by omega,by simp;omega,?_⟩
   rw[← hs,List.append_assoc]
   congr 1
   show s::slsF R m (slL qs s)=slsF R (m+1) qs
   conv=>rhs;unfold slsF
   rw[en]
def bq:FS:=fun ls post=>∃(ns:List Int)(k:Int),ls=[.d (.lst (ns.map .int)),.d (.int k)]∧0≤k∧k≤100∧∀a xs,StOk xs→post (.own a xs) ls
def gI:W Fl:=(wSeq (wSet 2 (wC (.int 0)))
  (wSeq (wIf (bf (wBin opLt (wVar 1) (bb dN (aVal (wVar 0) aNil)))) (wSet 2 (wBin opIx (wVar 0) (wVar 1))) cR)
  (wRet (wLst (aVal (wVar 2) (aVal (wBin dz (wBin bG (wBin bG (wBin dz (wVar 2) (wC (.int 2147483587))) (wBin bo (wBin bo (wC (.int 48271)) (wVar 1)) (wVar 1))) (wC (.int 13))) (wC (.int 2147483587))) (aVal (wBin opGe (wVar 2) (wBin uZ (wC (.int 10)) (wC (.int 18)))) aNil)))))))
theorem m4:∀ls post,ls.length=2→bq ls post→gI (ls++List.replicate 1 .un) (aV ls post):=by
 rintro ls post - ⟨ns,k,rfl,h0,h1,h⟩
 unfold gI
 have fin:∀(c:Int)(ρ:Ev)(e:ρ=[.d (.lst (ns.map .int)),.d (.int k),.d (.int c)]),∀a:Addr,aV [.d (.lst (ns.map .int)),.d (.int k)] post (.rt (.own a [.int c,.int ((c.fmod 2147483587+48271*k*k+13).fmod 2147483587),.bl (decide ((10:Int)^18≤c))])) ρ:=fun c ρ e a=>by
  refine⟨_,aj (aj aG),h a _ ⟨_,_,_,rfl,?_,?_⟩⟩
  ·
   rw[Int.fmod_eq_emod_of_nonneg _ (by decide)];exact Int.emod_nonneg _ (by decide)
  ·
   rw[Int.fmod_eq_emod_of_nonneg _ (by decide)]
   have:=Int.emod_lt_of_pos (c.fmod 2147483587+48271*k*k+13) (b:=2147483587) (by decide)
   omega
 have hb1:bU 48271:=aO (by decide)
 have hb2:bU k:=aO (Nat.lt_of_le_of_lt (show k.natAbs≤100 by omega) (by decide))
 have hb3:bU (48271*k):=aO (Nat.lt_of_le_of_lt (show(48271*k).natAbs≤4827100 by omega) (by decide))
 walk_at "w"
 try rw[List.length_map]
 split
 ·
  rename_i hk
  have hk:k<(ns.length:Int):=by simpa using hk
  have hi:k.toNat<ns.length:=by omega
  refine⟨.int ns[k.toNat],AM h0 (by rw[List.getElem?_map,List.getElem?_eq_getElem hi];rfl),?_⟩
  exact⟨by decide,hb1,hb2,hb3,hb2,by decide,by decide,by decide,by decide,by decide,fin _ _ rfl⟩
 ·
  exact⟨by decide,hb1,hb2,hb3,hb2,by decide,by decide,by decide,by decide,by decide,fin _ _ rfl⟩
def az:FS:=fun ls post=>∃(a:Addr)(xs:List D)(m:Int),ls=[.own a xs,.d (.int m)]∧StOk xs∧0<m∧m≤10^60∧∀(r:Int)(ys:List D),StOk ys→0≤r→r<m→post (.d (.int r)) [.own a ys,.d (.int m)]
def fu:W Fl:=(wSeq (rM 0 (wC (.int 1)) (wBin dz (wBin bG (wBin bo (dC 0 (wIxV 0 (wC (.int 1))) (wBin opIx (wVar 0) (wC (.int 1)))) (wC (.int 39373))) (wC (.int 17))) (wC (.int 2147483647))))
  (wSet 3 (wFrz (wBin bG (wBin bo (wVar 3) (wC (.int 2147483629))) (wBin dz (wBin bo (dC 0 (wIxV 0 (wC (.int 1))) (wBin opIx (wVar 0) (wC (.int 1)))) (dC 0 (wIxV 0 (wC (.int 1))) (wBin opIx (wVar 0) (wC (.int 1))))) (wC (.int 2147483629)))))))
def jm:W Fl:=(wSeq (wIf (bf (dC 0 (wIxV 0 (wC (.int 2))) (wBin opIx (wVar 0) (wC (.int 2))))) (wSeq (wSet 2 (wBin dz (dC 0 (wIxV 0 (wC (.int 0))) (wBin opIx (wVar 0) (wC (.int 0)))) (wVar 1)))
  (wSeq (rM 0 (wC (.int 0)) (wBin mT (dC 0 (wIxV 0 (wC (.int 0))) (wBin opIx (wVar 0) (wC (.int 0)))) (wVar 1)))
  (wSeq (rM 0 (wC (.int 2)) (wBin opGt (dC 0 (wIxV 0 (wC (.int 0))) (wBin opIx (wVar 0) (wC (.int 0)))) (wC (.int 0))))
  (wRet (jw 2))))) cR)
  (wSeq (wSet 3 (wC (.int 0)))
  (wSeq (wFor (oe (wBin bG (wC (.int 1)) (wBin bo (wC (.int 8)) (bb u5 (aVal (wBin opGt (wVar 1) (wBin uZ (wC (.int 10)) (wC (.int 6)))) aNil))))) (bQ 4) fu)
  (wRet (wBin dz (wBin mT (wVar 3) (wC (.int 64))) (wVar 1))))))
theorem qU{a:Addr}{c:Int}{m x2:L}{post:Fl→Ev→Prop}:∀(items:List D)(sd dr:Int)(j:Nat)(x4:L),j+items.length≤100→0≤sd→sd<2147483647→0≤dr→dr<2^(40*j) →
  (∀sd' dr' x',0≤sd'→sd' < 2147483647→0≤dr'→post .nx [.own a [.int c,.int sd',.bl false],m,x2,.d (.int dr'),x']) →
  d6 (bQ 4) fu items [.own a [.int c,.int sd,.bl false],m,x2,.d (.int dr),x4] post
 |[],sd,dr,j,x4,_,h0,h1,h2,h3,h=>h sd dr x4 h0 h1 h2
 | y::items,sd,dr,j,x4,hl,h0,h1,h2,h3,h=>by
  unfold d6 fu
  walk_at "w"
  obtain⟨r0,r1⟩:=dR (sd*39373+17) (m:=2147483647) (by decide)
  generalize (sd*39373+17).fmod 2147483647=s' at r0 r1 ⊢
  obtain⟨q0,q1⟩:=dR (s'*s') (m:=2147483629) (by decide)
  generalize (s'*s').fmod 2147483629=t' at q0 q1 ⊢
  have hl':j+(items.length+1)≤100:=hl
  have b1:bU sd:=rY (n:=40) h0 (by omega) (by decide)
  have b2:bU s':=rY (n:=40) r0 (by omega) (by decide)
  have b3:bU dr:=rY (n:=40*j) h2 h3 (by omega)
  have b4:bU 39373:=aO (by decide)
  have b5:bU 2147483629:=aO (by decide)
  refine⟨b1,b4,by decide,b3,b5,b2,b2,by decide,?_⟩
  refine qU items s' (dr*2147483629+t') (j+1) _ (by omega) r0 r1 (by omega) ?_ h
  have e:(2:Int)^(40*(j+1))=2^(40*j)*1099511627776:=by
   rw[Nat.mul_succ,Int.pow_add];rfl
  omega
theorem pd:∀ls post,ls.length=2→az ls post→jm (ls++List.replicate 3 .un) (aV ls post):=by
 rintro ls post - ⟨a,xs,m,rfl,⟨c,sd,t,rfl,h0,h1⟩,hm,hM,h⟩
 unfold jm
 have hm0:m≠0:=by omega
 have hmz:=qm (by omega) hM
 cases t with
 | true =>
  walk_at "w"
  obtain⟨r0,r1⟩:=dR c hm
  exact⟨hm0,hm0,hmz,_,dP List.mem_cons_self (aj aG),h _ _ ⟨_,_,_,rfl,h0,h1⟩ r0 r1⟩
 | false =>
  walk_at "w"
  refine⟨by decide,by decide,by decide,aO (by decide),aO (by split<;>decide),⟨by split<;>decide,by split<;>decide⟩,?_⟩
  refine qU (c:=c) _ sd 0 0 _ (by simp only[rngD,List.length_map,List.length_range];split<;>decide) h0 h1 (by decide) (by decide) fun sd' dr' x' g0 g1 g2=>?_
  walk_at "w"
  obtain⟨r0,r1⟩:=dR (dr'.fdiv 64) hm
  exact⟨by decide,by decide,hm0,_,dP List.mem_cons_self (aj aG),h _ _ ⟨_,_,_,rfl,g0,g1⟩ r0 r1⟩
def fv:FS:=fun ls post=>∃(a:Addr)(xs:List D)(many:Nat),ls=[.own a xs,.d (.int many)]∧StOk xs∧many≤26 ∧
 ∀(zs:List Str)(c:Addr)(ys:List D),StOk ys→zs.length=many→(∀z∈zs,NmOk z)→zs.Nodup→post (.own c (zs.map .str)) [.own a ys,.d (.int many)]
def iy:W L:=(wBin bG (wBin bG (wSl2 (wVar 1) none (some (wVar 2))) (wBin opIx (wVar 3) (wBin dz (wBin bG (wVar 4) (wVar 0)) (wC (.int 26))))) (wSl2 (wVar 1) (some (wBin bG (wVar 2) (wC (.int 1)))) none))
def iz:W Fl:=(wRet (oy 1 [3,4,2,5] (oe (wVar 1)) (bQ 0) ou iy))
def iA:W Fl:=(wSeq (wSet 5 (wFrz (ba az 0 0 (aVar 0 (aVal (wC (.int 26)) aNil)))))
  iz)
def iB:W L:=(wBin opIx (wVar 1) (ba az 0 2 (aVar 2 (aVal (wC (.int 26)) aNil))))
def iC:W Fl:=(wSeq (wSet 4 (wFrz (ba az 0 0 (aVar 0 (aVal (wFrz (bb dN (aVal (wVar 3) aNil))) aNil)))))
  iA)
def iD:W Fl:=(wSeq (wSet 3 (wFrz (BJ "" (oy 1 [2,0] (oe (wBin bG (wC (.int 1)) (ba az 0 0 (aVar 0 (aVal (wC (.int 8)) aNil))))) (bQ 0) ou iB))))
  iC)
def gJ:W Fl:=(wSeq (wSet 2 (wC (.str "abcdefghijklmnopqrstuvwxyz")))
  iD)
theorem m5:∀ls post,ls.length=2→fv ls post→gJ (ls++List.replicate 4 .un) (aV ls post):=by
 rintro ls post - ⟨a,xs,many,rfl,hx,hm,h⟩
 unfold gJ
 walk_at "w"
 unfold iD
 walk_at "w"
 refine⟨a,xs,8,rfl,hx,by decide,by decide,fun r ys hy r0 r1=>⟨ys,rfl,?_⟩⟩
 walk_at "w"
 refine⟨⟨by omega,by omega⟩,?_⟩
 rw[jJ]
 refine⟨by rw[List.length_map,List.length_range];exact Nat.le_trans (show(1+r).toNat≤8 by omega) (by decide),?_⟩
 refine uf _ (fun j ρ acc=>∃(l:L)(ys:List D)(cs:List Nat),ρ=[l,.d (.str oN),.own a ys]∧StOk ys∧acc=cs.map (fun c=>D.str ⟨#[c]⟩)∧cs.length=j∧∀c∈cs,me c) _ _ ⟨_,ys,[],rfl,hy,rfl,rfl,fun c hc=>by simp at hc⟩ ?_ ?_
 ·
  rintro j x ρ acc hx ⟨l,ys,cs,rfl,hy,rfl,hl,hc⟩ Q hQ
  unfold ou iB
  walk_at "w"
  refine⟨a,ys,26,rfl,hy,by decide,by decide,fun q ws hw q0 q1=>⟨ws,rfl,by decide,_,nM q0 q1,?_⟩⟩
  refine hQ _ _ ⟨_,ws,cs++[q.toNat+97],rfl,hw,by simp,by simp[hl],fun c hm=>?_⟩
  rcases List.mem_append.mp hm with hm|hm
  ·
   exact hc c hm
  ·
   rw[List.mem_singleton.mp hm]
   unfold me
   omega
 ·
  rintro ρ acc ⟨l,ys,cs,rfl,hy,rfl,hl,hc⟩
  rw[List.length_map,List.length_range]at hl
  walk_at "w"
  intro aa
  refine⟨cs.map fun c=>⟨#[c]⟩,by simp,by rw[uo,List.length_map];show cs.length+cs.length*0≤_;omega,?_⟩
  have hb:NmOk (Txt.join "" (cs.map fun c=>(⟨#[c]⟩:Str))):=by
   refine⟨?_,?_,?_⟩
   ·
    rw[ky];omega
   ·
    rw[ky];omega
   ·
    rw[ky];exact hc
  generalize Txt.join "" (cs.map fun c=>(⟨#[c]⟩:Str))=base at hb ⊢
  have hbl:=hG base
  have hb1:=hb.lo
  have hb2:=hb.hi
  unfold iC
  walk_at "w"
  refine⟨Nat.le_trans (show base.length≤8 by omega) (by decide),a,ys,base.length,rfl,hy,by omega,by omega,fun p ws hw p0 p1=>⟨ws,rfl,?_⟩⟩
  unfold iA
  walk_at "w"
  refine⟨a,ws,26,rfl,hw,by decide,by decide,fun t vs hv t0 t1=>⟨vs,rfl,?_⟩⟩
  unfold iz
  walk_at "w"
  refine⟨⟨by omega,by omega⟩,?_⟩
  rw[jJ]
  refine⟨by rw[List.length_map,List.length_range];exact Nat.le_trans (show((many:Int)).toNat≤26 by omega) (by decide),?_⟩
  refine lH (h:=fun k=>D.str (nameAt base p.toNat t.toNat k)) _ _ _ (fun k hk Q q=>?_) fun l'=>?_
  ·
   have hk:k<many:=by have:=List.mem_range.mp hk;omega
   unfold iy
   walk_at "w"
   refine⟨Nat.le_trans (show base.length≤8 by omega) (by decide),by decide,by decide,_,nM (i:=(t+(k:Int)).fmod 26) (dR _ (by decide)).1 (dR _ (by decide)).2,?_⟩
   have e1:=zV (x:=base) p0 (by omega)
   have e2:=vm (x:=base) (i:=p+1) (by omega) (by omega)
   have l1:(Txt.slice base none (some p)).length≤8:=by rw[hG,e1,List.length_take];omega
   have l2:(Txt.slice base (some (p+1)) none).length≤8:=by rw[hG,e2,List.length_drop];omega
   have e3:((t+(k:Int)).fmod 26).toNat=(t.toNat+k) % 26:=by
    rw[Int.fmod_eq_emod_of_nonneg _ (by decide)]
    omega
   have e4:Txt.slice base none (some p)++(⟨#[((t+(k:Int)).fmod 26).toNat+97]⟩:Str)++Txt.slice base (some (p+1)) none=nameAt base p.toNat t.toNat k:=by
    apply Ck
    rw[jK,jK,e1,e2,e3]
    have:(p+1).toNat=p.toNat+1:=by omega
    simp[L2.nameAt,this]
   have one:∀c:Nat,(⟨#[c]⟩:Str).length=1:=fun _=>rfl
   have lc:(Txt.slice base none (some p)++(⟨#[((t+(k:Int)).fmod 26).toNat+97]⟩:Str)).length≤9:=by
    rw[hG,jK,List.length_append,← hG,← hG,one];omega
   refine⟨Nat.le_trans (show _≤9 by rw[one];omega) (by decide),Nat.le_trans (show base.length≤8 by omega) (by decide),Nat.le_trans (Nat.add_le_add lc l2) (by decide),?_⟩
   rw[e4]
   exact q
  ·
   walk_at "w"
   intro c
   refine⟨_,dP (ys:=vs) (by simp) (aj aG),?_⟩
   have e:List.map (fun k=>D.str (nameAt base p.toNat t.toNat k)) (List.range ((many:Int)).toNat)=((List.range many).map fun k=>nameAt base p.toNat t.toNat k).map D.str:=by
    rw[List.map_map,Int.toNat_natCast]
    rfl
   rw[e]
   refine h _ c vs hv (by simp) (fun z hz=>?_) (qv List.nodup_range fun x hx y hy=>?_)
   ·
    obtain⟨k,_,rfl⟩:=List.mem_map.mp hz
    exact xA hb (by omega)
   ·
    exact vn (by omega) (by have:=List.mem_range.mp hx;omega) (by have:=List.mem_range.mp hy;omega)
def cj:FS:=fun ls post=>∃t b:Int,ls=[.d (.int t),.d (.int b)]∧b≠0∧b.natAbs<2^9000∧post (.d (frD (Rat.divInt t b))) ls
def k7:W Fl:=(wPar 2 3 (wBin dz (wVar 3) (wVar 2)) (wVar 2))
def kN:W Fl:=(wSeq (wSet 2 (wFrz (bb u0 (aVal (wVar 0) aNil))))
  (wSeq (wSet 3 (wFrz (bb u0 (aVal (wVar 1) aNil))))
  (wSeq (pY (bf (wBin opNe (wVar 2) (wC (.int 0)))) k7)
  (wSeq (wIf (bf (wBin opLt (wVar 1) (wC (.int 0)))) (wSet 3 (wBin gk (wC (.int 0)) (wVar 3))) cR)
  (wRet (wTup (aVal (wBin mT (wVar 0) (wVar 3)) (aVal (wBin mT (wVar 1) (wVar 3)) aNil))))))))
theorem qV:∀ls post,ls.length=2→cj ls post→kN (ls++List.replicate 2 .un) (aV ls post):=by
 rintro ls post - ⟨t,b,rfl,hb,hz,h⟩
 unfold kN
 walk_at "w"
 have h1:=tX (t:=t) hb
 have h2:=Nat.lt_of_le_of_lt (tY (t:=t) hb) hz
 have fin:∀{g:Int}{ρ:Ev},g=bW t b→g≠0∧g.natAbs<2^9000∧g≠0∧g.natAbs<2^9000∧2≤sizeLine∧aV [.d (.int t),.d (.int b)] post (.rt (.d (.tup [.int (t.fdiv g),.int (b.fdiv g)]))) ρ:=fun {g ρ} e=>by
  have e1:g≠0:=by rw[e];exact h1
  have e2:g.natAbs<2^9000:=by rw[e];exact h2
  refine⟨e1,e2,e1,e2,by decide,_,aj (aj aG),?_⟩
  rw[uj hb e]
  exact h
 refine⟨fun n ρ=>∃x y:Int,ρ=[.d (.int t),.d (.int b),.d (.int x),.d (.int y)]∧0≤x∧0≤y∧Int.gcd x y=Int.gcd t b∧n=x.natAbs,⟨_,_,_,rfl,by split<;>omega,by split<;>omega,?_,rfl⟩,?_⟩
 ·
  have e1:(if t<0 then -t else t)=(t.natAbs:Int):=by split<;>omega
  have e2:(if b<0 then -b else b)=(b.natAbs:Int):=by split<;>omega
  rw[e1,e2]
  simp[Int.gcd]
 ·
  rintro n ρ ⟨x,y,rfl,x0,y0,hg,rfl⟩
  unfold k7
  walk_at "w"
  split
  ·
   rename_i hx
   have hx:x≠0:=by simpa using hx
   refine⟨hx,_,ir y hx,_,_,rfl,(dR y (by omega)).1,x0,?_,rfl⟩
   rw[Int.gcd_comm,tV,Int.gcd_comm]
   exact hg
  ·
   rename_i hx
   have hx:x=0:=by simpa using hx
   subst hx
   have hy:y=(Int.gcd t b:Int):=by rw[← hg,Int.gcd_zero_left];omega
   split
   ·
    rename_i hlt
    exact fin (by simp[bW,hlt,hy])
   ·
    rename_i hlt
    exact fin (by simp[bW,hlt,hy])
def b7:FS:=fun ls post=>∃(a:Addr)(xs:List D)(least kind:Int),ls=[.own a xs,.d (.int least),.d (.int kind)]∧StOk xs∧0≤least∧least≤1∧0≤kind∧kind<5 ∧
 ∀(q:Rat)(ys:List D),StOk ys→0≤q→(least=1→0<q)→RB 60 q→post (.d (frD q)) [.own a ys,.d (.int least),.d (.int kind)]
def gK:W Fl:=(wRet (aF cj (aVal (wVar 4) (aVal (wVar 3) aNil))))
def gL:W Fl:=(wSeq (wSet 4 (wFrz (wBin bG (wVar 1) (ba az 0 0 (aVar 0 (aVal (wBin opIx (wLst (aVal (wC (.int 3)) (aVal (wC (.int 10)) (aVal (wC (.int 10)) (aVal (wC (.int 40)) (aVal (wBin uZ (wC (.int 10)) (wC (.int 12))) aNil)))))) (wVar 2)) aNil))))))
  gK)
def fw:W Fl:=(wSeq (wSet 3 (wFrz (wBin bG (wC (.int 1)) (ba az 0 0 (aVar 0 (aVal (wBin opIx (wLst (aVal (wC (.int 1)) (aVal (wC (.int 1)) (aVal (wC (.int 4)) (aVal (wC (.int 12)) (aVal (wC (.int 12)) aNil)))))) (wVar 2)) aNil))))))
  gL)
theorem yi{t b:Int}(h0:0≤t)(h1:t<2^59)(h2:0<b)(h3:b<2^59):0≤Rat.divInt t b∧(0<t→0<Rat.divInt t b)∧RB 60 (Rat.divInt t b):=by
 have e:=Rat.divInt_nonneg (a:=t) (b:=b) h0 (by omega)
 refine⟨e,fun ht=>?_,RB.of_divInt (by omega) ?_ ?_⟩
 ·
  refine Rat.lt_of_le_of_ne e fun z=>?_
  have:Rat.divInt 0 1=Rat.divInt t b:=by rw[← z];rfl
  rw[Rat.divInt_eq_divInt_iff (by decide) (by omega)]at this
  omega
 ·
  have:(2:Int)^59=((2^59:Nat):Int):=by decide
  have:(2:Nat)^59<2^60:=by decide
  omega
 ·
  have:(2:Int)^59=((2^59:Nat):Int):=by decide
  have:(2:Nat)^59<2^60:=by decide
  omega
theorem Ft{k:Int}(h0:0≤k)(h1:k<5):∃m:Int,atI [D.int 1,.int 1,.int 4,.int 12,.int 12] k=some (.int m)∧1≤m∧m≤12:=by
 obtain rfl|rfl|rfl|rfl|rfl:k=0∨k=1∨k=2∨k=3∨k=4:=by omega
 all_goals exact⟨_,rfl,by decide,by decide⟩
theorem Fu{k:Int}(h0:0≤k)(h1:k<5):∃m:Int,atI [D.int 3,.int 10,.int 10,.int 40,.int (10^12)] k=some (.int m)∧1≤m∧m≤10^12:=by
 obtain rfl|rfl|rfl|rfl|rfl:k=0∨k=1∨k=2∨k=3∨k=4:=by omega
 all_goals exact⟨_,rfl,by decide,by decide⟩
theorem mH:∀ls post,ls.length=3→b7 ls post→fw (ls++List.replicate 2 .un) (aV ls post):=by
 rintro ls post - ⟨a,xs,least,kind,rfl,hx,l0,l1,k0,k1,h⟩
 obtain⟨m1,e1,m10,m11⟩:=Ft k0 k1
 obtain⟨m2,e2,m20,m21⟩:=Fu k0 k1
 unfold fw
 walk_at "w"
 refine⟨by decide,fun _=>⟨_,e1,a,xs,m1,rfl,hx,by omega,by omega,fun r ys hy r0 r1=>⟨ys,rfl,?_⟩⟩⟩
 unfold gL
 walk_at "w"
 refine⟨by decide,by decide,by decide,by decide,fun _=>⟨_,e2,a,ys,m2,rfl,hy,by omega,by omega,fun s zs hz s0 s1=>⟨zs,rfl,?_⟩⟩⟩
 unfold gK
 walk_at "w"
 obtain⟨a1,a2,a3⟩:=yi (t:=least+s) (b:=1+r) (by omega) (by omega) (by omega) (by omega)
 exact⟨_,_,rfl,by omega,qm (by omega) (by omega),_,dP (by simp) (aj (aj aG)),h _ zs hz a1 (fun e=>a2 (by omega)) a3⟩
def fz:FS:=fun ls post=>∃(a:Addr)(xs:List D)(n:Nat)(kind:Int),ls=[.own a xs,.d (.int n),.d (.int kind)]∧StOk xs∧1≤n∧n≤1000∧0≤kind∧kind<5 ∧
 ∀(qs:List Rat)(c:Addr)(ys:List D),StOk ys→qs.length=n→(∀q∈qs,0<q∧RB 60 q)→post (.own c (qs.map frD)) [.own a ys,.d (.int n),.d (.int kind)]
def iE:W Fl:=(wSeq (wSet 6 (wFrz (ba b7 0 0 (aVar 0 (aVal (wC (.int 1)) (aVal (wVar 2) aNil))))))
  (pX (wApp 5 (wBin opIx (wLst (aVal (wVar 4) (aVal (wVar 6) aNil))) (bb u5 (aVal (wBin opEq (wVar 3) (wC (.int 2))) aNil))))))
def iF:W Fl:=(wRet (jw 5))
def iG:W Fl:=(wSeq (pY (bf (wBin opLt (dC 5 (wF 5) (bb dN (aVal (wVar 5) aNil))) (wVar 1))) iE)
  iF)
def eh:W Fl:=(wSeq (wSet 5 (wLst (aVal (wVar 4) aNil)))
  iG)
def iH:W Fl:=(wSeq (wIf (bf (wBin opEq (wVar 3) (wC (.int 0)))) (wSet 4 (wTup (aVal (wC (.int 1)) (aVal (wC (.int 1)) aNil)))) cR)
  eh)
def iI:W Fl:=(wSeq (wSet 4 (wFrz (ba b7 0 0 (aVar 0 (aVal (wC (.int 1)) (aVal (wVar 2) aNil))))))
  iH)
def gM:W Fl:=(wSeq (wSet 3 (wFrz (ba az 0 0 (aVar 0 (aVal (wC (.int 3)) aNil)))))
  iI)
theorem m6:∀ls post,ls.length=3→fz ls post→gM (ls++List.replicate 4 .un) (aV ls post):=by
 rintro ls post - ⟨a,xs,n,kind,rfl,hx,n1,n2,k0,k1,h⟩
 have one:frD 1=.tup [.int 1,.int 1]:=rfl
 have rest:∀(alike:Int)(p:Rat)(ys:List D),StOk ys→0<p→RB 60 p →
   eh [.own a ys,.d (.int n),.d (.int kind),.d (.int alike),.d (frD p),.un,.un] (aV [.own a xs,.d (.int n),.d (.int kind)] post):=by
  intro alike p ys hy hp hb
  unfold eh
  walk_at "w"
  refine⟨by decide,fun c=>?_⟩
  unfold iG
  walk_at "w"
  refine⟨fun m ρ=>∃(qs:List Rat)(zs:List D)(l:L),ρ=[.own a zs,.d (.int n),.d (.int kind),.d (.int alike),.d (frD p),.own c (qs.map frD),l]∧StOk zs∧qs.length≤n∧m=n-qs.length∧∀q∈qs,0<q∧RB 60 q,⟨_,[p],ys,_,rfl,hy,n1,rfl,by intro q hq;rw[List.mem_singleton.mp hq];exact⟨hp,hb⟩⟩,?_⟩
  rintro m ρ ⟨qs,zs,l,rfl,hz,hl,rfl,hq⟩
  walk_at "w"
  try rw[List.length_map]
  split
  ·
   rename_i hlt
   unfold iE
   walk_at "w"
   refine⟨a,zs,1,kind,rfl,hz,by decide,by decide,k0,k1,fun q ws hw q0 q1 qb=>⟨ws,rfl,?_⟩⟩
   walk_at "w"
   have hs:qs.length<sizeLine:=by exact Nat.lt_of_le_of_lt (show qs.length≤1000 by omega) (by decide)
   have more:∀q':Rat,0<q'→RB 60 q'→∃m,m<n-qs.length∧∃(qs':List Rat)(zs:List D)(l:L),[L.own a ws,.d (.int n),.d (.int kind),.d (.int alike),.d (frD p),.own c (qs.map frD++[frD q']),.d (frD q)]=[.own a zs,.d (.int n),.d (.int kind),.d (.int alike),.d (frD p),.own c (qs'.map frD),l]∧StOk zs∧qs'.length≤n∧m=n-qs'.length∧∀q∈qs',0<q∧RB 60 q:=by
    intro q' p0 pb
    refine⟨n-(qs++[q']).length,by rw[List.length_append];simp only[List.length_singleton];omega,qs++[q'],ws,.d (frD q),by rw[List.map_append];rfl,hw,by rw[List.length_append];simp only[List.length_singleton];omega,rfl,fun z hz=>?_⟩
    rcases List.mem_append.mp hz with hz|hz
    ·
     exact hq z hz
    ·
     rw[List.mem_singleton.mp hz];exact⟨p0,pb⟩
   refine⟨by decide,fun _=>?_⟩
   by_cases h2:alike=2
   ·
    refine⟨frD q,?_,hs,more q (q1 rfl) qb⟩
    simp[h2,mU]
   ·
    refine⟨frD p,?_,hs,more p hp hb⟩
    simp[h2,oJ]
  ·
   have e:qs.length=n:=by omega
   unfold iF
   walk_at "w"
   exact⟨_,dP (by simp) (aj (aj aG)),h qs c zs hz e hq⟩
 unfold gM
 walk_at "w"
 refine⟨a,xs,3,rfl,hx,by decide,by decide,fun r ys hy r0 r1=>⟨ys,rfl,?_⟩⟩
 unfold iI
 walk_at "w"
 refine⟨a,ys,1,kind,rfl,hy,by decide,by decide,k0,k1,fun q zs hz q0 q1 qb=>⟨zs,rfl,?_⟩⟩
 unfold iH
 walk_at "w"
 split
 ·
  exact⟨by decide,rest r 1 zs hz (by decide) ⟨by decide,by decide⟩⟩
 ·
  exact rest r q zs hz (q1 rfl) qb
def gN:FS:=fun ls post=>∃(a:Addr)(xs:List D)(shape k:Int)(n:Nat),ls=[.own a xs,.d (.int shape),.d (.int n),.d (.int k)]∧StOk xs∧2≤n∧n≤1000∧0≤k∧k≤1000 ∧
 ∀(i j:Nat)(ys:List D),StOk ys→i<n→j<n→i≠j→post (.d (.tup [.int i,.int j])) [.own a ys,.d (.int shape),.d (.int n),.d (.int k)]
def jU:W Fl:=(wRet (wTup (aVal (wVar 4) (aVal (wVar 5) aNil))))
def jV:W Fl:=(wSeq (wIf (bf (wBin opEq (wVar 1) (wC (.int 3)))) (wRet (wTup (aVal (wC (.int 0)) (aVal (wFrz (wBin bG (wC (.int 1)) (wBin dz (wVar 5) (wBin gk (wVar 2) (wC (.int 1)))))) aNil)))) cR)
  jU)
def jW:W Fl:=(wSeq (wIf (bf (wBin opEq (wVar 1) (wC (.int 2)))) (wRet (wTup (aVal (wFrz (wBin bo (wBin dz (wVar 3) (wC (.int 2))) (wBin gk (wVar 2) (wC (.int 1))))) (aVal (wFrz (wBin bo (wBin gk (wC (.int 1)) (wBin dz (wVar 3) (wC (.int 2)))) (wBin gk (wVar 2) (wC (.int 1))))) aNil)))) cR)
  jV)
def jX:W Fl:=(wSeq (wIf (bf (wBin opEq (wVar 1) (wC (.int 1)))) (wRet (wTup (aVal (wBin dz (wVar 3) (wVar 2)) (aVal (wBin dz (wBin bG (wVar 3) (wBin mT (wVar 2) (wC (.int 2)))) (wVar 2)) aNil)))) cR)
  jW)
def jY:W Fl:=(wSeq (wSet 5 (wBin dz (wBin bG (wBin bG (wVar 4) (wC (.int 1))) (ba az 0 0 (aVar 0 (aVal (wBin gk (wVar 2) (wC (.int 1))) aNil)))) (wVar 2)))
  jX)
def jn:W Fl:=(wSeq (wSet 4 (wFrz (ba az 0 0 (aVar 0 (aVal (wVar 2) aNil)))))
  jY)
theorem pf:∀ls post,ls.length=4→gN ls post→jn (ls++List.replicate 2 .un) (aV ls post):=by
 rintro ls post - ⟨a,xs,shape,k,n,rfl,hx,n2,n3,k0,k1,h⟩
 have fin:∀(ys:List D)(i j:Int)(ρ:Ev),StOk ys→0≤i→i<n→0≤j→j<n→i≠j→.own a ys∈ρ→aV [.own a xs,.d (.int shape),.d (.int n),.d (.int k)] post (.rt (.d (.tup [.int i,.int j]))) ρ:=by
  intro ys i j ρ hy i0 i1 j0 j1 hij hm
  have:=h i.toNat j.toNat ys hy (by omega) (by omega) (by omega)
  rw[Int.toNat_of_nonneg i0,Int.toNat_of_nonneg j0]at this
  exact⟨_,dP hm (aj (aj (aj aG))),this⟩
 unfold jn
 walk_at "w"
 refine⟨a,xs,n,rfl,hx,by omega,by omega,fun r ys hy r0 r1=>⟨ys,rfl,?_⟩⟩
 unfold jY
 walk_at "w"
 refine⟨a,ys,n-1,rfl,hy,by omega,by omega,fun s zs hz s0 s1=>⟨zs,rfl,?_⟩⟩
 walk_at "w"
 refine⟨by omega,?_⟩
 have e1:=Int.fmod_eq_emod_of_nonneg (r+1+s) (b:=n) (by omega)
 have e2:=Int.fmod_eq_emod_of_nonneg k (b:=n) (by omega)
 have e3:=Int.fdiv_eq_ediv_of_nonneg (n:Int) (b:=2) (by omega)
 have e4:=Int.fmod_eq_emod_of_nonneg (k+(n:Int) / 2) (b:=n) (by omega)
 have e5:=Int.fmod_eq_emod_of_nonneg k (b:=2) (by omega)
 have e6:=Int.fmod_eq_emod_of_nonneg ((r+1+s) % (n:Int)) (b:=(n:Int)-1) (by omega)
 rw[e1]
 have o0:=Int.emod_nonneg (r+1+s) (b:=n) (by omega)
 have o1:=Int.emod_lt_of_pos (r+1+s) (b:=n) (by omega)
 have o2:(r+1+s) % (n:Int)≠r:=fun z=>by
  by_cases q:r+1+s<n
  ·
   rw[Int.emod_eq_of_lt (by omega) q]at z;omega
  ·
   have:(r+1+s) % (n:Int)=r+1+s-n:=by
    rw[← Int.sub_emod_right,Int.emod_eq_of_lt (by omega) (by omega)]
   omega
 unfold jX
 walk_at "w"
 split
 ·
  rw[e2,e3,e4]
  refine⟨by omega,by decide,by decide,by omega,by decide,fin zs _ _ _ hz (Int.emod_nonneg _ (by omega)) (Int.emod_lt_of_pos _ (by omega)) (Int.emod_nonneg _ (by omega)) (Int.emod_lt_of_pos _ (by omega)) (fun z=>?_) (by simp)⟩
  have h1:(k+(n:Int) / 2-k) % n=0:=Int.emod_eq_emod_iff_emod_sub_eq_zero.mp z.symm
  have e9:k+(n:Int) / 2-k=n / 2:=by omega
  rw[e9,Int.emod_eq_of_lt (by omega) (by omega)]at h1
  omega
 ·
  unfold jW
  walk_at "w"
  split
  ·
   rw[e5]
   have m0:=Int.emod_two_eq k
   refine⟨by decide,aO (by omega),aO (by omega),by decide,aO (by omega),aO (by omega),by decide,?_⟩
   rcases m0 with m0|m0
   ·
    rw[m0]
    exact fin zs _ _ _ hz (by omega) (by omega) (by omega) (by omega) (by omega) (by simp)
   ·
    rw[m0]
    exact fin zs _ _ _ hz (by omega) (by omega) (by omega) (by omega) (by omega) (by simp)
  ·
   unfold jV
   walk_at "w"
   split
   ·
    rw[e6]
    have p0:=Int.emod_nonneg ((r+1+s) % (n:Int)) (b:=(n:Int)-1) (by omega)
    have p1:=Int.emod_lt_of_pos ((r+1+s) % (n:Int)) (b:=(n:Int)-1) (by omega)
    exact⟨by omega,by decide,fin zs _ _ _ hz (by omega) (by omega) (by omega) (by omega) (by omega) (by simp)⟩
   ·
    unfold jU
    walk_at "w"
    exact⟨by decide,fin zs _ _ _ hz (by omega) (by omega) (by omega) (by omega) (Ne.symm o2) (by simp)⟩
structure Drawn (most count:Nat) (R:Ring):Prop where
 ok:R.Ok
 hi:R.n≤most
 few:R.asks.length≤count
 nms:(∀a∈R.asks,NmOk a.nm)∧(R.asks.map (·.nm)).Nodup
 tt:∀a∈R.asks,RB 60 a.size
def gO:FS:=fun ls post=>∃(ns:List Int)(at_ most count:Nat),ls=[.d (.lst (ns.map .int)),.d (.int at_),.d (.int most),.d (.int count)]∧at_≤90∧2≤most∧most≤12∧count≤20 ∧
 ∀R:Ring,Drawn most count R→post (.d (aM R)) ls
def fA:W Fl:=(wSeq (Bz [13,14] (ba gN 0 4 (aVar 4 (aVal (wVar 8) (aVal (wVar 5) (aVal (wVar 12) aNil))))))
  (pX (wApp 11 (wTup (aVal (wBin opIx (wVar 9) (wVar 12)) (aVal (wVar 13) (aVal (wVar 14) (aVal (wFrz (ba b7 0 4 (aVar 4 (aVal (wC (.int 0)) (aVal (wBin opIx (wVar 7) (wC (.int 1))) aNil))))) aNil))))))))
def jZ:W Fl:=(wRet (wTup (aVal (wVar 10) (aVal (wVar 11) aNil))))
def j2:W Fl:=(wSeq (wFor (oe (wVar 6)) (bQ 12) fA)
  jZ)
def j3:W Fl:=(wSeq (wSet 11 (wLst aNil))
  j2)
def j4:W Fl:=(wSeq (wSet 4 (aF bq (aVal (wVar 0) (aVal (wFrz (wBin bG (wVar 1) (wC (.int 2)))) aNil))))
  j3)
def j5:W Fl:=(wSeq (wSet 10 (wFrz (aF fz (aVal (aF bq (aVal (wVar 0) (aVal (wFrz (wBin bG (wVar 1) (wC (.int 1)))) aNil))) (aVal (wVar 5) (aVal (wBin opIx (wVar 7) (wC (.int 0))) aNil))))))
  j4)
def j6:W Fl:=(wSeq (wSet 9 (wFrz (ba fv 0 4 (aVar 4 (aVal (wVar 6) aNil)))))
  j5)
def j7:W Fl:=(wSeq (wSet 8 (wFrz (ba az 0 4 (aVar 4 (aVal (wC (.int 6)) aNil)))))
  j6)
def j8:W Fl:=(wSeq (wSet 7 (wFrz (wLst (aVal (wFrz (ba az 0 4 (aVar 4 (aVal (wC (.int 5)) aNil)))) (aVal (wFrz (ba az 0 4 (aVar 4 (aVal (wC (.int 5)) aNil)))) aNil)))))
  j7)
def j9:W Fl:=(wSeq (wSet 6 (wFrz (ba az 0 4 (aVar 4 (aVal (wFrz (wBin bG (wVar 3) (wC (.int 1)))) aNil)))))
  j8)
def ka:W Fl:=(wSeq (wSet 5 (wFrz (wBin bG (wC (.int 2)) (ba az 0 4 (aVar 4 (aVal (wBin gk (wVar 2) (wC (.int 1))) aNil))))))
  j9)
def jo:W Fl:=(wSeq (wSet 4 (aF bq (aVal (wVar 0) (aVal (wVar 1) aNil))))
  ka)
theorem yj{S a1 m3 c3 rms:D}{b c:Addr}{n shape kind:Nat}{zs:List Str}{post:Fl→Ev→Prop}(hn:2≤n)(hn2:n≤12)(hk:kind<5)(k0:Nat)(hzl:zs.length≤20)(hz:∀z∈zs,NmOk z)(xs:List D)(hx:StOk xs)(x13 x14:L)
  (fin:∀(as:List Ask)(ys:List D)(x12 x13 x14:L),(∀a∈as,kx n a∧RB 60 a.size)→as.map (·.nm)=zs→post .nx [.d S,.d a1,.d m3,.d c3,.own b ys,.d (.int n),.d (.int (zs.length:Int)),.d (.lst [.int k0,.int kind]),.d (.int shape),.d (.lst (zs.map .str)),.d rms,.own c (as.map askD),x12,x13,x14]) :
  d6 (bQ 12) fA ((List.range zs.length).map fun (i:Nat)=>D.int (i:Int)) [.d S,.d a1,.d m3,.d c3,.own b xs,.d (.int n),.d (.int (zs.length:Int)),.d (.lst [.int k0,.int kind]),.d (.int shape),.d (.lst (zs.map .str)),.d rms,.own c [],.un,x13,x14] post:=by
 refine eW _ (fun j ρ=>∃(as:List Ask)(ys:List D)(x12 x13 x14:L),ρ=[.d S,.d a1,.d m3,.d c3,.own b ys,.d (.int n),.d (.int (zs.length:Int)),.d (.lst [.int k0,.int kind]),.d (.int shape),.d (.lst (zs.map .str)),.d rms,.own c (as.map askD),x12,x13,x14]∧StOk ys∧(∀a∈as,kx n a∧RB 60 a.size)∧as.map (·.nm)=zs.take j) _ ⟨[],xs,_,_,_,rfl,hx,fun a ha=>by simp at ha,rfl⟩ ?_ ?_
 ·
  rintro j x ρ hj ⟨as,ys,x12,x13,x14,rfl,hy,ha,hn'⟩ Q h1 h2 h3 h4
  have hj':j<zs.length:=by
   have:=(List.getElem?_eq_some_iff.mp hj).1
   simpa using this
  have ex:x=.int (j:Int):=by
   rw[List.getElem?_map,List.getElem?_range hj']at hj
   exact(Option.some.inj hj).symm
  subst ex
  unfold fA
  walk_at "w"
  refine⟨b,ys,shape,j,n,rfl,hy,hn,by omega,by omega,by omega,fun i k ws hw i1 k1 hik=>⟨ws,rfl,?_⟩⟩
  walk_at "w"
  refine⟨.str zs[j],bJ hj',?_⟩
  refine⟨b,ws,0,kind,rfl,hw,by decide,by decide,by omega,by omega,fun q vs hv q0 _ qb=>⟨vs,rfl,?_⟩⟩
  walk_at "w"
  have hlen:as.length=j:=by
   have:=congrArg List.length hn'
   rw[List.length_map,List.length_take]at this
   omega
  refine⟨by decide,by rw[hlen];exact Nat.lt_of_lt_of_le hj' (Nat.le_trans hzl (by decide)),h1 _ ⟨as++[⟨zs[j],i,k,q⟩],vs,_,_,_,by rw[List.map_append];rfl,hv,fun a hm=>?_,?_⟩⟩
  ·
   rcases List.mem_append.mp hm with hm|hm
   ·
    exact ha a hm
   ·
    rw[List.mem_singleton.mp hm]
    exact⟨⟨i1,k1,hik,q0,zX qb,(hz _ (List.getElem_mem hj')).ok⟩,qb⟩
  ·
   rw[List.map_append,hn',List.take_succ,List.getElem?_eq_getElem hj']
   rfl
 ·
  rintro ρ ⟨as,ys,x12,x13,x14,rfl,hy,ha,hn'⟩
  rw[List.length_map,List.length_range,List.take_of_length_le (Nat.le_refl _)]at hn'
  exact fin as ys x12 x13 x14 ha hn'
theorem ph:∀ls post,ls.length=4→gO ls post→jo (ls++List.replicate 11 .un) (aV ls post):=by
 rintro ls post - ⟨ns,at_,most,count,rfl,ha,m2,m12,c20,h⟩
 unfold jo
 walk_at "w"
 refine⟨ns,at_,rfl,by omega,by omega,fun b xs hx=>?_⟩
 unfold ka
 walk_at "w"
 refine⟨b,xs,(most:Int)-1,rfl,hx,by omega,by omega,fun r ys hy r0 r1=>⟨ys,rfl,?_⟩⟩
 unfold j9
 walk_at "w"
 refine⟨b,ys,(count:Int)+1,rfl,hy,by omega,by omega,fun s zs hz s0 s1=>⟨zs,rfl,?_⟩⟩
 unfold j8
 walk_at "w"
 refine⟨b,zs,5,rfl,hz,by decide,by decide,fun k1 ws hw k10 k11=>⟨ws,rfl,?_⟩⟩
 walk_at "w"
 refine⟨b,ws,5,rfl,hw,by decide,by decide,fun k2 vs hv k20 k21=>⟨vs,rfl,?_⟩⟩
 walk_at "w"
 refine⟨by decide,fun kk=>?_⟩
 unfold j7
 walk_at "w"
 refine⟨b,vs,6,rfl,hv,by decide,by decide,fun sh us hu sh0 sh1=>⟨us,rfl,?_⟩⟩
 unfold j6
 walk_at "w"
 obtain⟨many,rfl⟩:=Int.eq_ofNat_of_zero_le s0
 obtain⟨pl,epl⟩:∃pl:Nat,2+r=(pl:Int):=Int.eq_ofNat_of_zero_le (by omega)
 obtain⟨sh',rfl⟩:=Int.eq_ofNat_of_zero_le sh0
 obtain⟨k1',rfl⟩:=Int.eq_ofNat_of_zero_le k10
 obtain⟨k2',rfl⟩:=Int.eq_ofNat_of_zero_le k20
 rw[epl]
 refine⟨b,us,many,rfl,hu,by omega,fun nms c ts ht hnl hnm hnd=>⟨ts,rfl,?_⟩⟩
 unfold j5
 walk_at "w"
 refine⟨ns,at_+1,rfl,by omega,by omega,fun b2 xs2 hx2=>?_⟩
 refine⟨b2,xs2,pl,k1',rfl,hx2,by omega,by omega,by omega,by omega,fun qs c2 ys2 hy2 hql hq=>?_⟩
 unfold j4
 walk_at "w"
 refine⟨ns,at_+2,rfl,by omega,by omega,fun b3 xs3 hx3=>?_⟩
 unfold j3
 walk_at "w"
 refine⟨by decide,fun c3=>?_⟩
 unfold j2
 walk_at "w"
 refine⟨⟨by omega,by omega⟩,?_⟩
 rw[jJ,Int.toNat_natCast,← hnl]
 refine yj (n:=pl) (by omega) (by omega) (by omega) k1' (by omega) hnm xs3 hx3 _ _ fun as ys' x12 x13 x14 hao han=>?_
 walk_at "w"
 unfold jZ
 walk_at "w"
 refine⟨by decide,_,aj (aj (aj (aj aG))),h ⟨qs,as⟩ ?_⟩
 have hal:as.length=nms.length:=by rw[← han,List.length_map]
 refine⟨⟨?_,?_,?_,hq,?_,Fd (fun a ha=>(hao a ha).2) (by show as.length≤20;omega)⟩,?_,?_,⟨?_,?_⟩,fun a ha=>(hao a ha).2⟩
 ·
  show 2≤qs.length;omega
 ·
  show qs.length≤12;omega
 ·
  show as.length≤20;omega
 ·
  show ∀a∈as,kx qs.length a;rw[hql];exact fun a ha=>(hao a ha).1
 ·
  show qs.length≤most;omega
 ·
  show as.length≤count;omega
 ·
  intro a ha
  exact hnm _ (by rw[← han];exact List.mem_map_of_mem ha)
 ·
  show(as.map (·.nm)).Nodup
  rw[han]
  exact hnd
structure yk (R:Ring) (ps:List Rat):Prop extends Co R ps 70 where
 tw:Tw R ps
def fB:FS:=fun ls post=>∃(a:Addr)(xs:List D)(R:Ring),ls=[.own a xs,.d (aM R)]∧StOk xs∧R.Ok∧(∀a∈R.asks,RB 60 a.size)∧∀(ps:List Rat)(c:Addr)(ys:List D),StOk ys→yk R ps→post (.own c (ps.map frD)) [.own a ys,.d (aM R)]
def iJ:W Fl:=(wSeq (wSet 7 (wFrz (ba az 0 0 (aVar 0 (aVal (wC (.int 4)) aNil)))))
  (wSeq (wSet 8 (wFrz (ba az 0 0 (aVar 0 (aVal (wC (.int 13)) aNil)))))
  (pX (wApp 2 (wBin opIx (wLst (aVal (wTup (aVal (wC (.int 0)) (aVal (wC (.int 1)) aNil))) (aVal (wVar 6) (aVal (wFrz (aF cj (aVal (wFrz (wBin bo (wBin opIx (wVar 6) (wC (.int 0))) (wVar 8))) (aVal (wFrz (wBin bo (wBin opIx (wVar 6) (wC (.int 1))) (wC (.int 12)))) aNil)))) aNil)))) (bb u4 (aVal (wVar 7) (aVal (wC (.int 2)) aNil))))))))
def gQ:W Fl:=(wSeq (wSet 2 (wLst aNil))
  (wSeq (wFor (wSrc (wBin opIx (wVar 1) (wC (.int 1)))) (jy [3,4,5,6]) iJ)
  (wRet (jw 2))))
def Tw1(z p:Rat):Prop:=∃v:Int,0≤v∧v≤12∧p=z*Rat.divInt v 12
theorem Fv{R:Ring}{ps:List Rat}(hl:ps.length=R.asks.length)(h:∀x∈R.asks.zip ps,Tw1 x.1.size x.2):Tw R ps:=fun k hk=>by
 have h1:k<ps.length:=by omega
 have:=h (R.asks[k],ps[k]) (by
  rw[List.mem_iff_getElem]
  exact⟨k,by rw[List.length_zip];omega,by rw[List.getElem_zip]⟩)
 rw[xG h1,D2 hk]
 exact this
theorem yl{s:Rat}{v:Int}(h0:0≤s)(hb:RB 60 s)(v0:0≤v)(v1:v<13):(0≤Rat.divInt (s.num*v) ((s.den:Int)*12)∧Rat.divInt (s.num*v) ((s.den:Int)*12)≤s)∧RB 70 (Rat.divInt (s.num*v) ((s.den:Int)*12)):=by
 have e:Rat.divInt (s.num*v) ((s.den:Int)*12)=s*Rat.divInt v 12:=by
  rw[← Rat.divInt_mul_divInt,Rat.num_divInt_den]
 have f0:0≤Rat.divInt v 12:=Rat.divInt_nonneg v0 (by decide)
 have f1:0≤1-Rat.divInt v 12:=by
  have e1:1-Rat.divInt v 12=Rat.divInt (12-v) 12:=by
   have:(1:Rat)=Rat.divInt 12 12:=rfl
   rw[this,Rat.divInt_sub_divInt _ _ (by decide) (by decide),Rat.divInt_eq_divInt_iff (by decide) (by decide)]
   omega
  rw[e1]
  exact Rat.divInt_nonneg (by omega) (by decide)
 have m0:=Rat.mul_nonneg h0 f0
 have m1:=Rat.mul_nonneg h0 f1
 have hd:=den_pos s
 refine⟨⟨by rw[e];exact m0,by rw[e];grind⟩,RB.of_divInt (Int.mul_ne_zero (by omega) (by decide)) ?_ ?_⟩
 ·
  rw[Int.natAbs_mul]
  exact Nat.lt_of_lt_of_le (bI (n:=10) hb.1 (show v.natAbs<2^10 by omega)) (Nat.le_refl _)
 ·
  rw[Int.natAbs_mul]
  exact Nat.lt_of_lt_of_le (bI (m:=60) (n:=10) (by rw[Int.natAbs_natCast];exact hb.2) (show(12:Int).natAbs<2^10 by decide)) (Nat.le_refl _)
theorem m7:∀ls post,ls.length=2→fB ls post→gQ (ls++List.replicate 7 .un) (aV ls post):=by
 rintro ls post - ⟨a,xs,R,rfl,hx,hR,hT,h⟩
 have hfew:=hR.few
 unfold gQ
 walk_at "w"
 refine⟨by decide,fun c=>?_⟩
 refine ue (enc:=askD) R.asks (fun pre ρ=>∃(ps:List Rat)(ys:List D)(x3 x4 x5 x6 x7 x8:L),ρ=[.own a ys,.d (aM R),.own c (ps.map frD),x3,x4,x5,x6,x7,x8]∧StOk ys∧ps.length=pre.length∧(∀x∈pre.zip ps,0≤x.2∧x.2≤x.1.size)∧(∀p∈ps,RB 70 p)∧∀x∈pre.zip ps,Tw1 x.1.size x.2) _ ⟨[],xs,_,_,_,_,_,_,rfl,hx,rfl,(fun x hx=>by simp at hx),(fun x hx=>by simp at hx),fun x hx=>by simp at hx⟩ ?_ ?_
 ·
  rintro pre A suf ρ hsp ⟨ps,ys,x3,x4,x5,x6,x7,x8,rfl,hy,hl,hlo,hb,hw1⟩ Q h1 h2 h3 h4
  have hA:kx R.n A:=hR.ask A (by rw[hsp];simp)
  have hAb:RB 60 A.size:=hT A (by rw[hsp];simp)
  have hlen:pre.length<20:=by
   have:=congrArg List.length hsp
   rw[List.length_append,List.length_cons]at this
   omega
  unfold iJ
  walk_at "w"
  refine⟨a,ys,4,rfl,hy,by decide,by decide,fun r zs hz r0 r1=>⟨zs,rfl,?_⟩⟩
  walk_at "w"
  refine⟨a,zs,13,rfl,hz,by decide,by decide,fun v ws hw v0 v1=>⟨ws,rfl,?_⟩⟩
  walk_at "w"
  obtain⟨p1,p2⟩:=yl hA.size hAb v0 v1
  have hd:=den_pos A.size
  have fin:∀p:Rat,(0≤p∧p≤A.size)→RB 70 p→Tw1 A.size p→Q .nx [.own a ws,.d (aM R),.own c (ps.map frD++[frD p]),.d (.str A.nm),.d (.int A.one),.d (.int A.other),.d (frD A.size),.d (.int r),.d (.int v)]:=by
   intro p hp hpb hpw
   refine h1 _ ⟨ps++[p],ws,_,_,_,_,_,_,by rw[List.map_append];rfl,hw,by rw[List.length_append,List.length_append,hl];rfl,fun x hx=>?_,fun q hq=>?_,fun x hx=>?_⟩
   ·
    rw[List.zip_append (by omega)]at hx
    rcases List.mem_append.mp hx with hx|hx
    ·
     exact hlo x hx
    ·
     have:x=(A,p):=by simpa using hx
     subst this
     exact hp
   ·
    rcases List.mem_append.mp hq with hq|hq
    ·
     exact hb q hq
    ·
     rw[List.mem_singleton.mp hq];exact hpb
   ·
    rw[List.zip_append (by omega)]at hx
    rcases List.mem_append.mp hx with hx|hx
    ·
     exact hw1 x hx
    ·
     have:x=(A,p):=by simpa using hx
     subst this
     exact hpw
  have hsz:ps.length<sizeLine:=Nat.lt_of_lt_of_le (show ps.length<20 by omega) (by decide)
  refine⟨by decide,hAb.bn (by decide),aO (by omega),hAb.bd (by decide),aO (by decide),A.size.num*v,(A.size.den:Int)*12,rfl,Int.mul_ne_zero (by omega) (by decide),?_,?_⟩
  ·
   rw[Int.natAbs_mul]
   exact Nat.lt_of_lt_of_le (bI (m:=60) (n:=10) (by rw[Int.natAbs_natCast];exact hAb.2) (show(12:Int).natAbs<2^10 by decide)) (Nat.pow_le_pow_right (by decide) (by decide))
  ·
   walk_at "w"
   refine⟨by decide,fun _=>?_⟩
   have hr:r=0∨r=1∨r=2∨r=3:=by omega
   rcases hr with rfl|rfl|rfl|rfl
   ·
    exact⟨frD 0,oJ,hsz,fin 0 ⟨by decide,hA.size⟩ (RB.zero.mono (by decide)) ⟨0,by decide,by decide,by rw[show Rat.divInt 0 12=0 from rfl,Rat.mul_zero]⟩⟩
   ·
    exact⟨frD A.size,mU,hsz,fin A.size ⟨hA.size,Rat.le_refl⟩ (hAb.mono (by decide)) ⟨12,by decide,by decide,by rw[show Rat.divInt 12 12=1 from rfl,Rat.mul_one]⟩⟩
   ·
    exact⟨_,zC,hsz,fin _ p1 p2 ⟨v,v0,by omega,by rw[← Rat.divInt_mul_divInt,Rat.num_divInt_den]⟩⟩
   ·
    exact⟨_,zC,hsz,fin _ p1 p2 ⟨v,v0,by omega,by rw[← Rat.divInt_mul_divInt,Rat.num_divInt_den]⟩⟩
 ·
  rintro ρ ⟨ps,ys,x3,x4,x5,x6,x7,x8,rfl,hy,hl,hlo,hb,hw1⟩
  walk_at "w"
  exact⟨_,dP (ys:=ys) (by simp) (aj aG),h ps c ys hy ⟨⟨hl,hlo,hb⟩,Fv hl hw1⟩⟩
def cw:FS:=fun ls post=>∃p q:Rat,ls=[.d (frD p),.d (frD q)]∧RB 4400 p∧RB 4400 q∧post (.d (frD (p-q))) ls
def gR:W Fl:=(wRet (aF cj (aVal (wBin gk (wBin bo (wBin opIx (wVar 0) (wC (.int 0))) (wBin opIx (wVar 1) (wC (.int 1)))) (wBin bo (wBin opIx (wVar 1) (wC (.int 0))) (wBin opIx (wVar 0) (wC (.int 1))))) (aVal (wFrz (wBin bo (wBin opIx (wVar 0) (wC (.int 1))) (wBin opIx (wVar 1) (wC (.int 1))))) aNil))))
theorem m8:∀ls post,ls.length=2→cw ls post→gR (ls++List.replicate 0 .un) (aV ls post):=by
 rintro ls post - ⟨p,q,rfl,hp,hq,h⟩
 unfold gR
 walk_at "w"
 refine⟨hp.bn (by decide),hq.bd (by decide),hq.bn (by decide),hp.bd (by decide),hp.bd (by decide),hq.bd (by decide),_,_,rfl,rZ p q,?_,_,aj (aj aG),?_⟩
 ·
  rw[oK]
  exact Nat.lt_of_lt_of_le (bI hp.2 hq.2) (Nat.pow_le_pow_right (by decide) (by decide))
 ·
  rw[AJ]
  exact h
def dX:FS:=fun ls post=>∃(R:Ring)(ps:List Rat)(k:Nat)(w:Bool),ls=[.d (aM R),.d (.lst (ps.map frD)),.d (.int (k:Int)),.d (.str (wayS w))]∧SlOk R ps∧k<ps.length∧post (.d (frD (nsQ R ps k (!w)))) ls
def jq:W Fl:=(wSeq (wIf (bf (wBin opEq (wVar 3) (wC (.str "on")))) (wRet (wBin opIx (wVar 1) (wVar 2))) cR)
  (wRet (aF cw (aVal (wBin opIx (wBin opIx (wBin opIx (wVar 0) (wC (.int 1))) (wVar 2)) (wC (.int 3))) (aVal (wBin opIx (wVar 1) (wVar 2)) aNil)))))
theorem pj:∀ls post,ls.length=4→dX ls post→jq (ls++List.replicate 0 .un) (aV ls post):=by
 rintro ls post - ⟨R,ps,k,w,rfl,hS,hk,h⟩
 have hk':k<R.asks.length:=by rw[← hS.len];exact hk
 have r1:=hS.sz_rb hk
 have r2:=hS.rb hk
 rw[i3 hk']at r1
 rw[bR hk]at r2
 unfold nsQ at h
 rw[i3 hk',bR hk]at h
 unfold jq
 walk_at "w"
 cases w with
 | true =>
  walk_at "w"
  exact⟨_,bJ hk,_,aj (aj (aj (aj aG))),h⟩
 | false =>
  walk_at "w"
  refine⟨_,bJ hk',?_⟩
  walk_at "w"
  refine⟨_,bJ hk,?_⟩
  walk_at "w"
  exact⟨_,_,rfl,r1.mono (by decide),r2.mono (by decide),_,aj (aj (aj (aj aG))),h⟩
def fC:FS:=fun ls post=>∃p q:Rat,ls=[.d (frD p),.d (frD q)]∧RB 400000 p∧RB 400000 q∧post (.d (.bl (decide (p<q)))) ls
def gS:W Fl:=(wRet (wBin opLt (wBin bo (wBin opIx (wVar 0) (wC (.int 0))) (wBin opIx (wVar 1) (wC (.int 1)))) (wBin bo (wBin opIx (wVar 1) (wC (.int 0))) (wBin opIx (wVar 0) (wC (.int 1))))))
theorem m9:∀ls post,ls.length=2→fC ls post→gS (ls++List.replicate 0 .un) (aV ls post):=by
 rintro ls post - ⟨p,q,rfl,hp,hq,h⟩
 unfold gS
 walk_at "w"
 refine⟨hp.bn (by decide),hq.bd (by decide),hq.bn (by decide),hp.bd (by decide),_,aj (aj aG),?_⟩
 rw[DU]
 exact h
def fE:FS:=fun ls post=>∃(a:Addr)(xs:List D)(R:Ring)(ps:List Rat),ls=[.own a xs,.d (aM R),.d (.lst (ps.map frD))]∧StOk xs∧SlOk R ps∧0<ps.length ∧
 ∀(s:aI)(v:Nat)(ys:List D),StOk ys→s.k<ps.length→s.l<ps.length→1≤v→v≤12→s.am=Rat.divInt ((msQ R ps s.k s.kw s.l s.lw).num*v) (((msQ R ps s.k s.kw s.l s.lw).den:Int)*12)→post (.d (slD s)) [.own a ys,.d (aM R),.d (.lst (ps.map frD))]
def iK:W Fl:=(wRet (wTup (aVal (wVar 4) (aVal (wVar 6) (aVal (wVar 5) (aVal (wVar 7) (aVal (wFrz (aF cj (aVal (wFrz (wBin bo (wBin opIx (wVar 10) (wC (.int 0))) (wVar 11))) (aVal (wFrz (wBin bo (wBin opIx (wVar 10) (wC (.int 1))) (wC (.int 12)))) aNil)))) aNil)))))))
def iL:W Fl:=(wSeq (wSet 11 (wBin opIx (wLst (aVal (wC (.int 12)) (aVal (wFrz (wBin bG (wC (.int 1)) (ba az 0 0 (aVar 0 (aVal (wC (.int 12)) aNil))))) aNil))) (ba az 0 0 (aVar 0 (aVal (wC (.int 2)) aNil)))))
  iK)
def iM:W Fl:=(wSeq (wSet 10 (wBin opIx (wLst (aVal (wVar 8) (aVal (wVar 9) aNil))) (bb u5 (aVal (wFrz (aF fC (aVal (wVar 9) (aVal (wVar 8) aNil)))) aNil))))
  iL)
def iN:W Fl:=(wSeq (wSet 9 (wFrz (aF cw (aVal (wBin opIx (wBin opIx (wBin opIx (wVar 1) (wC (.int 1))) (wVar 5)) (wC (.int 3))) (aVal (wFrz (aF dX (aVal (wVar 1) (aVal (wVar 2) (aVal (wVar 5) (aVal (wVar 7) aNil)))))) aNil)))))
  iM)
def iO:W Fl:=(wSeq (wSet 8 (wFrz (aF cw (aVal (wBin opIx (wBin opIx (wBin opIx (wVar 1) (wC (.int 1))) (wVar 4)) (wC (.int 3))) (aVal (wFrz (aF dX (aVal (wVar 1) (aVal (wVar 2) (aVal (wVar 4) (aVal (wVar 6) aNil)))))) aNil)))))
  iN)
def iP:W Fl:=(wSeq (wSet 7 (wBin opIx (wLst (aVal (wC (.str "on")) (aVal (wC (.str "back")) aNil))) (ba az 0 0 (aVar 0 (aVal (wC (.int 2)) aNil)))))
  iO)
def iQ:W Fl:=(wSeq (wSet 6 (wBin opIx (wLst (aVal (wC (.str "on")) (aVal (wC (.str "back")) aNil))) (ba az 0 0 (aVar 0 (aVal (wC (.int 2)) aNil)))))
  iP)
def iR:W Fl:=(wSeq (wSet 5 (wBin dz (wBin bG (wBin bG (wVar 4) (wC (.int 1))) (ba az 0 0 (aVar 0 (aVal (wFrz (bb u3 (aVal (wC (.int 1)) (aVal (wBin gk (wVar 3) (wC (.int 1))) aNil)))) aNil)))) (wVar 3)))
  iQ)
def iS:W Fl:=(wSeq (wSet 4 (wFrz (ba az 0 0 (aVar 0 (aVal (wVar 3) aNil)))))
  iR)
def gT:W Fl:=(wSeq (wSet 3 (wFrz (bb dN (aVal (wBin opIx (wVar 1) (wC (.int 1))) aNil))))
  iS)
theorem AX{r:Int}(h0:0≤r)(h1:r < 2):∃ w:Bool,atI [D.str (Str.ofString "on"),D.str (Str.ofString "back")] r=some (.str (wayS w)):=by
 have:r=0∨r=1:=by omega
 rcases this with rfl|rfl
 ·
  exact⟨true,rfl⟩
 ·
  exact⟨false,rfl⟩
theorem Fw{x y:Rat}:atI [frD x,frD y] (if y<x then 1 else 0)=some (frD (if y<x then y else x)):=by
 rw[xb]
 split<;>rfl
theorem Aw{r5 r6:Int}(h0:0≤r5)(h1:r5<12)(g0:0≤r6)(g1:r6<2):∃v:Nat,atI [D.int 12,D.int (1+r5)] r6=some (.int (v:Int))∧1≤v∧v≤12:=by
 have:r6=0∨r6=1:=by omega
 rcases this with rfl|rfl
 ·
  exact⟨12,rfl,by decide,by decide⟩
 ·
  obtain⟨v,e⟩:=Int.eq_ofNat_of_zero_le (show 0≤1+r5 by omega)
  exact⟨v,by rw[mU,e],by omega,by omega⟩
theorem nc:∀ls post,ls.length=3→fE ls post→gT (ls++List.replicate 9 .un) (aV ls post):=by
 rintro ls post - ⟨a,xs,R,ps,rfl,hx,hS,hp,h⟩
 have hfew:=hS.ok.few
 have hl:=hS.len
 unfold gT
 walk_at "w"
 unfold iS
 walk_at "w"
 refine⟨a,xs,(R.asks.length:Int),rfl,hx,by omega,by omega,fun k x1 hx1 k0 k1=>⟨x1,rfl,?_⟩⟩
 walk_at "w"
 unfold iR
 walk_at "w"
 refine⟨a,x1,_,rfl,hx1,by split<;>omega,by split<;>omega,fun m x2 hx2 m0 m1=>⟨x2,rfl,?_⟩⟩
 walk_at "w"
 refine⟨by omega,?_⟩
 obtain⟨k',rfl⟩:=Int.eq_ofNat_of_zero_le k0
 have lr:=dR ((k':Int)+1+m) (m:=(R.asks.length:Int)) (by omega)
 obtain⟨l',el⟩:=Int.eq_ofNat_of_zero_le lr.1
 rw[el]at lr ⊢
 have hk:k' < R.asks.length:=by omega
 have hll:l' < R.asks.length:=by omega
 have hk2:k' < ps.length:=by omega
 have hl2:l' < ps.length:=by omega
 unfold iQ
 walk_at "w"
 refine⟨by decide,fun _=>⟨a,x2,2,rfl,hx2,by decide,by decide,fun r3 x3 hx3 r30 r31=>⟨x3,rfl,?_⟩⟩⟩
 obtain⟨kw,ekw⟩:=AX r30 r31
 walk_at "w"
 refine⟨_,ekw,?_⟩
 walk_at "w"
 unfold iP
 walk_at "w"
 refine⟨by decide,fun _=>⟨a,x3,2,rfl,hx3,by decide,by decide,fun r4 x4 hx4 r40 r41=>⟨x4,rfl,?_⟩⟩⟩
 obtain⟨lw,elw⟩:=AX r40 r41
 walk_at "w"
 refine⟨_,elw,?_⟩
 walk_at "w"
 unfold iO
 walk_at "w"
 refine⟨_,bJ hk,?_⟩
 walk_at "w"
 refine⟨R,ps,k',kw,rfl,hS,hk2,?_⟩
 walk_at "w"
 have sk:=hS.sz_rb hk2
 have sl:=hS.sz_rb hl2
 rw[i3 hk]at sk
 rw[i3 hll]at sl
 have tk:=xO (R:=R) (ps:=ps) (k:=k') kw
 have tl:=xO (R:=R) (ps:=ps) (k:=l') lw
 rw[i3 hk]at tk
 rw[i3 hll]at tl
 refine⟨_,_,rfl,sk.mono (by decide),(jM hS hk2 _).mono (by decide),?_⟩
 rw[tk]
 walk_at "w"
 unfold iN
 walk_at "w"
 refine⟨_,bJ hll,?_⟩
 walk_at "w"
 refine⟨R,ps,l',lw,rfl,hS,hl2,?_⟩
 walk_at "w"
 refine⟨_,_,rfl,sl.mono (by decide),(jM hS hl2 _).mono (by decide),?_⟩
 rw[tl]
 walk_at "w"
 unfold iM
 walk_at "w"
 refine⟨by decide,fun _=>⟨_,_,rfl,(jM hS hl2 _).mono (by decide),(jM hS hk2 _).mono (by decide),?_⟩⟩
 walk_at "w"
 refine⟨_,Fw,?_⟩
 walk_at "w"
 unfold iL
 walk_at "w"
 refine⟨a,x4,12,rfl,hx4,by decide,by decide,fun r5 x5 hx5 r50 r51=>⟨x5,rfl,?_⟩⟩
 walk_at "w"
 refine⟨by decide,fun _=>⟨a,x5,2,rfl,hx5,by decide,by decide,fun r6 x6 hx6 r60 r61=>⟨x6,rfl,?_⟩⟩⟩
 obtain⟨v,ev,v1,v2⟩:=Aw r50 r51 r60 r61
 walk_at "w"
 refine⟨_,ev,?_⟩
 walk_at "w"
 unfold iK
 rw[show(if nsQ R ps l' lw<nsQ R ps k' kw then nsQ R ps l' lw else nsQ R ps k' kw)=msQ R ps k' kw l' lw from rfl]
 have hm:RB 3700 (msQ R ps k' kw l' lw):=by
  rcases(hS.ms hk2 hl2 kw lw).2.2.2 with z|z
  ·
   rw[z];exact jM hS hk2 _
  ·
   rw[z];exact jM hS hl2 _
 walk_at "w"
 have dpos:=(msQ R ps k' kw l' lw).den_pos
 have hden:=hm.2
 refine⟨hm.bn (by decide),aO (by have:(2:Nat)^4≤2^200:=Nat.pow_le_pow_right (by decide) (by decide);simp;omega),hm.bd (by decide),aO (by decide),_,_,rfl,by omega,?_,?_⟩
 ·
  rw[Int.natAbs_mul,Int.natAbs_natCast]
  have e:(2:Nat)^3700*2^4≤2^9000:=by rw[← Nat.pow_add];exact Nat.pow_le_pow_right (by decide) (by decide)
  refine Nat.lt_of_lt_of_le ?_ e
  show(msQ R ps k' kw l' lw).den*12<_
  exact Nat.mul_lt_mul_of_lt_of_le hden (by decide) (by decide)
 walk_at "w"
 refine⟨by decide,_,dP (ys:=x6) List.mem_cons_self (aj (aj aG)),?_⟩
 exact h ⟨k',kw,l',lw,_⟩ v x6 hx6 hk2 hl2 v1 v2 rfl
def ej:FS:=fun ls post=>∃(R:Ring)(ps:List Rat)(d:D)(D:Nat),ls=[.d (aM R),.d (.lst (ps.map frD)),.d d]∧SlOk R ps∧(∀s,slOf d=some s→RB 4000 s.am∧s.am.den∣D)∧(0<D∧D<2^1500∧(∀a∈R.asks,a.size.den∣D)∧(∀p∈ps,p.den∣D)) ∧
 (∀s,slOf d=some s→slT R ps d=true→∀a,post (.own a ((slL ps s).map frD)) ls)∧(slT R ps d=false→post (.d .non) ls)
def fF:W Fl:=(wSeq (wSet 3 (wC .non))
  (wSeq (wTry (fun xt=>(wSet 3 (qk bg xt (aVal (wVar 0) (aVal (wVar 1) (aVal (wFrz (wLst (aVal (wVar 2) aNil))) aNil)))))) "NoSlide" (wSet 3 (wC .non)))
  (wRet (jw 3))))
theorem Ei{k:W Fl}{R:Ring}{ps:List Rat}{d:D}{D:Nat}{post:Fl→Ev→Prop}(hS:SlOk R ps)(ha:∀s,slOf d=some s→RB 4000 s.am∧s.am.den∣D)(hD:0<D∧D<2^1500∧(∀a∈R.asks,a.size.den∣D)∧(∀p∈ps,p.den∣D))
  (h1:∀s,slOf d=some s→slT R ps d=true→∀a,k [.d (aM R),.d (.lst (ps.map frD)),.d d,.own a ((slL ps s).map frD)] post) (h2:slT R ps d=false→k [.d (aM R),.d (.lst (ps.map frD)),.d d,.d .non] post) :
  wSeq (wTry (fun xt=>(wSet 3 (qk bg xt (aVal (wVar 0) (aVal (wVar 1) (aVal (wFrz (wLst (aVal (wVar 2) aNil))) aNil)))))) "NoSlide" (wSet 3 (wC .non))) k [.d (aM R),.d (.lst (ps.map frD)),.d d,.d .non] post:=by
 walk_at "w"
 refine⟨by decide,fun _=>⟨R,ps,[d],D,rfl,hS,by simp,fun u hu=>?_,hD,fun e a=>?_,fun i e=>?_⟩⟩
 ·
  rw[List.mem_singleton.mp hu]
  exact ha
 ·
  unfold badD badD at e
  cases q:slT R ps d with
  | true =>
   obtain⟨s,es,_⟩:=AW q
   have es':slOf d=some s:=by rw[es];exact i4 s
   have er:runD R ps [d]=slL ps s:=by
    show stD ps d=_
    unfold stD
    rw[es']
   rw[er]
   exact h1 s es' q a
  |false=>rw[q]at e;cases e
 ·
  unfold badD badD at e
  cases q:slT R ps d with
  |true=>rw[q]at e;cases e
  |false=>exact⟨by rw[beq_self_eq_true,Bool.true_or],h2 q⟩
theorem CJ{k:W Fl}{x y z:L}{post:Fl→Ev→Prop}(h:k [x,y,z,.d .non] post):wSeq (wSet 3 (wC .non)) k ([x,y,z]++List.replicate 1 .un) post:=by
 walk_at "w"
 exact h
theorem mI:∀ls post,ls.length=3→ej ls post→fF (ls++List.replicate 1 .un) (aV ls post):=by
 rintro ls post - ⟨R,ps,d,D,rfl,hS,ha,hD,h1,h2⟩
 unfold fF
 refine CJ ?_
 refine Ei hS ha hD (fun s es e a=>?_) fun e=>?_
 ·
  walk_at "w"
  exact⟨_,aj (aj (aj aG)),h1 s es e a⟩
 ·
  walk_at "w"
  exact⟨_,aj (aj (aj aG)),h2 e⟩
def ek:FS:=fun ls post=>∃ss:List aI,ls=[.d (.lst (ss.map slD))]∧ss.length≤99∧(∀s∈ss,RB 4000 s.am)∧∀a,post (.own a ((hvL ss).map slD)) ls
def gU:W Fl:=(wSeq (wSet 7 (wFrz (aF cj (aVal (wBin opIx (wVar 6) (wC (.int 0))) (aVal (wFrz (wBin bo (wC (.int 2)) (wBin opIx (wVar 6) (wC (.int 1))))) aNil)))))
  (wSet 1 (wBin bG (wVar 1) (wLst (aVal (wTup (aVal (wVar 2) (aVal (wVar 3) (aVal (wVar 4) (aVal (wVar 5) (aVal (wVar 7) aNil)))))) (aVal (wTup (aVal (wVar 2) (aVal (wVar 3) (aVal (wVar 4) (aVal (wVar 5) (aVal (wVar 7) aNil)))))) aNil))))))
def fG:W Fl:=(wSeq (wSet 1 (wLst aNil))
  (wSeq (wFor (wSrc (wVar 0)) (jy [2,3,4,5,6]) gU)
  (wRet (jw 1))))
theorem Ax(a:Rat):Rat.divInt a.num (2*(a.den:Int))=a / 2:=by
 have h2:(2:Rat)≠0:=by decide
 have:=DT a h2
 rw[← this]
 show _=Rat.divInt (a.num*1) ((a.den:Int)*2)
 rw[Int.mul_one,Int.mul_comm]
theorem mJ:∀ls post,ls.length=1→ek ls post→fG (ls++List.replicate 7 .un) (aV ls post):=by
 rintro ls post - ⟨ss,rfl,hl,ha,h⟩
 unfold fG
 walk_at "w"
 refine⟨by decide,fun c=>?_⟩
 refine ue (enc:=slD) ss (fun pre ρ=>∃(a:Addr)(x2 x3 x4 x5 x6 x7:L),ρ=[.d (.lst (ss.map slD)),.own a ((hvL pre).map slD),x2,x3,x4,x5,x6,x7]) _ ⟨_,_,_,_,_,_,_,rfl⟩ ?_ ?_
 ·
  rintro pre s suf ρ hsp ⟨a,x2,x3,x4,x5,x6,x7,rfl⟩ Q h1 h2 h3 h4
  have hs:=ha s (by rw[hsp];simp)
  have hlen:pre.length<99:=by
   have:=congrArg List.length hsp
   rw[List.length_append,List.length_cons]at this
   omega
  have es:slD s=.tup [.int (s.k:Int),.str (wayS s.kw),.int (s.l:Int),.str (wayS s.lw),frD s.am]:=rfl
  rw[es]
  unfold gU
  walk_at "w"
  have hd:=hs.2
  refine⟨aO (by decide),zD (n:=4000) (by rw[Int.natAbs_natCast];exact hd) (by decide),s.am.num,2*(s.am.den:Int),rfl,by have:=den_pos s.am;omega,?_,?_⟩
  ·
   rw[Int.natAbs_mul,Int.natAbs_natCast]
   exact Nat.lt_of_lt_of_le (bI (m:=10) (n:=4000) (show(2:Int).natAbs<2^10 by decide) hd) (Nat.pow_le_pow_right (by decide) (by decide))
  rw[Ax]
  walk_at "w"
  refine⟨by decide,by decide,by decide,fun _=>⟨?_,fun b=>?_⟩⟩
  ·
   rw[sH]
   exact Nat.le_trans (show 2*pre.length+2≤1000 by omega) (by decide)
  have e:(hvL pre).map slD++[D.tup [.int (s.k:Int),.str (wayS s.kw),.int (s.l:Int),.str (wayS s.lw),frD (s.am / 2)],D.tup [.int (s.k:Int),.str (wayS s.kw),.int (s.l:Int),.str (wayS s.lw),frD (s.am / 2)]]=(hvL (pre++[s])).map slD:=by
   rw[xX,List.map_append]
   rfl
  rw[e]
  exact h1 _ ⟨b,_,_,_,_,_,_,rfl⟩
 ·
  rintro ρ ⟨a,x2,x3,x4,x5,x6,x7,rfl⟩
  walk_at "w"
  exact⟨_,aj aG,h a⟩
def eA:FS:=fun ls post=>∃(ss:List aI)(j:Nat),ls=[.d (.lst (ss.map slD)),.d (.int (j:Int))]∧ss.length≤99∧j+1<ss.length∧post (.d (.lst (ss.map slD))) ls ∧
 ∀(pre suf:List aI)(s t:aI),ss=pre++s::t::suf→pre.length=j→t.k≠s.k→t.k≠s.l→t.l≠s.k→t.l≠s.l→∀a,post (.own a ((pre++t::s::suf).map slD)) ls
def fH:W Fl:=(wSeq (wSet 2 (wBin opIx (wVar 0) (wVar 1)))
  (wSeq (wSet 3 (wBin opIx (wVar 0) (wBin bG (wVar 1) (wC (.int 1)))))
  (wSeq (wIf (bf (wBin opLt (rX (wLst (aVal (wBin opIx (wVar 2) (wC (.int 0))) (aVal (wBin opIx (wVar 2) (wC (.int 2))) (aVal (wBin opIx (wVar 3) (wC (.int 0))) (aVal (wBin opIx (wVar 3) (wC (.int 2))) aNil)))))) (wC (.int 4)))) (wRet (jw 0)) cR)
  (wRet (wBin bG (wBin bG (wSl2 (wVar 0) none (some (wVar 1))) (wLst (aVal (wVar 3) (aVal (wVar 2) aNil)))) (wSl2 (wVar 0) (some (wBin bG (wVar 1) (wC (.int 2)))) none))))))
theorem Ay(acc:List Int)(x:Int):(PyProof.Rows.step_dedup acc x).length≤acc.length+1:=by
 unfold PyProof.Rows.step_dedup
 split
 ·
  omega
 ·
  rw[List.length_append,List.length_singleton]
  exact Nat.le_refl _
theorem ym(acc:List Int)(x y:Int)(h:y∈acc):y∈PyProof.Rows.step_dedup acc x:=by
 unfold PyProof.Rows.step_dedup
 split
 ·
  exact h
 ·
  exact List.mem_append_left _ h
theorem Ej(acc:List Int)(x:Int):x∈PyProof.Rows.step_dedup acc x:=by
 unfold PyProof.Rows.step_dedup
 split
 ·
  rename_i h
  obtain⟨y,hy,e⟩:=List.any_eq_true.mp h
  rw[← eq_of_beq e]
  exact hy
 ·
  exact List.mem_append_right _ (List.mem_singleton_self x)
theorem AY{acc:List Int}{x:Int}(h:x∈acc):PyProof.Rows.step_dedup acc x=acc:=by
 unfold PyProof.Rows.step_dedup
 have e:(acc.any fun y=>y == x)=true:=List.any_eq_true.mpr ⟨x,h,beq_self_eq_true x⟩
 rw[if_pos e]
theorem Fx{a b c d:Int}(h:¬(oI [a,b,c,d]:Int)<4):c≠a∧c≠b∧d≠a∧d≠b:=by
 have e:oI [a,b,c,d]=(PyProof.Rows.step_dedup (PyProof.Rows.step_dedup (PyProof.Rows.step_dedup (PyProof.Rows.step_dedup [] a) b) c) d).length:=rfl
 have l1:=Ay [] a
 have l2:=Ay (PyProof.Rows.step_dedup [] a) b
 have l3:=Ay (PyProof.Rows.step_dedup (PyProof.Rows.step_dedup [] a) b) c
 have l4:=Ay (PyProof.Rows.step_dedup (PyProof.Rows.step_dedup (PyProof.Rows.step_dedup [] a) b) c) d
 have ia:a∈PyProof.Rows.step_dedup (PyProof.Rows.step_dedup [] a) b:=ym _ _ _ (Ej _ _)
 have ib:b∈PyProof.Rows.step_dedup (PyProof.Rows.step_dedup [] a) b:=Ej _ _
 have c3:c∈PyProof.Rows.step_dedup (PyProof.Rows.step_dedup [] a) b→False:=fun z=>by
  rw[AY z]at e l3 l4
  rw[List.length_nil]at l1
  omega
 have d3:d∈PyProof.Rows.step_dedup (PyProof.Rows.step_dedup (PyProof.Rows.step_dedup [] a) b) c→False:=fun z=>by
  rw[AY z]at e l4
  rw[List.length_nil]at l1
  omega
 exact⟨fun z=>c3 (by rw[z];exact ia),fun z=>c3 (by rw[z];exact ib),fun z=>d3 (by rw[z];exact ym _ _ _ ia),fun z=>d3 (by rw[z];exact ym _ _ _ ib)⟩
theorem mK:∀ls post,ls.length=2→eA ls post→fH (ls++List.replicate 2 .un) (aV ls post):=by
 rintro ls post - ⟨ss,j,rfl,hl,hj,h1,h2⟩
 obtain⟨pre,s,t,suf,hss,hpl⟩:∃pre s t suf,ss=pre++s::t::suf∧pre.length=j:=by
  refine⟨ss.take j,ss[j],ss[j+1],ss.drop (j+2),?_,by rw[List.length_take];omega⟩
  rw[← List.drop_eq_getElem_cons hj,← List.drop_eq_getElem_cons (by omega),List.take_append_drop]
 have a1:atI (ss.map slD) (j:Int)=some (.tup [.int (s.k:Int),.str (wayS s.kw),.int (s.l:Int),.str (wayS s.lw),frD s.am]):=eQ (by
  rw[hss,List.map_append,List.getElem?_append_right (by rw[List.length_map];omega),List.length_map,hpl,Nat.sub_self]
  rfl)
 have a2:atI (ss.map slD) ((j:Int)+1)=some (.tup [.int (t.k:Int),.str (wayS t.kw),.int (t.l:Int),.str (wayS t.lw),frD t.am]):=by
  rw[show(j:Int)+1=((j+1:Nat):Int) by omega]
  exact eQ (by
   rw[hss,List.map_append,List.getElem?_append_right (by rw[List.length_map];omega),List.length_map,hpl,show j+1-j=1 by omega]
   rfl)
 unfold fH rX
 walk_at "w"
 refine⟨_,a1,_,a2,?_⟩
 walk_at "w"
 refine⟨by decide,fun _=>⟨[(s.k:Int),(s.l:Int),(t.k:Int),(t.l:Int)],rfl,by simp,?_⟩⟩
 by_cases c:(oI [(s.k:Int),(s.l:Int),(t.k:Int),(t.l:Int)]:Int)<4
 ·
  rw[if_pos c]
  exact⟨_,aj (aj aG),h1⟩
 ·
  rw[if_neg c]
  obtain⟨n1,n2,n3,n4⟩:=Fx c
  have e1:cutD (ss.map slD) none (some (j:Int))=pre.map slD:=by
   have:¬((j:Int)<0):=by omega
   unfold cutD
   simp[HT.sIx,this]
   rw[hss,← hpl]
   simp
  have e2:cutD (ss.map slD) (some ((j:Int)+2)) none=suf.map slD:=by
   have:¬((j:Int)+2<0):=by omega
   unfold cutD
   simp[HT.sIx,this]
   have ed:ss.drop (j+2)=suf:=by
    rw[hss,← hpl,List.drop_append]
    simp
   rw[show((j:Int)+2).toNat=j+2 by omega,Nat.min_eq_left (by omega),List.take_of_length_le (by rw[List.length_drop,List.length_map];exact Nat.le_refl _),← List.map_drop,ed]
  rw[e1,e2]
  refine fun _=>⟨by decide,fun _=>⟨?_,fun _ _=>⟨?_,fun b=>?_⟩⟩⟩
  ·
   rw[List.length_map]
   exact Nat.le_trans (show pre.length+2≤1000 by omega) (by decide)
  ·
   have:=congrArg List.length hss
   simp only[List.length_append,List.length_map,List.length_cons,List.length_nil]at this ⊢
   exact Nat.le_trans (show pre.length+(0+1+1)+suf.length≤1000 by omega) (by decide)
  ·
   have:=h2 pre suf s t hss hpl (by omega) (by omega) (by omega) (by omega) b
   refine⟨_,aj (aj aG),?_⟩
   rw[List.map_append]at this
   rw[List.append_assoc]
   exact this
def fs_law:FS:=fun ls post=>∃ns:List Int,ls=[.d (.lst (ns.map .int))]∧ns.length≤63∧post (.d (.bl true)) ls
theorem yn{ns:List Int}(hl:ns.length≤63):fs_law [.d (.lst (ns.map .int))] (fun r _=>r=.d (.bl true)):=⟨ns,rfl,hl,rfl⟩
def nS:W Fl:=(wIf (wAnd (bf (wBin opLt (wBin bG (wVar 12) (wC (.int 1))) (dC 4 (wF 4) (bb dN (aVal (wVar 4) aNil))))) (bf (wBin opNe (jI bg (fun _=>False) (aVal (wVar 1) (aVal (wVar 2) (aVal (wFrz (oF 4 (aF eA (aVal (wVar 4) (aVal (wVar 12) aNil))))) aNil)))) (wVar 10)))) (wRet (wC (.bl false))) cR)
def kO:W Fl:=(wSeq (wIf (bf (wBin opNe (jI bg (fun _=>False) (aVal (wVar 1) (aVal (wVar 13) (aVal (wFrz (wSl2 (wVar 4) (some (wVar 12)) none)) aNil)))) (wVar 10))) (wRet (wC (.bl false))) cR)
  nS)
def eO:W Fl:=(wSeq (wSet 13 (wFrz (jI bg (fun _=>False) (aVal (wVar 1) (aVal (wVar 2) (aVal (wFrz (wSl2 (wVar 4) none (some (wVar 12)))) aNil))))))
  kO)
def yo:W Fl:=(wSeq (wSet 12 (wFrz (ba az 0 6 (aVar 6 (aVal (wFrz (wBin bG (dC 4 (wF 4) (bb dN (aVal (wVar 4) aNil))) (wC (.int 1)))) aNil)))))
  eO)
def uI:W Fl:=(wRet (wC (.bl true)))
def uJ:W Fl:=(wSeq (wFor (oe (wC (.int 3))) (bQ 11) yo)
  uI)
def yp:W Fl:=(wSeq (wSet 6 (aF bq (aVal (wVar 0) (aVal (wC (.int 4)) aNil))))
  uJ)
def yq:W Fl:=(wSeq (wIf (wOr (bf (wBin opNe (oF 4 (jI bg (fun _=>False) (aVal (wVar 1) (aVal (wVar 2) (aVal (wVar 4) aNil))))) (wVar 10))) (bf (wBin opNe (jI bg (fun _=>False) (aVal (wVar 1) (aVal (wVar 2) (aVal (wFrz (oF 4 (aF ek (aVal (wVar 4) aNil)))) aNil)))) (wVar 10)))) (wRet (wC (.bl false))) cR)
  yp)
def yr:W Fl:=(wSeq (pX (wApp 3 (wTup (aVal (wC (.int 0)) (aVal (wC (.int 1)) aNil)))))
  yq)
def yt:W Fl:=(wSeq (wSet 10 (wFrz (oF 3 (jI bg (fun _=>False) (aVal (wVar 1) (aVal (wVar 3) (aVal (wVar 9) aNil)))))))
  yr)
def yu:W Fl:=(wSeq (wSet 4 (wBin bG (wVar 4) (wVar 9)))
  yt)
def yv:W Fl:=(wSeq (pX (wApp 4 (wVar 7)))
  (wSet 3 (jw 8)))
def sW:W Fl:=(wSeq (wSet 7 (wFrz (ud 3 6 (ba fE 0 6 (aVar 6 (aVal (wVar 1) (aVal (wVar 3) aNil)))))))
  (wSeq (wSet 8 (oF 3 (aF ej (aVal (wVar 1) (aVal (wVar 3) (aVal (wVar 7) aNil))))))
  (wIf (t5 8 (bf (wBin qe (wVar 8) (wC .non)))) yv cR)))
def nT:W Fl:=(wIf (bf (wBin opGt (bb dN (aVal (wBin opIx (wVar 1) (wC (.int 1))) aNil)) (wC (.int 1)))) sW cR)
def yw:W Fl:=(wSeq (wSet 6 (aF bq (aVal (wVar 0) (aVal (wVar 5) aNil))))
  nT)
def yx:W Fl:=(wSeq (wSet 9 (wFrz (oF 3 (aF ft (aVal (wVar 1) (aVal (wVar 3) aNil))))))
  yu)
def yy:W Fl:=(wSeq (wFor (Bo (wC (.int 4)) (bb u3 (aVal (wC (.int 5)) (aVal (wFrz (bb u4 (aVal (wFrz (bb dN (aVal (wVar 0) aNil))) (aVal (wC (.int 36)) aNil)))) aNil)))) (bQ 5) yw)
  yx)
def yz:W Fl:=(wSeq (wSet 4 (wLst aNil))
  yy)
def yA:W Fl:=(wSeq (wSet 3 (bb nD (aVal (wVar 2) aNil)))
  yz)
def yB:W Fl:=(wSeq (wSet 2 (wFrz (aF fB (aVal (aF bq (aVal (wVar 0) (aVal (wC (.int 3)) aNil))) (aVal (wVar 1) aNil)))))
  yA)
def CK:W Fl:=(wSeq (wSet 1 (wFrz (aF gO (aVal (wVar 0) (aVal (wC (.int 0)) (aVal (wC (.int 8)) (aVal (wC (.int 8)) aNil)))))))
  yB)
theorem Az{R:Ring}{ps:List Rat}(hR:R.Ok)(hT:∀a∈R.asks,RB 60 a.size)(h:yk R ps):∃E:Nat,SlD R ps E∧E≤2^1210:=by
 have d2:denL R.asks≤2^1200:=Nat.le_trans (su hT) (Nat.pow_le_pow_right (by decide) (by have:=hR.few;omega))
 have d3:denL R.asks*12≤2^1210:=Nat.le_trans (Nat.mul_le_mul d2 (show 12≤2^10 by decide)) (by rw[← Nat.pow_add];exact Nat.le_refl _)
 have d4:denL R.asks*12<2^1500:=Nat.lt_of_le_of_lt d3 (Nat.pow_lt_pow_right (by decide) (by decide))
 have d0:0<denL R.asks*12:=Nat.mul_pos (oO _) (by decide)
 have da:∀a∈R.asks,a.size.den∣denL R.asks*12:=fun a ha=>Nat.dvd_trans (lJ ha) (Nat.dvd_mul_right _ _)
 have dp:∀p∈ps,p.den∣denL R.asks*12:=fun p hp=>by
  obtain⟨k,hk,rfl⟩:=List.getElem_of_mem hp
  have hk':k<R.asks.length:=by rw[← h.len];exact hk
  obtain⟨v,v0,v1,e⟩:=h.tw k hk'
  rw[← bR hk,e]
  refine Nat.dvd_trans (iZ _ _) (Nat.mul_dvd_mul ?_ ?_)
  ·
   rw[i3 hk']
   exact lJ (List.getElem_mem hk')
  ·
   have:=oP (t:=v) (b:=12) (by decide)
   exact this
 refine⟨denL R.asks*12,⟨⟨hR,h.len,fun k hk=>?_,_,d0,d4,da,dp⟩,d0,d4,da,dp⟩,d3⟩
 have hk':k<R.asks.length:=by rw[← h.len];exact hk
 have hz:k<(R.asks.zip ps).length:=by rw[List.length_zip];omega
 have:=h.lo _ (List.getElem_mem hz)
 rw[List.getElem_zip]at this
 rw[bR hk,i3 hk']
 exact this
theorem SlD.up{R:Ring}{ps:List Rat}{D E:Nat}(h:SlD R ps D)(e0:0<E)(e1:E<2^1500)(hd:D∣E):SlD R ps E:=⟨h.ok,e0,e1,fun a ha=>Nat.dvd_trans (h.da a ha) hd,fun p hp=>Nat.dvd_trans (h.dp p hp) hd⟩
theorem SlV.d{R:Ring}{qs:List Rat}{s:aI}(h:SlV R qs s):SlDo R qs s:=⟨h.k,h.l,h.kl,Rat.le_of_lt h.pos,h.kn,h.ln⟩
theorem SlV.rb{R:Ring}{qs:List Rat}{s:aI}{F:Nat}(hq:SlD R qs F)(h:SlV R qs s)(hd:s.am.den∣F):RB 1800 s.am:=by
 have hk':s.k<R.asks.length:=by rw[← hq.ok.len];exact h.k
 have lt:s.am<((2^300:Nat):Rat):=rlt h.kn (rlt (hq.ok.ns h.k s.kw).2 (by rw[i3 hk'];exact(hq.ok.ok.ask _ (List.getElem_mem hk')).lt))
 exact RB.of_val (v:=300) (d:=1500) (Rat.le_of_lt h.pos) (Nat.lt_of_le_of_lt (Nat.le_of_dvd hq.d0 hd) hq.d1) lt
structure Chn (R:Ring) (qs:List Rat) (ss:List aI) (F:Nat):Prop where
 q:SlD R qs F
 v:Vs R qs ss
 d:∀s∈ss,s.am.den∣F
theorem Chn.run{R:Ring}{F:Nat}:∀{ss:List aI}{qs:List Rat},Chn R qs ss F→SlD R (runL qs ss) F
 |[],_,h=>h.q
 |s::ss,qs,h=>Chn.run (ss:=ss) ⟨h.q.slid h.v.1.d (h.d s List.mem_cons_self),h.v.2,fun t ht=>h.d t (List.mem_cons_of_mem _ ht)⟩
theorem Chn.rb{R:Ring}{F:Nat}:∀{ss:List aI}{qs:List Rat},Chn R qs ss F→∀s∈ss,RB 1800 s.am
 |[],_,_,s,hs=>by cases hs
 | s::ss,qs,h,t,ht=>by
  rcases List.mem_cons.mp ht with rfl|ht
  ·
   exact h.v.1.rb h.q (h.d _ List.mem_cons_self)
  ·
   exact Chn.rb (ss:=ss) ⟨h.q.slid h.v.1.d (h.d s List.mem_cons_self),h.v.2,fun t ht=>h.d t (List.mem_cons_of_mem _ ht)⟩ t ht
theorem Chn.bad{R:Ring}{F:Nat}:∀{ss:List aI}{qs:List Rat}(i:Nat),Chn R qs ss F→badD R i qs (ss.map slD)=none∧runD R qs (ss.map slD)=runL qs ss
 |[],_,_,_=>⟨rfl,rfl⟩
 | s::ss,qs,i,h=>by
  have st:stD qs (slD s)=slL qs s:=by unfold stD;rw[i4]
  obtain⟨a,b⟩:=Chn.bad (ss:=ss) (i+1) ⟨h.q.slid h.v.1.d (h.d s List.mem_cons_self),h.v.2,fun t ht=>h.d t (List.mem_cons_of_mem _ ht)⟩
  refine⟨?_,?_⟩
  ·
   show(if slT R qs (slD s)then badD R (i+1) (stD qs (slD s)) _ else some i)=none
   rw[xV h.v.1.k h.v.1.l,h.v.1.b,if_pos rfl,st]
   exact a
  ·
   show runD R (stD qs (slD s)) _=_
   rw[st]
   exact b
theorem mL{R:Ring}{qs:List Rat}{ss:List aI}{F:Nat}{post:L→Prop}{xp:Xc→Prop}(h:Chn R qs ss F)(hl:ss.length≤99)(q:∀a,post (.own a ((runL qs ss).map frD))):bg [aM R,.lst (qs.map frD),.lst (ss.map slD)] post xp:=by
 obtain⟨b1,b2⟩:=h.bad 0
 refine⟨R,qs,ss.map slD,F,rfl,h.q.ok,by rw[List.length_map];exact hl,fun d hd s es=>?_,⟨h.q.d0,h.q.d1,h.q.da,h.q.dp⟩,fun _ a=>?_,fun i e=>?_⟩
 ·
  obtain⟨u,hu,rfl⟩:=List.mem_map.mp hd
  rw[i4]at es
  cases es
  exact⟨(h.rb _ hu).mono (by decide),h.d _ hu⟩
 ·
  rw[b2]
  exact q a
 ·
  rw[b1]at e
  cases e
theorem Chn.app{R:Ring}{qs:List Rat}{ss ts:List aI}{F:Nat}(h:Chn R qs ss F)(h2:Chn R (runL qs ss) ts F):Chn R qs (ss++ts) F:=⟨h.q,h.v.app h2.v,fun s hs=>(List.mem_append.mp hs).elim (h.d s) (h2.d s)⟩
theorem Chn.unapp{R:Ring}{qs:List Rat}{ss ts:List aI}{F:Nat}(h:Chn R qs (ss++ts) F):Chn R qs ss F∧Chn R (runL qs ss) ts F:=by
 obtain⟨a,b⟩:=h.v.unapp
 have c:Chn R qs ss F:=⟨h.q,a,fun s hs=>h.d s (List.mem_append_left _ hs)⟩
 exact⟨c,c.run,b,fun s hs=>h.d s (List.mem_append_right _ hs)⟩
theorem Chn.up{R:Ring}{qs:List Rat}{ss:List aI}{F G:Nat}(h:Chn R qs ss F)(e0:0<G)(e1:G<2^1500)(hd:F∣G):Chn R qs ss G:=⟨h.q.up e0 e1 hd,h.v,fun s hs=>Nat.dvd_trans (h.d s hs) hd⟩
theorem Chn.halves{R:Ring}{qs:List Rat}{ss:List aI}{F:Nat}(h:Chn R qs ss F)(e1:F*2<2^1500):Chn R qs (hvL ss) (F*2)∧runL qs (hvL ss)=runL qs ss:=by
 obtain⟨a,b⟩:=h.v.halves
 refine⟨⟨h.q.up (by have:=h.q.d0;omega) e1 (Nat.dvd_mul_right _ _),a,fun t ht=>?_⟩,b⟩
 obtain⟨s,hs,rfl⟩:=xY ht
 show(s.am / 2).den∣F*2
 rw[Rat.div_def]
 exact Nat.dvd_trans (iZ _ _) (Nat.mul_dvd_mul (h.d s hs) (show(2⁻¹:Rat).den∣2 by decide +kernel))
theorem Chn.turned{R:Ring}{qs:List Rat}{pre suf:List aI}{s t:aI}{F:Nat}(h:Chn R qs (pre++s::t::suf) F)(n1:t.k≠s.k)(n2:t.k≠s.l)(n3:t.l≠s.k)(n4:t.l≠s.l):Chn R qs (pre++t::s::suf) F∧runL qs (pre++t::s::suf)=runL qs (pre++s::t::suf):=by
 obtain⟨a,b⟩:=h.unapp
 obtain⟨v1,v2,v3⟩:=b.v
 obtain⟨c1,c2,c3⟩:=v1.swap v2 n1 n2 n3 n4
 rw[← c3]at v3
 have hb:Chn R (runL qs pre) (t::s::suf) F:=⟨b.q,⟨c1,c2,v3⟩,fun u hu=>b.d u (by
  rcases List.mem_cons.mp hu with rfl|hu
  ·
   simp
  ·
   rcases List.mem_cons.mp hu with rfl|hu
   ·
    simp
   ·
    simp[hu])⟩
 refine⟨a.app hb,?_⟩
 rw[jN,jN]
 show runL (slL (slL (runL qs pre) t) s) suf=runL (slL (slL (runL qs pre) s) t) suf
 rw[c3]
theorem yC{R:Ring}{F:Nat}:∀(m:Nat)(qs:List Rat),SlD R qs F→Chn R qs (slsF R m qs) F
 |0,_,h=>⟨h,trivial,fun s hs=>by cases hs⟩
 | m+1,qs,h=>by
  unfold slsF
  cases e:nxtS R qs with
  |none=>exact⟨h,trivial,fun s hs=>by cases hs⟩
  | some u =>
   obtain⟨h1,h2,_⟩:=uC h.ok e
   have ha:=Cz h.ok e h.d0 h.da h.dp
   have ih:=yC m (slL qs u) (h.slid h1 ha)
   exact⟨h,⟨SlV.of h.ok h1.k h1.l h2,ih.v⟩,fun s hs=>(List.mem_cons.mp hs).elim (fun z=>by rw[z];exact ha) (ih.d s)⟩
theorem mM(ss:List aI):noLs (ss.map slD)=true:=by
 induction ss with
 |nil=>rfl
 | cons s ss ih =>
  rw[List.map_cons]
  simp only[noLs,ih,Bool.and_true]
  simp only[slD,noL,noLs,uk,Bool.and_self]
theorem Ek(s:aI):noLr (.d (slD s))=true:=by
 rw[AL]
 simp only[slD,noL,noLs,uk,Bool.and_self]
theorem fJ{ys:List D}(h:StOk ys):noLs ys=true:=by
 obtain⟨_,_,_,rfl,_⟩:=h
 rfl
theorem CL{R:Ring}{ps qs:List Rat}{ss:List aI}{F:Nat}{b c e:Addr}{xs:List D}{x0 x5 x7 x8 x9 x10 x11 x12 x13:L}{Q:Fl→Ev→Prop}(hx:StOk xs)(hq:SlD R qs F)(h12:F*12<2^1500)(hn:ss.length≤60)(f:(cT x0=true∧cT x5=true∧cT x7=true∧cT x8=true)∧cT x9=true∧cT x10=true∧cT x11=true∧cT x12=true∧cT x13=true)
  (h1:∀(s:aI)(ys:List D)(a:Addr),StOk ys→SlV R qs s→s.am.den∣F*12→Q .nx [x0,.d (aM R),.d (.lst (ps.map frD)),.own a ((slL qs s).map frD),.own e ((ss++[s]).map slD),x5,.own b ys,.d (slD s),.un,x9,x10,x11,x12,x13])
  (h2:∀(s:aI)(ys:List D),StOk ys→Q .nx [x0,.d (aM R),.d (.lst (ps.map frD)),.own c (qs.map frD),.own e (ss.map slD),x5,.own b ys,.d (slD s),.d .non,x9,x10,x11,x12,x13]) (hp:0<qs.length) :
  sW [x0,.d (aM R),.d (.lst (ps.map frD)),.own c (qs.map frD),.own e (ss.map slD),x5,.own b xs,x7,x8,x9,x10,x11,x12,x13] Q:=by
 obtain⟨⟨f0,f5,f7,f8⟩,f9,f10,f11,f12,f13⟩:=f
 have fs:=mM ss
 have fq:=eX qs
 have d0:=hq.d0
 have hD:0<F*12∧F*12<2^1500∧(∀a∈R.asks,a.size.den∣F*12)∧∀p∈qs,p.den∣F*12:=⟨by omega,h12,fun a ha=>Nat.dvd_trans (hq.da a ha) (Nat.dvd_mul_right _ _),fun p hp=>Nat.dvd_trans (hq.dp p hp) (Nat.dvd_mul_right _ _)⟩
 unfold sW
 walk_at "w"
 refine⟨by decide,by rw[f0,fs,f5,fJ hx,f7,f8,f9,f10,f11,f12,f13];rfl,b,xs,R,qs,rfl,hx,hq.ok,hp,fun s v ys hy hk hl v1 v2 e'=>⟨ys,rfl,Ek s,ys,fJ hy,rfl,?_⟩⟩
 obtain⟨a1,a2⟩:=Aj hq.ok d0 h12 hq.da hq.dp hk hl v1 v2 e'
 dsimp only
 refine⟨by rw[f0,fs,f5,fJ hy,f8,f9,f10,f11,f12,f13];rfl,R,qs,slD s,F*12,rfl,hq.ok,fun u eu=>?_,hD,fun u eu ht a=>?_,fun hf=>?_⟩
 ·
  rw[i4]at eu
  cases eu
  exact⟨a1.mono (by decide),a2⟩
 ·
  rw[i4]at eu
  cases eu
  rw[xV hk hl]at ht
  refine⟨by rw[g9];exact eX _,?_⟩
  walk_at "w"
  refine⟨by rw[f0,fs,f5,fJ hy,f9,f10,f11,f12,f13];rfl,?_⟩
  unfold yv
  walk_at "w"
  refine⟨Nat.lt_of_le_of_lt hn (by decide),?_⟩
  have:=h1 s ys a hy (SlV.of hq.ok hk hl ht) a2
  rw[List.map_append]at this
  exact this
 ·
  refine⟨rfl,?_⟩
  walk_at "w"
  exact h2 s ys hy
theorem cutk(us:List aI)(k:Nat):cutD (us.map slD) none (some (k:Int))=(us.take k).map slD∧cutD (us.map slD) (some (k:Int)) none=(us.drop k).map slD:=by
 have:¬((k:Int)<0):=by omega
 refine⟨?_,?_⟩
 ·
  unfold cutD
  simp[HT.sIx,this]
 ·
  unfold cutD
  simp[HT.sIx,this]
  by_cases h:k≤us.length
  ·
   rw[Nat.min_eq_left h]
   exact List.take_of_length_le (by rw[List.length_drop,List.length_map];exact Nat.le_refl _)
  ·
   rw[Nat.min_eq_right (by omega),List.drop_eq_nil_of_le (by rw[List.length_map];exact Nat.le_refl _),List.drop_eq_nil_of_le (by rw[List.length_map];omega),List.take_nil]
theorem CM{R:Ring}{ps:List Rat}{us:List aI}{F k:Nat}{e:Addr}{x0 x3 x4 x5 x6 x7 x8 x9 x11 x13:L}{Q:Fl→Ev→Prop}(hU:Chn R ps us F)(uL:us.length≤49)(hk:k≤us.length)(h4:x4=.own e (us.map slD)∨x4=.d (.lst (us.map slD)))
  (g:∀y:D,Q .nx [x0,.d (aM R),.d (.lst (ps.map frD)),x3,.d (.lst (us.map slD)),x5,x6,x7,x8,x9,.d (.lst ((runL ps us).map frD)),x11,.d (.int (k:Int)),.d y]) :
  eO [x0,.d (aM R),.d (.lst (ps.map frD)),x3,x4,x5,x6,x7,x8,x9,.d (.lst ((runL ps us).map frD)),x11,.d (.int (k:Int)),x13] Q:=by
 obtain⟨k1,k2⟩:=cutk us k
 have eqq:∀xs:List Rat,eqD (.lst (xs.map frD)) (.lst (xs.map frD))=true:=fun xs=>by rw[xg,decide_eq_true rfl]
 have sp:us=us.take k++us.drop k:=(List.take_append_drop k us).symm
 have hS:Chn R ps (us.take k++us.drop k) F:=by rw[← sp];exact hU
 obtain⟨hA,hB⟩:=hS.unapp
 have rr:runL (runL ps (us.take k)) (us.drop k)=runL ps us:=by rw[← jN,← sp]
 have rest:kO [x0,.d (aM R),.d (.lst (ps.map frD)),x3,.d (.lst (us.map slD)),x5,x6,x7,x8,x9,.d (.lst ((runL ps us).map frD)),x11,.d (.int (k:Int)),.d (.lst ((runL ps (us.take k)).map frD))] Q:=by
  unfold kO
  walk_at "w"
  rw[k2]
  intro a1
  refine mL hB (by rw[List.length_drop];omega) fun a2=>?_
  rw[rr]
  dsimp only
  refine⟨cU _,cU _,?_⟩
  rw[eqq,if_neg (by decide)]
  unfold nS
  walk_at "w"
  have one:∀vs:List aI,Chn R ps vs F→vs.length≤99→runL ps vs=runL ps us→∀(post:L→Prop)(xp:Xc→Prop),(∀a,post (.own a ((runL ps us).map frD)))→bg [aM R,.lst (ps.map frD),.lst (vs.map slD)] post xp:=fun vs hv hl e post xp q=>mL hv hl (by rw[e];exact q)
  have fin:∀a:Addr,cS (.lst ((runL ps us).map frD))∧cS (.lst ((runL ps us).map frD))∧if eqD (.lst ((runL ps us).map frD)) (.lst ((runL ps us).map frD))=false then Q (Fl.rt (L.d (D.bl false))) [x0,.d (aM R),.d (.lst (ps.map frD)),x3,.d (.lst (us.map slD)),x5,x6,x7,x8,x9,.d (.lst ((runL ps us).map frD)),x11,.d (.int (k:Int)),.d (.lst ((runL ps (us.take k)).map frD))]else Q Fl.nx [x0,.d (aM R),.d (.lst (ps.map frD)),x3,.d (.lst (us.map slD)),x5,x6,x7,x8,x9,.d (.lst ((runL ps us).map frD)),x11,.d (.int (k:Int)),.d (.lst ((runL ps (us.take k)).map frD))]:=fun a=>by
   refine⟨cU _,cU _,?_⟩
   rw[eqq,if_neg (by decide)]
   exact g _
  by_cases c:(k:Int)+1<(us.length:Int)
  ·
   rw[if_pos c]
   refine⟨us,k,rfl,by omega,by omega,?_,fun pre suf s t hss hpl n1 n2 n3 n4 a=>?_⟩
   ·
    exact one us hU (by omega) rfl _ _ fin
   ·
    rw[hss]at hU
    obtain⟨hV,rV⟩:=hU.turned n1 n2 n3 n4
    refine one _ hV ?_ (by rw[rV,hss]) _ _ fin
    have:=congrArg List.length hss
    simp only[List.length_append,List.length_cons]at this ⊢
    omega
  ·
   rw[if_neg c]
   exact g _
 rcases h4 with rfl|rfl
 ·
  unfold eO
  walk_at "w"
  rw[k1]
  intro a1
  refine mL hA (by rw[List.length_take];omega) fun a2=>?_
  walk_at "w"
  exact rest
 ·
  unfold eO
  walk_at "w"
  rw[k1]
  intro a1
  refine mL hA (by rw[List.length_take];omega) fun a2=>?_
  walk_at "w"
  exact rest
theorem CN:∀ls post,ls.length=1→fs_law ls post→CK (ls++List.replicate 13 .un) (aV ls post):=by
 rintro ls post - ⟨ns,rfl,hl,h⟩
 unfold CK
 walk_at "w"
 refine⟨ns,0,8,8,rfl,by decide,by decide,by decide,by decide,fun R hD=>?_⟩
 have hR:=hD.ok
 have few:=hD.few
 walk_at "w"
 unfold yB
 walk_at "w"
 refine⟨ns,3,rfl,by decide,by decide,fun a0 xs0 hx0=>?_⟩
 walk_at "w"
 refine⟨a0,xs0,R,rfl,hx0,hR,hD.tt,fun ps c0 ys0 hy0 hp=>?_⟩
 walk_at "w"
 obtain⟨E,hE,hE2⟩:=Az hR hD.tt hp
 unfold yA
 walk_at "w"
 intro c1
 unfold yz
 walk_at "w"
 refine⟨by decide,fun c2=>?_⟩
 unfold yy
 walk_at "w"
 have hm:∃m:Int,(if(if 36<(ns.length:Int)then 36 else(ns.length:Int)) > 5 then if 36<(ns.length:Int)then 36 else(ns.length:Int)else 5)=m∧5≤m∧m≤36:=⟨_,rfl,by split<;>(try split)<;>omega,by split<;>(try split)<;>omega⟩
 obtain⟨m,em,m2,m36⟩:=hm
 rw[em]
 refine⟨⟨by decide,by decide⟩,⟨by omega,by omega⟩,?_⟩
 have big:∀j:Nat,j≤33→E*12^j<2^1400:=fun j hj=>by
  have e1:(12:Nat)^j≤2^132:=Nat.le_trans (Nat.pow_le_pow_left (show 12≤2^4 by decide) j) (by rw[← Nat.pow_mul];exact Nat.pow_le_pow_right (by decide) (by omega))
  exact Nat.lt_of_le_of_lt (Nat.mul_le_mul hE2 e1) (by rw[← Nat.pow_add];exact Nat.pow_lt_pow_right (by decide) (by decide))
 have big2:∀j:Nat,j≤33→E*12^j*2<2^1500:=fun j hj=>by
  have:=big j hj
  have e:(2:Nat)^1500=2^100*2^1400:=by rw[← Nat.pow_add]
  rw[e,Nat.mul_comm]
  exact Nat.mul_lt_mul_of_le_of_lt (show 2≤2^100 by decide) this (by decide)
 have pos:∀j:Nat,0<E*12^j:=fun j=>Nat.mul_pos hE.d0 (Nat.pow_pos (by decide))
 have up:∀j:Nat,E*12^j∣E*12^(j+1):=fun j=>Nat.mul_dvd_mul_left _ ⟨12,by rw[Nat.pow_succ]⟩
 refine ug 4 _ (fun j ρ=>∃(qs:List Rat)(ss:List aI)(c e:Addr)(x5 x6 x7 x8:L),(cT x5=true∧cT x6=true∧cT x7=true∧cT x8=true)∧ρ=[.d (.lst (ns.map .int)),.d (aM R),.d (.lst (ps.map frD)),.own c (qs.map frD),.own e (ss.map slD),x5,x6,x7,x8,.un,.un,.un,.un,.un]∧Chn R ps ss (E*12^j)∧runL ps ss=qs∧ss.length≤j) _ ⟨ps,[],c1,c2,_,_,_,_,⟨bK,bK,bK,bK⟩,rfl,⟨by rw[Nat.pow_zero,Nat.mul_one];exact hE,trivial,fun s hs=>by cases hs⟩,rfl,Nat.le_refl _⟩ ?_ ?_
 ·
  rintro j ρ hj ⟨qs,ss,c,e,x5,x6,x7,x8,⟨f5,f6,f7,f8⟩,rfl,hC,hr,hn⟩ Q g1 g2 g3 g4
  have hq:=hC.run
  rw[hr]at hq
  have h12:E*12^j*12<2^1500:=by
   rw[Nat.mul_assoc,← Nat.pow_succ]
   exact Nat.lt_trans (big (j+1) (by omega)) (Nat.pow_lt_pow_right (by decide) (by decide))
  have e12:E*12^j*12=E*12^(j+1):=by rw[Nat.mul_assoc,← Nat.pow_succ]
  have hC':Chn R ps ss (E*12^(j+1)):=hC.up (pos _) (Nat.lt_trans (big (j+1) (by omega)) (Nat.pow_lt_pow_right (by decide) (by decide))) (up j)
  unfold yw
  walk_at "w"
  refine⟨ns,4+(j:Int),rfl,by omega,by omega,fun b xs hx=>?_⟩
  walk_at "w"
  unfold nT
  walk_at "w"
  by_cases c1:(1:Int)<(R.asks.length:Int)
  ·
   rw[if_pos c1]
   have hql:qs.length=R.asks.length:=hq.ok.len
   refine CL hx hq h12 (by omega) ⟨⟨rfl,rfl,f7,f8⟩,bK,bK,bK,bK,bK⟩ (fun s ys a hy hv hd=>?_) (fun s ys hy=>?_) (by omega)
   ·
    refine g1 _ ⟨slL qs s,ss++[s],a,e,_,_,_,_,⟨rfl,by rw[jE];exact fJ hy,rfl,bK⟩,rfl,?_,?_,?_⟩
    ·
     rw[e12]at hd
     refine hC'.app ⟨hC'.run,?_,fun u hu=>?_⟩
     ·
      rw[hr]
      exact⟨hv,trivial⟩
     ·
      rw[List.mem_singleton.mp hu]
      exact hd
    ·
     rw[jN,hr]
     rfl
    ·
     rw[List.length_append,List.length_singleton]
     omega
   ·
    exact g1 _ ⟨qs,ss,c,e,_,_,_,_,⟨rfl,by rw[jE];exact fJ hy,rfl,rfl⟩,rfl,hC',hr,by omega⟩
  ·
   rw[if_neg c1]
   exact g1 _ ⟨qs,ss,c,e,_,_,_,_,⟨rfl,by rw[jE];exact fJ hx,f7,f8⟩,rfl,hC',hr,by omega⟩
 ·
  rintro ρ ⟨qs,ss,c,e,x5,x6,x7,x8,⟨f5,f6,f7,f8⟩,rfl,hC,hr,hn⟩
  have mj:(m-4).toNat≤32:=by omega
  generalize (m-4).toNat=j at mj hC hn
  have hq:=hC.run
  rw[hr]at hq
  have hT:=yC 20 qs hq
  have tl:(slsF R 20 qs).length≤8:=by
   refine Nat.le_trans (xP 20 qs hq.ok) (Nat.le_trans (List.length_filter_le _ _) ?_)
   rw[List.length_range,hq.ok.len]
   omega
  unfold yx
  walk_at "w"
  refine⟨by rw[mM,f5,f6,f7,f8];rfl,R,qs,rfl,hq.ok,fun a1=>⟨by rw[g9];exact mM _,?_⟩⟩
  generalize slsF R 20 qs=ts at hT tl
  walk_at "w"
  unfold yu
  walk_at "w"
  refine⟨?_,fun e2=>?_⟩
  ·
   exact Nat.le_trans (show ss.length+ts.length≤1000 by omega) (by decide)
  have hU:Chn R ps (ss++ts) (E*12^j):=by
   rw[← hr]at hT
   exact hC.app hT
  have rU:runL ps (ss++ts)=runL qs ts:=by rw[jN,hr]
  have uL:(ss++ts).length≤40:=by rw[List.length_append];omega
  rw[← List.map_append]
  unfold yt
  walk_at "w"
  refine⟨by rw[mM,f5,f6,f7,f8];rfl,mL hT (by omega) fun a2=>⟨by rw[g9];exact eX _,?_⟩⟩
  rw[← rU]
  generalize ss++ts=us at hU uL
  walk_at "w"
  unfold yr
  walk_at "w"
  refine⟨by decide,?_,?_⟩
  ·
   exact Nat.lt_of_lt_of_le (show qs.length<99 by rw[hq.ok.len];omega) (by decide)
  unfold yq
  walk_at "w"
  have fl:noLs (qs.map frD++[D.tup [D.int 0,D.int 1]])=true:=by
   have:=eX (qs++[0])
   rw[List.map_append]at this
   exact this
  have eqq:∀xs:List Rat,eqD (.lst (xs.map frD)) (.lst (xs.map frD))=true:=fun xs=>by rw[xg,decide_eq_true rfl]
  refine⟨by rw[fl,f5,f6,f7,f8];rfl,mL hU (by omega) fun a3=>⟨by rw[g9];exact eX _,?_⟩⟩
  dsimp only
  refine⟨cU _,cU _,?_⟩
  rw[eqq,if_neg (by decide)]
  obtain⟨hH,rH⟩:=hU.halves (big2 j (by omega))
  refine⟨by rw[fl,f5,f6,f7,f8];rfl,us,rfl,by omega,fun s hs=>(hU.rb s hs).mono (by decide),fun a4=>⟨by rw[g9];exact mM _,?_⟩⟩
  dsimp only
  refine mL hH (by rw[sH];omega) fun a5=>?_
  rw[rH]
  dsimp only
  refine⟨cU _,cU _,?_⟩
  rw[eqq,if_neg (by decide)]
  unfold yp
  walk_at "w"
  refine⟨ns,4,rfl,by decide,by decide,fun b xs hx=>?_⟩
  walk_at "w"
  unfold uJ
  walk_at "w"
  refine⟨⟨by decide,by decide⟩,?_⟩
  refine xc 3 (fun _ ρ=>∃(ys:List D)(x4 x11 x12 x13:L),(x4=.own e2 (us.map slD)∨x4=.d (.lst (us.map slD)))∧StOk ys∧(cT x11=true∧cT x12=true∧cT x13=true)∧ρ=[.d (.lst (ns.map .int)),.d (aM R),.d (.lst (ps.map frD)),.own c (qs.map frD++[D.tup [D.int 0,D.int 1]]),x4,x5,.own b ys,x7,x8,.d (.lst (ts.map slD)),.d (.lst ((runL ps us).map frD)),x11,x12,x13]) _ ⟨xs,_,_,_,_,.inl rfl,hx,⟨bK,bK,bK⟩,rfl⟩ ?_ ?_
  ·
   rintro i ρ hi ⟨ys,x4,x11,x12,x13,h4,hy,⟨f11,f12,f13⟩,rfl⟩ Q g1 g2 g3 g4
   unfold yo
   have go:∀(k:Nat)(zs:List D),k≤us.length→StOk zs→eO [.d (.lst (ns.map .int)),.d (aM R),.d (.lst (ps.map frD)),.own c (qs.map frD++[D.tup [D.int 0,D.int 1]]),x4,x5,.own b zs,x7,x8,.d (.lst (ts.map slD)),.d (.lst ((runL ps us).map frD)),.d (.int (i:Int)),.d (.int (k:Int)),x13] Q:=fun k zs hk hz=>CM hU (by omega) hk h4 fun y=>g1 _ ⟨zs,_,_,_,_,.inr rfl,hz,⟨rfl,rfl,rfl⟩,rfl⟩
   rcases h4 with rfl|rfl
   ·
    walk_at "w"
    refine⟨b,ys,(us.length:Int)+1,rfl,hy,by omega,by omega,fun r zs hz r0 r1=>⟨zs,rfl,?_⟩⟩
    have:=go r.toNat zs (by omega) hz
    rw[Int.toNat_of_nonneg r0]at this
    exact this
   ·
    walk_at "w"
    refine⟨b,ys,(us.length:Int)+1,rfl,hy,by omega,by omega,fun r zs hz r0 r1=>⟨zs,rfl,?_⟩⟩
    have:=go r.toNat zs (by omega) hz
    rw[Int.toNat_of_nonneg r0]at this
    exact this
  ·
   rintro ρ ⟨ys,x4,x11,x12,x13,_,_,_,rfl⟩
   unfold uI
   walk_at "w"
   exact⟨_,aj aG,h⟩
abbrev eB:Stmt:=Hd.inCls (Hd.top 3) 0
abbrev gW:FuncData:=fdQ "__init__" "LoadError.__init__" eB (.str "ringloads.errors" 198) 34
abbrev dY:Stmt:=Hd.inCls (Hd.top 4) 0
abbrev fK:FuncData:=fdQ "__init__" "NoSlide.__init__" dY (.str "ringloads.errors" 198) 54
structure Tx (K:PySem.W.Frag) (mg:Str→Option Value) (ad:Nat→Addr) (fd:Nat→FuncData):Prop where
 x_greatest_shared:FX K mg "greatest_shared" cB (ad 0) (fd 0) ["one","other"]
 x_is_whole:FX K mg "is_whole" kB (ad 1) (fd 1) ["thing"]
 x_is_number_below:FX K mg "is_number_below" cD (ad 2) (fd 2) ["thing","many"]
 x_are_two_wholes:FX K mg "are_two_wholes" c8 (ad 3) (fd 3) ["thing"]
 x_is_ratio:FX K mg "is_ratio" kD (ad 4) (fd 4) ["thing"]
 x_lowest:FX K mg "lowest" oS (ad 5) (fd 5) ["top","bottom"]
 x_plus:FX K mg "plus" ya (ad 6) (fd 6) ["one","other"]
 x_minus:FX K mg "minus" sI (ad 7) (fd 7) ["one","other"]
 x_under:FX K mg "under" sJ (ad 8) (fd 8) ["one","other"]
 x_lesser:FX K mg "lesser" oT (ad 9) (fd 9) ["one","other"]
 x_lesser_place:FX K mg "lesser_place" d7 (ad 10) (fd 10) ["ring","k"]
 x_greater_place:FX K mg "greater_place" dE (ad 11) (fd 11) ["ring","k"]
 x_do_cross:FX K mg "do_cross" kE (ad 12) (fd 12) ["ring","k","l"]
 x_parted_in:FX K mg "parted_in" eY (ad 13) (fd 13) ["ring","sending"]
 x_first_side_by_side:FX K mg "first_side_by_side" bX (ad 14) (fd 14) ["ring","some"]
 x_is_way:FX K mg "is_way" oU (ad 15) (fd 15) ["thing"]
 x_ties_of:FX K mg "ties_of" gu (ad 16) (fd 16) ["ring","k","way"]
 x_part_behind:FX K mg "part_behind" eZ (ad 17) (fd 17) ["part","way","amount"]
 x_slid_once:FX K mg "slid_once" i5 (ad 18) (fd 18) ["sending","slide"]
 x_share_no_tie:FX K mg "share_no_tie" cL (ad 19) (fd 19) ["ring","k","way","l","other"]
 x_has_form_of_slide:FX K mg "has_form_of_slide" cf (ad 20) (fd 20) ["thing","asks"]
 x_not_sent:FX K mg "not_sent" kF (ad 21) (fd 21) ["ring","sending","k","way"]
 x_most_slid:FX K mg "most_slid" i7 (ad 22) (fd 22) ["ring","sending","slide"]
 x_is_slide:FX K mg "is_slide" kG (ad 23) (fd 23) ["ring","sending","thing"]
 x_slid_by:FX K mg "slid_by" mr (ad 24) (fd 24) ["ring","sending","thing"]
 x_ways_apart:FX K mg "ways_apart" gv (ad 25) (fd 25) ["ring","k","l"]
 x_greatest_slide:FX K mg "greatest_slide" c9 (ad 26) (fd 26) ["ring","sending","k","l"]
 x_slides_for:FX K mg "slides_for" gw (ad 27) (fd 27) ["ring","sending"]
 x__law_begun:FX K mg "_law_begun" gy (ad 28) (fd 28) ["_law_script","_law_k"]
 x__law_take:FX K mg "_law_take" i8 (ad 29) (fd 29) ["_law_state","_law_many"]
 x__law_names:FX K mg "_law_names" cV (ad 30) (fd 30) ["_law_state","_law_many"]
 x__law_low:FX K mg "_law_low" kH (ad 31) (fd 31) ["_law_top","_law_bottom"]
 x__law_amount:FX K mg "_law_amount" fb (ad 32) (fd 32) ["_law_state","_law_least","_law_kind"]
 x__law_rooms:FX K mg "_law_rooms" gA (ad 33) (fd 33) ["_law_state","_law_ties","_law_kind"]
 x__law_ends:FX K mg "_law_ends" i9 (ad 34) (fd 34) ["_law_state","_law_shape","_law_places","_law_k"]
 x__law_ring:FX K mg "_law_ring" ja (ad 35) (fd 35) ["_law_script","_law_at","_law_most","_law_count"]
 x__law_parts:FX K mg "_law_parts" gB (ad 36) (fd 36) ["_law_state","_law_ring_here"]
 x__law_minus:FX K mg "_law_minus" gC (ad 37) (fd 37) ["_law_one","_law_other"]
 x__law_gone:FX K mg "_law_gone" jb (ad 38) (fd 38) ["_law_ring_here","_law_sending","_law_k","_law_way"]
 x__law_under:FX K mg "_law_under" gD (ad 39) (fd 39) ["_law_one","_law_other"]
 x__law_drawn:FX K mg "_law_drawn" gE (ad 40) (fd 40) ["_law_state","_law_ring_here","_law_sending"]
 x__law_let_by:FX K mg "_law_let_by" ff (ad 41) (fd 41) ["_law_ring_here","_law_sending","_law_thing"]
 x__law_halves:FX K mg "_law_halves" fg (ad 42) (fd 42) ["_law_slides"]
 x__law_turned:FX K mg "_law_turned" fh (ad 43) (fd 43) ["_law_slides","_law_at"]
 x_law:FX K mg "law" Ap (ad 44) (fd 44) ["_law_script"]
 li:w5 K mg 38 35 gW eB
 i_NoSlide:Fun K "__init__" "NoSlide.__init__" dY 55 fK
 c_NoSlide:XT K mg "NoSlide" 58 55 fK ["self","number"] ["number"]
 h_NoSlide:XH K mg "NoSlide" 58
 z_ValueError:mg "ValueError"=none
 z_abs:mg "abs"=none
 z_any:mg "any"=none
 z_bool:mg "bool"=none
 z_enumerate:mg "enumerate"=none
 z_int:mg "int"=none
 z_isinstance:mg "isinstance"=none
 z_len:mg "len"=none
 z_list:mg "list"=none
 z_max:mg "max"=none
 z_min:mg "min"=none
 z_range:mg "range"=none
 z_set:mg "set"=none
 z_str:mg "str"=none
 z_tuple:mg "tuple"=none
 g_BACK:u9 K mg "BACK" (.str "back")
 g_NOUGHT:u9 K mg "NOUGHT" (.tup [(.int 0),(.int 1)])
 g_ON:u9 K mg "ON" (.str "on")
section
variable{P:Program}{w:World}{K:PySem.W.Frag}{mg:Str→Option Value}{base:Heap}{ad:Nat→Addr}{fd:Nat→FuncData}
theorem mN:aC ["self","text"] ["self","text"] (ak eB):=⟨rfl,rfl,rfl,by decide +kernel,rfl,by decide +kernel,by decide +kernel⟩
theorem pk:aC ["self","number"] ["self","number"] (ak dY):=⟨rfl,rfl,rfl,by decide +kernel,rfl,by decide +kernel,by decide +kernel⟩
theorem qW(T:Tx K mg ad fd):FnOk P w K mg base CX0 1 35 gW ["self","text"] (spLI K):=T.li.f.ok (k:=0) mN zw (fun cdv A outer s H vs Q E hr q=>⟨_,vJ (vK (zo rfl T.z_ValueError (cb (pv 0) (cb (pv 1) ik)))),BZ q⟩)
theorem nU(T:Tx K mg ad fd):FnOk P w K mg base CX0 2 55 fK ["self","number"] (spXI K ["number"]):=T.i_NoSlide.ok (k:=1) pk zx (fun cdv A outer s H vs Q E hr q=>⟨_,yH (vK (zp T.li (qW T) hr rfl (cb (pv 0) (cb vI ik)))) (vJ (BY (pv 0) (pv 1))),B0 q⟩)
theorem bN:aC kA ["one","other"] (ak cB):=⟨rfl,rfl,rfl,by decide +kernel,rfl,by decide +kernel,by decide +kernel⟩
theorem dZ(T:Tx K mg ad fd):FnOk P w K mg base CX0 1 (ad 0) (fd 0) ["one","other"] (spF K 2 bL) :=
 bj (k:=0) T.x_greatest_shared.f bN cF (fun cdv A outer s H E hr=>(ai (lD PassesOwn.never (pbc (rG hr.units) (af 1) ah (aZ _)) (ai (ax (i:=2) bN.nd rfl (by walk_at "o") (aq cm (af 0) (af 1)))
  (ai (ax (i:=0) bN.nd rfl (by walk_at "o") (af 1))
  (ao (ax (i:=1) bN.nd rfl (by walk_at "o") (af 2))))))
  (ao (aD (aP wy rfl T.z_abs (by decide +kernel) (ae (af 0) ag))))))
  jd
theorem sX:aC vp ["thing"] (ak kB):=⟨rfl,rfl,rfl,by decide +kernel,rfl,by decide +kernel,by decide +kernel⟩
theorem jr(T:Tx K mg ad fd):FnOk P w K mg base CX0 1 (ad 1) (fd 1) ["thing"] (spF K 1 dF) :=
 bj (k:=0) T.x_is_whole.f sX hJ (fun cdv A outer s H E hr=>(ao (aD (gf (nE BD rfl T.z_isinstance rfl T.z_int (by decide +kernel) (af 0)) (kY (wj (nE zb rfl T.z_isinstance rfl T.z_bool (by decide +kernel) (af 0))))))))
  qL
theorem kb:aC kC ["thing","many"] (ak cD):=⟨rfl,rfl,rfl,by decide +kernel,rfl,by decide +kernel,by decide +kernel⟩
theorem d5(T:Tx K mg ad fd):FnOk P w K mg base CX0 2 (ad 2) (fd 2) ["thing","many"] (spF K 2 bM) :=
 bj (k:=1) T.x_is_number_below.f kb cG (fun cdv A outer s H E hr=>(ao (aD (gf (aH (jr T) T.x_is_whole hr (ae (af 0) ag)) (kY (zh EJ EH ah (af 0) (af 1)))))))
  je
theorem kP:aC ly ["thing"] (ak c8):=⟨rfl,rfl,rfl,by decide +kernel,rfl,by decide +kernel,by decide +kernel⟩
theorem kQ(T:Tx K mg ad fd):FnOk P w K mg base CX0 2 (ad 3) (fd 3) ["thing"] (spF K 1 cH) :=
 bj (k:=1) T.x_are_two_wholes.f kP b8 (fun cdv A outer s H E hr=>(ao (aD (gf (nE qc rfl T.z_isinstance rfl T.z_tuple (by decide +kernel) (af 0)) (gf (gb (lu hr.units) (aP fP rfl T.z_len (by decide +kernel) (ae (af 0) ag)) ah (aZ _)) (gf (aH (jr T) T.x_is_whole hr (ae (av (af 0) ah (fun _ _=>rfl)) ag)) (kY (aH (jr T) T.x_is_whole hr (ae (av (af 0) ah (fun _ _=>rfl)) ag)))))))))
  jO
theorem sY:aC vq ["thing"] (ak kD):=⟨rfl,rfl,rfl,by decide +kernel,rfl,by decide +kernel,by decide +kernel⟩
theorem td(T:Tx K mg ad fd):FnOk P w K mg base CX0 3 (ad 4) (fd 4) ["thing"] (spF K 1 jf) :=
 bj (k:=2) T.x_is_ratio.f sY hW (fun cdv A outer s H E hr=>(ao (aD (gf (aH (kQ T) T.x_are_two_wholes hr (ae (af 0) ag)) (gf (gb Dr (av (af 0) ah (fun _ _=>rfl)) ah (aZ _)) (kY (gb (lu hr.units) (aH (dZ T) T.x_greatest_shared hr (ae (av (af 0) ah (fun _ _=>rfl)) (ae (av (af 0) ah (fun _ _=>rfl)) ag))) ah (aZ _))))))))
  qM
theorem mO:aC Am ["top","bottom"] (ak oS):=⟨rfl,rfl,rfl,by decide +kernel,rfl,by decide +kernel,by decide +kernel⟩
theorem qX(T:Tx K mg ad fd):FnOk P w K mg base CX0 2 (ad 5) (fd 5) ["top","bottom"] (spF K 2 jP) :=
 bj (k:=1) T.x_lowest.f mO o3 (fun cdv A outer s H E hr=>(ai (ax (i:=2) mO.nd rfl (by walk_at "o") (au (aH (dZ T) T.x_greatest_shared hr (ae (af 0) (ae (af 1) ag)))))
  (ai (de (pbc jz (af 1) ah (aZ _)) (ao (ax (i:=2) mO.nd rfl (by walk_at "o") (Dn (af 2)))) a8)
  (ao (aD (bP (ae (aq lR (af 0) (af 2)) (ae (aq lR (af 1) (af 2)) ag))))))))
  vA
theorem CO:aC Eg ["one","other"] (ak ya):=⟨rfl,rfl,rfl,by decide +kernel,rfl,by decide +kernel,by decide +kernel⟩
theorem CP(T:Tx K mg ad fd):FnOk P w K mg base CX0 3 (ad 6) (fd 6) ["one","other"] (spF K 2 o4) :=
 bj (k:=2) T.x_plus.f CO yc (fun cdv A outer s H E hr=>(ao (aD (aH (qX T) T.x_lowest hr (ae (au (aq a6 (aq aW (av (af 0) ah (fun _ _=>rfl)) (av (af 1) ah (fun _ _=>rfl))) (aq aW (av (af 1) ah (fun _ _=>rfl)) (av (af 0) ah (fun _ _=>rfl))))) (ae (au (aq aW (av (af 0) ah (fun _ _=>rfl)) (av (af 1) ah (fun _ _=>rfl)))) ag))))))
  Aq
theorem AA:aC CD ["one","other"] (ak sI):=⟨rfl,rfl,rfl,by decide +kernel,rfl,by decide +kernel,by decide +kernel⟩
theorem uK(T:Tx K mg ad fd):FnOk P w K mg base CX0 3 (ad 7) (fd 7) ["one","other"] (spF K 2 jQ) :=
 bj (k:=2) T.x_minus.f AA sR (fun cdv A outer s H E hr=>(ao (aD (aH (qX T) T.x_lowest hr (ae (aq dQ (aq aW (av (af 0) ah (fun _ _=>rfl)) (av (af 1) ah (fun _ _=>rfl))) (aq aW (av (af 1) ah (fun _ _=>rfl)) (av (af 0) ah (fun _ _=>rfl)))) (ae (au (aq aW (av (af 0) ah (fun _ _=>rfl)) (av (af 1) ah (fun _ _=>rfl)))) ag))))))
  yd
theorem AB:aC CF ["one","other"] (ak sJ):=⟨rfl,rfl,rfl,by decide +kernel,rfl,by decide +kernel,by decide +kernel⟩
theorem kc(T:Tx K mg ad fd):FnOk P w K mg base CX0 1 (ad 8) (fd 8) ["one","other"] (spF K 2 fj) :=
 bj (k:=0) T.x_under.f AB sS (fun cdv A outer s H E hr=>(ao (aD (gb jz (aq aW (av (af 0) ah (fun _ _=>rfl)) (av (af 1) ah (fun _ _=>rfl))) (aq aW (av (af 1) ah (fun _ _=>rfl)) (av (af 0) ah (fun _ _=>rfl))) (aZ _)))))
  ye
theorem yD:aC An ["one","other"] (ak oT):=⟨rfl,rfl,rfl,by decide +kernel,rfl,by decide +kernel,by decide +kernel⟩
theorem yE(T:Tx K mg ad fd):FnOk P w K mg base CX0 2 (ad 9) (fd 9) ["one","other"] (spF K 2 mv) :=
 bj (k:=1) T.x_lesser.f yD o5 (fun cdv A outer s H E hr=>(ao (aD (wk (eG (aH (kc T) T.x_under hr (ae (af 1) (ae (af 0) ag)))) (af 1) (af 0)))))
  vB
theorem mP:aC mX ["ring","k"] (ak d7):=⟨rfl,rfl,rfl,by decide +kernel,rfl,by decide +kernel,by decide +kernel⟩
theorem gX(T:Tx K mg ad fd):FnOk P w K mg base CX0 1 (ad 10) (fd 10) ["ring","k"] (spF K 2 cq) :=
 bj (k:=0) T.x_lesser_place.f mP d8 (fun cdv A outer s H E hr=>(ao (aD (aP (wB rfl) rfl T.z_min (by decide +kernel) (ae (av (av (av (af 0) ah (fun _ _=>rfl)) (af 1) (fun _ _=>rfl)) ah (fun _ _=>rfl)) (ae (av (av (av (af 0) ah (fun _ _=>rfl)) (af 1) (fun _ _=>rfl)) ah (fun _ _=>rfl)) ag))))))
  lA
theorem lC:aC ml ["ring","k"] (ak dE):=⟨rfl,rfl,rfl,by decide +kernel,rfl,by decide +kernel,by decide +kernel⟩
theorem fS(T:Tx K mg ad fd):FnOk P w K mg base CX0 1 (ad 11) (fd 11) ["ring","k"] (spF K 2 b9) :=
 bj (k:=0) T.x_greater_place.f lC dG (fun cdv A outer s H E hr=>(ao (aD (aP (wz rfl) rfl T.z_max (by decide +kernel) (ae (av (av (av (af 0) ah (fun _ _=>rfl)) (af 1) (fun _ _=>rfl)) ah (fun _ _=>rfl)) (ae (av (av (av (af 0) ah (fun _ _=>rfl)) (af 1) (fun _ _=>rfl)) ah (fun _ _=>rfl)) ag))))))
  kI
theorem dH:aC vt ["ring","k","l"] (ak kE):=⟨rfl,rfl,rfl,by decide +kernel,rfl,by decide +kernel,by decide +kernel⟩
theorem tj(T:Tx K mg ad fd):FnOk P w K mg base CX0 2 (ad 12) (fd 12) ["ring","k","l"] (spF K 3 jg) :=
 bj (k:=1) T.x_do_cross.f dH kJ (fun cdv A outer s H E hr=>(ai (ax (i:=3) dH.nd rfl (by walk_at "o") (au (aH (gX T) T.x_lesser_place hr (ae (af 0) (ae (af 1) ag)))))
  (ai (ax (i:=4) dH.nd rfl (by walk_at "o") (au (aH (fS T) T.x_greater_place hr (ae (af 0) (ae (af 1) ag)))))
  (ai (ax (i:=5) dH.nd rfl (by walk_at "o") (au (aH (gX T) T.x_lesser_place hr (ae (af 0) (ae (af 2) ag)))))
  (ai (ax (i:=6) dH.nd rfl (by walk_at "o") (au (aH (fS T) T.x_greater_place hr (ae (af 0) (ae (af 2) ag)))))
  (ao (aD (EE (qg (af 3) (l7.cons jz (af 5) (l7.cons jz (af 4) (l7.one jz (af 6))))) (kY (qg (af 5) (l7.cons jz (af 3) (l7.cons jz (af 6) (l7.one jz (af 4))))))))))))))
  qP
theorem qY:aC mn ["ring","sending"] (ak eY):=⟨rfl,rfl,rfl,by decide +kernel,rfl,by decide +kernel,by decide +kernel⟩
theorem k8(T:Tx K mg ad fd):FnOk P w K mg base CX0 2 (ad 13) (fd 13) ["ring","sending"] (spF K 2 cW) :=
 bj (k:=1) T.x_parted_in.f qY jh (fun cdv A outer s H E hr=>(ao (aD (ko (sc:=(ak eY)) (N:=mn) (Nt:=["k","part"]) (Nf:=["ring"]) (fi:=[0]) rfl rfl rfl (oE rfl T.z_enumerate (af 1)) rfl (by decide +kernel) (by decide +kernel) (by decide +kernel) (by decide) rfl (by decide +kernel) (by decide) (fun _ _ _ _=>(DA rfl (t4 (i:=0) (by decide) (show((["k","part"]:List Str)++(["ring"]:List Str)).Nodup by decide +kernel) rfl (Or.inl rfl) (t4 (i:=1) (by decide) (show((["k","part"]:List Str)++(["ring"]:List Str)).Nodup by decide +kernel) rfl (Or.inl rfl) BL)))) (fun _ _ _ _=>(By (PBw.pb (we (eG (aH (kc T) T.x_under hr (ae (pl_G T.g_NOUGHT rfl) (ae (af 1) ag)))) (tN (eG (aH (kc T) T.x_under hr (ae (af 1) (ae (av (av (av (af 2) ah (fun _ _=>rfl)) (af 0) (fun _ _=>rfl)) ah (fun _ _=>rfl)) ag))))))))) (fun _ _ _ _=>(af 0))))))
  o6
theorem br:aC ic ["ring","some"] (ak bX):=⟨rfl,rfl,rfl,by decide +kernel,rfl,by decide +kernel,by decide +kernel⟩
theorem cX(T:Tx K mg ad fd):FnOk P w K mg base CX0 3 (ad 14) (fd 14) ["ring","some"] (spF K 2 aX) :=
 bj (k:=2) T.x_first_side_by_side.f br bY (fun cdv A outer s H E hr=>(ai (iq PassesOwn.never rfl (oE rfl T.z_enumerate (af 1)) (pZ rfl (bC (i:=2) br.nd rfl (by walk_at "o") (bC (i:=3) br.nd rfl (by walk_at "o") lP))) (ao (iq PassesOwn.never rfl (lQ (dD (af 1) (aq a6 (af 2) ah) trivial)) (kj (i:=4) br.nd rfl (by walk_at "o")) (ao (de (kX (eG (aH (tj T) T.x_do_cross hr (ae (af 0) (ae (af 3) (ae (af 4) ag)))))) (ao (aD (bP (ae (af 3) (ae (af 4) ag))))) a8)))))
  (ao (aD nB))))
  fU
theorem yF:aC Ao ["thing"] (ak oU):=⟨rfl,rfl,rfl,by decide +kernel,rfl,by decide +kernel,by decide +kernel⟩
theorem q5(T:Tx K mg ad fd):FnOk P w K mg base CX0 1 (ad 15) (fd 15) ["thing"] (spF K 1 jS) :=
 bj (k:=0) T.x_is_way.f yF o7 (fun cdv A outer s H E hr=>(ao (aD (gf (nE BE rfl T.z_isinstance rfl T.z_str (by decide +kernel) (af 0)) (kY (gb Dv (af 0) (bP (ae (pl_G T.g_ON rfl) (ae (pl_G T.g_BACK rfl) ag))) rfl))))))
  vC
theorem hZ:aC mq ["ring","k","way"] (ak gu):=⟨rfl,rfl,rfl,by decide +kernel,rfl,by decide +kernel,by decide +kernel⟩
theorem nV(T:Tx K mg ad fd):FnOk P w K mg base CX0 1 (ad 16) (fd 16) ["ring","k","way"] (spF K 3 hX) :=
 bj (k:=0) T.x_ties_of.f hZ mD (fun cdv A outer s H E hr=>(ai (ax (i:=3) hZ.nd rfl (by walk_at "o") (au (aP fP rfl T.z_len (by decide +kernel) (ae (av (af 0) ah (fun _ _=>rfl)) ag))))
  (ai (ax (i:=4) hZ.nd rfl (by walk_at "o") (av (av (av (af 0) ah (fun _ _=>rfl)) (af 1) (fun _ _=>rfl)) ah (fun _ _=>rfl)))
  (ai (ax (i:=5) hZ.nd rfl (by walk_at "o") (av (av (av (af 0) ah (fun _ _=>rfl)) (af 1) (fun _ _=>rfl)) ah (fun _ _=>rfl)))
  (ai (de (pbc (lu hr.units) (af 2) (pl_G T.g_ON rfl) (aZ _)) (ao (aD (ko (sc:=(ak gu)) (N:=mq) (Nt:=["step"]) (Nf:=["one","places"]) (fi:=[4,3]) rfl rfl rfl (eU rfl T.z_range (aq cm (aq dQ (af 5) (af 4)) (af 3))) rfl (by decide +kernel) (by decide +kernel) (by decide +kernel) (by decide) rfl (by decide +kernel) (by decide) (fun _ _ _ _=>(lT (by decide) (show((["step"]:List Str)++(["one","places"]:List Str)).Nodup by decide +kernel) rfl (Or.inl rfl))) (fun _ _ _ _=>lU) (fun _ _ _ _=>(aq cm (aq a6 (af 1) (af 0)) (af 2)))))) a8)
  (ao (aD (ko (sc:=(ak gu)) (N:=mq) (Nt:=["step"]) (Nf:=["one","places"]) (fi:=[4,3]) rfl rfl rfl (eU rfl T.z_range (aq cm (aq dQ (af 4) (af 5)) (af 3))) rfl (by decide +kernel) (by decide +kernel) (by decide +kernel) (by decide) rfl (by decide +kernel) (by decide) (fun _ _ _ _=>(lT (by decide) (show((["step"]:List Str)++(["one","places"]:List Str)).Nodup by decide +kernel) rfl (Or.inl rfl))) (fun _ _ _ _=>lU) (fun _ _ _ _=>(aq cm (aq dQ (aq dQ (af 1) ah) (af 0)) (af 2)))))))))))
  sT
theorem ng:aC oV ["part","way","amount"] (ak eZ):=⟨rfl,rfl,rfl,by decide +kernel,rfl,by decide +kernel,by decide +kernel⟩
theorem iT(T:Tx K mg ad fd):FnOk P w K mg base CX0 4 (ad 17) (fd 17) ["part","way","amount"] (spF K 3 cM) :=
 bj (k:=3) T.x_part_behind.f ng fk (fun cdv A outer s H E hr=>(ao (aD (wk (pbc (lu hr.units) (af 1) (pl_G T.g_ON rfl) (aZ _)) (aH (CP T) T.x_plus hr (ae (af 0) (ae (af 2) ag))) (aH (uK T) T.x_minus hr (ae (af 0) (ae (af 2) ag)))))))
  mE
theorem k9:aC sL ["sending","slide"] (ak i5):=⟨rfl,rfl,rfl,by decide +kernel,rfl,by decide +kernel,by decide +kernel⟩
theorem lg(T:Tx K mg ad fd):FnOk P w K mg base CX0 5 (ad 18) (fd 18) ["sending","slide"] (spF K 2 dU) :=
 bj (k:=4) T.x_slid_once.f k9 ji (fun cdv A outer s H E hr=>(ai (ax (i:=2) k9.nd rfl (by walk_at "o") (eH rK rfl T.z_list (by decide +kernel) (ae (af 0) ag)))
  (ai (lS 2 (av (af 1) ah (fun _ _=>rfl)) (aH (iT T) T.x_part_behind hr (ae (fQ (jB 2 (av (af 1) ah (fun _ _=>rfl)) (fun _ _=>rfl)) (av (af 2) (av (af 1) ah (fun _ _=>rfl)) (fun _ _=>rfl))) (ae (av (af 1) ah (fun _ _=>rfl)) (ae (av (af 1) ah (fun _ _=>rfl)) ag)))))
  (ai (lS 2 (av (af 1) ah (fun _ _=>rfl)) (aH (iT T) T.x_part_behind hr (ae (fQ (jB 2 (av (af 1) ah (fun _ _=>rfl)) (fun _ _=>rfl)) (av (af 2) (av (af 1) ah (fun _ _=>rfl)) (fun _ _=>rfl))) (ae (av (af 1) ah (fun _ _=>rfl)) (ae (av (af 1) ah (fun _ _=>rfl)) ag)))))
  (ao (aD (du 2)))))))
  o8
theorem gY:aC iw ["ring","k","way","l","other"] (ak cL):=⟨rfl,rfl,rfl,by decide +kernel,rfl,by decide +kernel,by decide +kernel⟩
theorem gZ(T:Tx K mg ad fd):FnOk P w K mg base CX0 2 (ad 19) (fd 19) ["ring","k","way","l","other"] (spF K 5 cu) :=
 bj (k:=1) T.x_share_no_tie.f gY d9 (fun cdv A outer s H E hr=>(ai (ax (i:=5) gY.nd rfl (by walk_at "o") (au (aH (nV T) T.x_ties_of hr (ae (af 0) (ae (af 3) (ae (af 4) ag))))))
  (ao (aD (wj (aP (DE rfl) rfl T.z_any (by decide +kernel) (ae (au (ko (sc:=(ak cL)) (N:=iw) (Nt:=["tie"]) (Nf:=["taken"]) (fi:=[5]) rfl rfl rfl (lQ (aH (nV T) T.x_ties_of hr (ae (af 0) (ae (af 1) (ae (af 2) ag))))) rfl (by decide +kernel) (by decide +kernel) (by decide +kernel) (by decide) rfl (by decide +kernel) (by decide) (fun _ _ _ _=>(lT (by decide) (show((["tie"]:List Str)++(["taken"]:List Str)).Nodup by decide +kernel) rfl (Or.inl rfl))) (fun _ _ _ _=>lU) (fun _ _ _ _=>(gb Dv (af 0) (af 1) rfl)))) ag)))))))
  lB
theorem ie:aC i6 ["thing","asks"] (ak cf):=⟨rfl,rfl,rfl,by decide +kernel,rfl,by decide +kernel,by decide +kernel⟩
theorem ig(T:Tx K mg ad fd):FnOk P w K mg base CX0 4 (ad 20) (fd 20) ["thing","asks"] (spF K 2 bZ) :=
 bj (k:=3) T.x_has_form_of_slide.f ie cg (fun cdv A outer s H E hr=>(ai (de (PBw.pb (tO (kX (eG (nE qc rfl T.z_isinstance rfl T.z_tuple (by decide +kernel) (af 0)))) (oa (pbc (rG hr.units) (aP fP rfl T.z_len (by decide +kernel) (ae (af 0) ag)) ah (aZ _))))) (ao (aD pW)) a8)
  (ai (de (PBw.pb (tO (kX (eG (aH (d5 T) T.x_is_number_below hr (ae (av (af 0) ah (fun _ _=>rfl)) (ae (af 1) ag))))) (oa (kX (eG (aH (d5 T) T.x_is_number_below hr (ae (av (af 0) ah (fun _ _=>rfl)) (ae (af 1) ag)))))))) (ao (aD pW)) a8)
  (ao (aD (gf (aH (q5 T) T.x_is_way hr (ae (av (af 0) ah (fun _ _=>rfl)) ag)) (gf (aH (q5 T) T.x_is_way hr (ae (av (af 0) ah (fun _ _=>rfl)) ag)) (kY (aH (td T) T.x_is_ratio hr (ae (av (af 0) ah (fun _ _=>rfl)) ag))))))))))
  gF
theorem tq:aC vw ["ring","sending","k","way"] (ak kF):=⟨rfl,rfl,rfl,by decide +kernel,rfl,by decide +kernel,by decide +kernel⟩
theorem mQ(T:Tx K mg ad fd):FnOk P w K mg base CX0 4 (ad 21) (fd 21) ["ring","sending","k","way"] (spF K 4 fm) :=
 bj (k:=3) T.x_not_sent.f tq kK (fun cdv A outer s H E hr=>(ao (aD (wk (pbc (lu hr.units) (af 3) (pl_G T.g_ON rfl) (aZ _)) (aH (uK T) T.x_minus hr (ae (av (av (av (af 0) ah (fun _ _=>rfl)) (af 2) (fun _ _=>rfl)) ah (fun _ _=>rfl)) (ae (av (af 1) (af 2) (fun _ _=>rfl)) ag))) (av (af 1) (af 2) (fun _ _=>rfl))))))
  qR
theorem q8:aC sM ["ring","sending","slide"] (ak i7):=⟨rfl,rfl,rfl,by decide +kernel,rfl,by decide +kernel,by decide +kernel⟩
theorem lh(T:Tx K mg ad fd):FnOk P w K mg base CX0 5 (ad 22) (fd 22) ["ring","sending","slide"] (spF K 3 dW) :=
 bj (k:=4) T.x_most_slid.f q8 jj (fun cdv A outer s H E hr=>(ao (aD (aH (yE T) T.x_lesser hr (ae (au (aH (mQ T) T.x_not_sent hr (ae (af 0) (ae (af 1) (ae (av (af 2) ah (fun _ _=>rfl)) (ae (av (af 2) ah (fun _ _=>rfl)) ag)))))) (ae (au (aH (mQ T) T.x_not_sent hr (ae (af 0) (ae (af 1) (ae (av (af 2) ah (fun _ _=>rfl)) (ae (av (af 2) ah (fun _ _=>rfl)) ag)))))) ag))))))
  o9
theorem tD:aC vx ["ring","sending","thing"] (ak kG):=⟨rfl,rfl,rfl,by decide +kernel,rfl,by decide +kernel,by decide +kernel⟩
theorem tE(T:Tx K mg ad fd):FnOk P w K mg base CX0 6 (ad 23) (fd 23) ["ring","sending","thing"] (spF K 3 jk) :=
 bj (k:=5) T.x_is_slide.f tD kM (fun cdv A outer s H E hr=>by exact(@ai _ _ _ _ _ (@de _ _ _ _ _ _ _ _ (PBw.pb (tO (kX (eG (aH (ig T) T.x_has_form_of_slide hr (@ae _ _ _ _ _ _ (af 2) (@ae _ _ _ _ _ _ (@au _ _ _ (aP fP rfl T.z_len (by decide +kernel) (@ae _ _ _ _ _ _ (@av _ _ _ _ _ _ (af 0) ah (fun _ _=>rfl)) ag (by kernel_rfl)))) ag (by kernel_rfl)) (by kernel_rfl))))) (oa (pbc (lu hr.units) (@av _ _ _ _ _ _ (af 2) ah (fun _ _=>rfl)) (@av _ _ _ _ _ _ (af 2) ah (fun _ _=>rfl)) (aZ _))))) (@ao _ _ _ (@aD _ _ _ _ pW)) a8) (@ai _ _ _ _ _ (@de _ _ _ _ _ _ _ _ (kX (eG (aH (gZ T) T.x_share_no_tie hr (@ae _ _ _ _ _ _ (af 0) (@ae _ _ _ _ _ _ (@av _ _ _ _ _ _ (af 2) ah (fun _ _=>rfl)) (@ae _ _ _ _ _ _ (@av _ _ _ _ _ _ (af 2) ah (fun _ _=>rfl)) (@ae _ _ _ _ _ _ (@av _ _ _ _ _ _ (af 2) ah (fun _ _=>rfl)) (@ae _ _ _ _ _ _ (@av _ _ _ _ _ _ (af 2) ah (fun _ _=>rfl)) ag (by kernel_rfl)) (by kernel_rfl)) (by kernel_rfl)) (by kernel_rfl)) (by kernel_rfl))))) (@ao _ _ _ (@aD _ _ _ _ pW)) a8) (@ao _ _ _ (@aD _ _ _ _ (gf (aH (kc T) T.x_under hr (@ae _ _ _ _ _ _ (pl_G T.g_NOUGHT rfl) (@ae _ _ _ _ _ _ (@av _ _ _ _ _ _ (af 2) ah (fun _ _=>rfl)) ag (by kernel_rfl)) (by kernel_rfl))) (kY (wj (aH (kc T) T.x_under hr (@ae _ _ _ _ _ _ (@au _ _ _ (aH (lh T) T.x_most_slid hr (@ae _ _ _ _ _ _ (af 0) (@ae _ _ _ _ _ _ (af 1) (@ae _ _ _ _ _ _ (af 2) ag (by kernel_rfl)) (by kernel_rfl)) (by kernel_rfl)))) (@ae _ _ _ _ _ _ (@av _ _ _ _ _ _ (af 2) ah (fun _ _=>rfl)) ag (by kernel_rfl)) (by kernel_rfl)))))))))))
  qS
theorem eP:aC yb ["ring","sending","thing"] (ak mr):=⟨rfl,rfl,rfl,by decide +kernel,rfl,by decide +kernel,by decide +kernel⟩
theorem cJ(T:Tx K mg ad fd):FnOk P w K mg base (CXr P w) 7 (ad 24) (fd 24) ["ring","sending","thing"] (spX K 3 bg) :=
 DM (k:=6) T.x_slid_by.f eP (fun xp=>mG xp) (fun cdv A outer s H E xp hr hE=>(ai (de (kX (eG (nE zd rfl T.z_isinstance rfl T.z_list (by decide +kernel) (af 2)))) (ao (ql T.c_NoSlide (nU T) hr (w7 hE) (ae nB ag))) a8)
  (ai (ax (i:=3) eP.nd rfl (by walk_at "o") (eH rK rfl T.z_list (by decide +kernel) (ae (af 1) ag)))
  (ai (iq PassesOwn.leaving rfl (oE rfl T.z_enumerate (af 2)) (pZ rfl (bC (i:=4) eP.nd rfl (by walk_at "o") (bC (i:=5) eP.nd rfl (by walk_at "o") lP))) (ai (de (kX (eG (aH (tE T) T.x_is_slide hr (ae (af 0) (ae (af 3) (ae (af 5) ag)))))) (ao (ql T.c_NoSlide (nU T) hr (w7 hE) (ae (af 4) ag))) a8)
  (ao (ax (i:=3) eP.nd rfl (by walk_at "o") (aH (lg T) T.x_slid_once hr (ae (af 3) (ae (af 5) ag)))))))
  (ao (aD (du 3)))))))
  sU
theorem kd:aC qD ["ring","k","l"] (ak gv):=⟨rfl,rfl,rfl,by decide +kernel,rfl,by decide +kernel,by decide +kernel⟩
theorem pq(T:Tx K mg ad fd):FnOk P w K mg base CX0 3 (ad 25) (fd 25) ["ring","k","l"] (spF K 3 fo) :=
 bj (k:=2) T.x_ways_apart.f kd gG (fun cdv A outer s H E hr=>by exact(@ai _ _ _ _ _ (iq PassesOwn.never rfl (lQ (@bP _ _ _ _ _ _ (@ae _ _ _ _ _ _ (@bP _ _ _ _ _ _ (@ae _ _ _ _ _ _ (pl_G T.g_ON rfl) (@ae _ _ _ _ _ _ (pl_G T.g_ON rfl) ag (by kernel_rfl)) (by kernel_rfl))) (@ae _ _ _ _ _ _ (@bP _ _ _ _ _ _ (@ae _ _ _ _ _ _ (pl_G T.g_ON rfl) (@ae _ _ _ _ _ _ (pl_G T.g_BACK rfl) ag (by kernel_rfl)) (by kernel_rfl))) (@ae _ _ _ _ _ _ (@bP _ _ _ _ _ _ (@ae _ _ _ _ _ _ (pl_G T.g_BACK rfl) (@ae _ _ _ _ _ _ (pl_G T.g_ON rfl) ag (by kernel_rfl)) (by kernel_rfl))) ag (by kernel_rfl)) (by kernel_rfl)) (by kernel_rfl)))) (kj (i:=3) kd.nd rfl (by walk_at "o")) (@ao _ _ _ (@de _ _ _ _ _ _ _ _ (eG (aH (gZ T) T.x_share_no_tie hr (@ae _ _ _ _ _ _ (af 0) (@ae _ _ _ _ _ _ (af 1) (@ae _ _ _ _ _ _ (@av _ _ _ _ _ _ (af 3) ah (fun _ _=>rfl)) (@ae _ _ _ _ _ _ (af 2) (@ae _ _ _ _ _ _ (@av _ _ _ _ _ _ (af 3) ah (fun _ _=>rfl)) ag (by kernel_rfl)) (by kernel_rfl)) (by kernel_rfl)) (by kernel_rfl)) (by kernel_rfl)))) (@ao _ _ _ (@aD _ _ _ _ (du 3))) a8))) (@ao _ _ _ (@aD _ _ _ _ (@bP _ _ _ _ _ _ (@ae _ _ _ _ _ _ (pl_G T.g_BACK rfl) (@ae _ _ _ _ _ _ (pl_G T.g_BACK rfl) ag (by kernel_rfl)) (by kernel_rfl)))))))
  mY
theorem cK:aC lz ["ring","sending","k","l"] (ak c9):=⟨rfl,rfl,rfl,by decide +kernel,rfl,by decide +kernel,by decide +kernel⟩
theorem kR(T:Tx K mg ad fd):FnOk P w K mg base CX0 6 (ad 26) (fd 26) ["ring","sending","k","l"] (spF K 4 cI) :=
 bj (k:=5) T.x_greatest_slide.f cK dc (fun cdv A outer s H E hr=>(ai (ax (i:=4) cK.nd rfl (by walk_at "o") (au (aH (pq T) T.x_ways_apart hr (ae (af 0) (ae (af 2) (ae (af 3) ag))))))
  (ai (ax (i:=5) cK.nd rfl (by walk_at "o") (bP (ae (af 2) (ae (av (af 4) ah (fun _ _=>rfl)) (ae (af 3) (ae (av (af 4) ah (fun _ _=>rfl)) ag))))))
  (ao (aD (aq BU (af 5) (bP (ae (au (aH (lh T) T.x_most_slid hr (ae (af 0) (ae (af 1) (ae (af 5) ag))))) ag))))))))
  jT
theorem bE:aC qE ["ring","sending"] (ak gw):=⟨rfl,rfl,rfl,by decide +kernel,rfl,by decide +kernel,by decide +kernel⟩
theorem pw(T:Tx K mg ad fd):FnOk P w K mg base CX0 7 (ad 27) (fd 27) ["ring","sending"] (spF K 2 ft) :=
 bj (k:=6) T.x_slides_for.f bE gH (fun cdv A outer s H E hr=>by exact(@ai _ _ _ _ _ (@ax _ _ _ 2 _ _ _ bE.nd rfl (by walk_at "o") (af 1) (by kernel_rfl) (by first | exact .inl rfl | exact .inr rfl)) (@ai _ _ _ _ _ (@ax _ _ _ 3 _ _ _ bE.nd rfl (by walk_at "o") (@ck _ _ _ _ _ ag) (by kernel_rfl) (by first | exact .inl rfl | exact .inr rfl)) (@ai _ _ _ _ _ (@ax _ _ _ 4 _ _ _ bE.nd rfl (by walk_at "o") (@au _ _ _ (aH (cX T) T.x_first_side_by_side hr (@ae _ _ _ _ _ _ (af 0) (@ae _ _ _ _ _ _ (@au _ _ _ (aH (k8 T) T.x_parted_in hr (@ae _ _ _ _ _ _ (af 0) (@ae _ _ _ _ _ _ (af 2) ag (by kernel_rfl)) (by kernel_rfl)))) ag (by kernel_rfl)) (by kernel_rfl)))) (by kernel_rfl) (by first | exact .inl rfl | exact .inr rfl)) (@ai _ _ _ _ _ (lD PassesOwn.never (pbc tU (af 4) nB (aZ _)) (@ai _ _ _ _ _ (@ax _ _ _ 5 _ _ _ bE.nd rfl (by walk_at "o") (@au _ _ _ (aH (kR T) T.x_greatest_slide hr (@ae _ _ _ _ _ _ (af 0) (@ae _ _ _ _ _ _ (af 2) (@ae _ _ _ _ _ _ (@av _ _ _ _ _ _ (af 4) ah (fun _ _=>rfl)) (@ae _ _ _ _ _ _ (@av _ _ _ _ _ _ (af 4) ah (fun _ _=>rfl)) ag (by kernel_rfl)) (by kernel_rfl)) (by kernel_rfl)) (by kernel_rfl)))) (by kernel_rfl) (by first | exact .inl rfl | exact .inr rfl)) (@ai _ _ _ _ _ (ki (eI 3 (af 5))) (@ai _ _ _ _ _ (@ax _ _ _ 2 _ _ _ bE.nd rfl (by walk_at "o") (@au _ _ _ (aH (lg T) T.x_slid_once hr (@ae _ _ _ _ _ _ (af 2) (@ae _ _ _ _ _ _ (af 5) ag (by kernel_rfl)) (by kernel_rfl)))) (by kernel_rfl) (by first | exact .inl rfl | exact .inr rfl)) (@ao _ _ _ (@ax _ _ _ 4 _ _ _ bE.nd rfl (by walk_at "o") (@au _ _ _ (aH (cX T) T.x_first_side_by_side hr (@ae _ _ _ _ _ _ (af 0) (@ae _ _ _ _ _ _ (@au _ _ _ (aH (k8 T) T.x_parted_in hr (@ae _ _ _ _ _ _ (af 0) (@ae _ _ _ _ _ _ (af 2) ag (by kernel_rfl)) (by kernel_rfl)))) ag (by kernel_rfl)) (by kernel_rfl)))) (by kernel_rfl) (by first | exact .inl rfl | exact .inr rfl))))))) (@ao _ _ _ (@aD _ _ _ _ (du 3))))))))
  mZ
theorem fM:aC qF ["_law_script","_law_k"] (ak gy):=⟨rfl,rfl,rfl,by decide +kernel,rfl,by decide +kernel,by decide +kernel⟩
theorem bS(T:Tx K mg ad fd):FnOk P w K mg base CX0 1 (ad 28) (fd 28) ["_law_script","_law_k"] (spF K 2 bq) :=
 bj (k:=0) T.x__law_begun.f fM gI (fun cdv A outer s H E hr=>(ai (ax (i:=2) fM.nd rfl (by walk_at "o") ah)
  (ai (de (pbc jz (af 1) (aP fP rfl T.z_len (by decide +kernel) (ae (af 0) ag)) (aZ _)) (ao (ax (i:=2) fM.nd rfl (by walk_at "o") (av (af 0) (af 1) (fun _ _=>rfl)))) a8)
  (ao (aD (ck (ae (af 2) (ae (aq cm (aq a6 (aq a6 (aq cm (af 2) ah) (aq aW (aq aW ah (af 1)) (af 1))) ah) ah) (ae (gb Dr (af 2) (aq wx ah ah) (aZ _)) ag)))))))))
  m4
theorem cY:aC sN ["_law_state","_law_many"] (ak i8):=⟨rfl,rfl,rfl,by decide +kernel,rfl,by decide +kernel,by decide +kernel⟩
theorem aB(T:Tx K mg ad fd):FnOk P w K mg base CX0 1 (ad 29) (fd 29) ["_law_state","_law_many"] (spF K 2 az) :=
 bj (k:=0) T.x__law_take.f cY jm (fun cdv A outer s H E hr=>(ai (de (eG (fQ (jB 0 ah (fun _ _=>rfl)) (av (af 0) ah (fun _ _=>rfl)))) (ai (ax (i:=2) cY.nd rfl (by walk_at "o") (aq cm (fQ (jB 0 ah (fun _ _=>rfl)) (av (af 0) ah (fun _ _=>rfl))) (af 1)))
  (ai (lS 0 ah (aq lR (fQ (jB 0 ah (fun _ _=>rfl)) (av (af 0) ah (fun _ _=>rfl))) (af 1)))
  (ai (lS 0 ah (gb Bv (fQ (jB 0 ah (fun _ _=>rfl)) (av (af 0) ah (fun _ _=>rfl))) ah (aZ _)))
  (ao (aD (du 2)))))) a8)
  (ai (ax (i:=3) cY.nd rfl (by walk_at "o") ah)
  (ai (iq PassesOwn.never rfl (eU rfl T.z_range (aq a6 ah (aq aW ah (eH wD rfl T.z_int (by decide +kernel) (ae (gb Bv (af 1) (aq wx ah ah) (aZ _)) ag))))) (kj (i:=4) cY.nd rfl (by walk_at "o")) (ai (lS 0 ah (aq cm (aq a6 (aq aW (fQ (jB 0 ah (fun _ _=>rfl)) (av (af 0) ah (fun _ _=>rfl))) ah) ah) ah))
  (ao (ax (i:=3) cY.nd rfl (by walk_at "o") (au (aq a6 (aq aW (af 3) ah) (aq cm (aq aW (fQ (jB 0 ah (fun _ _=>rfl)) (av (af 0) ah (fun _ _=>rfl))) (fQ (jB 0 ah (fun _ _=>rfl)) (av (af 0) ah (fun _ _=>rfl)))) ah)))))))
  (ao (aD (aq cm (aq lR (af 3) ah) (af 1))))))))
  pd
theorem cx:aC gz ["_law_state","_law_many"] (ak cV):=⟨rfl,rfl,rfl,by decide +kernel,rfl,by decide +kernel,by decide +kernel⟩
theorem pA(T:Tx K mg ad fd):FnOk P w K mg base CX0 2 (ad 30) (fd 30) ["_law_state","_law_many"] (spF K 2 fv) :=
 bj (k:=1) T.x__law_names.f cx gJ (fun cdv A outer s H E hr=>(ai (ax (i:=2) cx.nd rfl (by walk_at "o") nC)
  (ai (ax (i:=3) cx.nd rfl (by walk_at "o") (au (BK (ko (sc:=(ak cV)) (N:=gz) (Nt:=["_law_k"]) (Nf:=["_law_letters","_law_state"]) (fi:=[2,0]) rfl rfl rfl (eU rfl T.z_range (aq a6 ah (bp (aB T) T.x__law_take hr 0 0 (aN 0 (ae ah ag))))) rfl (by decide +kernel) (by decide +kernel) (by decide +kernel) (by decide) rfl (by decide +kernel) (by decide) (fun _ _ _ _=>(lT (by decide) (show((["_law_k"]:List Str)++(["_law_letters","_law_state"]:List Str)).Nodup by decide +kernel) rfl (Or.inl rfl))) (fun _ _ _ _=>lU) (fun _ _ _ _=>(av (af 1) (bp (aB T) T.x__law_take hr 0 2 (aN 2 (ae ah ag))) (fun _ _=>rfl)))))))
  (ai (ax (i:=4) cx.nd rfl (by walk_at "o") (au (bp (aB T) T.x__law_take hr 0 0 (aN 0 (ae (au (aP fP rfl T.z_len (by decide +kernel) (ae (af 3) ag))) ag)))))
  (ai (ax (i:=5) cx.nd rfl (by walk_at "o") (au (bp (aB T) T.x__law_take hr 0 0 (aN 0 (ae ah ag)))))
  (ao (aD (ko (sc:=(ak cV)) (N:=gz) (Nt:=["_law_k"]) (Nf:=["_law_base","_law_at","_law_letters","_law_turn"]) (fi:=[3,4,2,5]) rfl rfl rfl (eU rfl T.z_range (af 1)) rfl (by decide +kernel) (by decide +kernel) (by decide +kernel) (by decide) rfl (by decide +kernel) (by decide) (fun _ _ _ _=>(lT (by decide) (show((["_law_k"]:List Str)++(["_law_base","_law_at","_law_letters","_law_turn"]:List Str)).Nodup by decide +kernel) rfl (Or.inl rfl))) (fun _ _ _ _=>lU) (fun _ _ _ _=>(aq a6 (aq a6 (dD (af 1) trivial (af 2)) (av (af 3) (aq cm (aq a6 (af 4) (af 0)) ah) (fun _ _=>rfl))) (dD (af 1) (aq a6 (af 2) ah) trivial)))))))))))
  m5
theorem dJ:aC vz ["_law_top","_law_bottom"] (ak kH):=⟨rfl,rfl,rfl,by decide +kernel,rfl,by decide +kernel,by decide +kernel⟩
theorem dM(T:Tx K mg ad fd):FnOk P w K mg base CX0 1 (ad 31) (fd 31) ["_law_top","_law_bottom"] (spF K 2 cj) :=
 bj (k:=0) T.x__law_low.f dJ kN (fun cdv A outer s H E hr=>(ai (ax (i:=2) dJ.nd rfl (by walk_at "o") (au (aP wy rfl T.z_abs (by decide +kernel) (ae (af 0) ag))))
  (ai (ax (i:=3) dJ.nd rfl (by walk_at "o") (au (aP wy rfl T.z_abs (by decide +kernel) (ae (af 1) ag))))
  (ai (lD PassesOwn.never (pbc (rG hr.units) (af 2) ah (aZ _)) (ao (Dt (i:=2) (j:=3) rfl dJ.nd rfl rfl (by decide) rfl rfl (aq cm (af 3) (af 2)) (af 2) rfl)))
  (ai (de (pbc jz (af 1) ah (aZ _)) (ao (ax (i:=3) dJ.nd rfl (by walk_at "o") (aq dQ ah (af 3)))) a8)
  (ao (aD (bP (ae (aq lR (af 0) (af 3)) (ae (aq lR (af 1) (af 3)) ag))))))))))
  qV
theorem eD:aC oW ["_law_state","_law_least","_law_kind"] (ak fb):=⟨rfl,rfl,rfl,by decide +kernel,rfl,by decide +kernel,by decide +kernel⟩
theorem eE(T:Tx K mg ad fd):FnOk P w K mg base CX0 2 (ad 32) (fd 32) ["_law_state","_law_least","_law_kind"] (spF K 3 b7) :=
 bj (k:=1) T.x__law_amount.f eD fw (fun cdv A outer s H E hr=>by exact(@ai _ _ _ _ _ (@ax _ _ _ 3 _ _ _ eD.nd rfl (by walk_at "o") (@au _ _ _ (@aq _ _ _ _ _ _ _ _ a6 ah (bp (aB T) T.x__law_take hr 0 0 (aN 0 (@ae _ _ _ _ _ _ (@av _ _ _ _ _ _ (@ck _ _ _ _ _ (@ae _ _ _ _ _ _ ah (@ae _ _ _ _ _ _ ah (@ae _ _ _ _ _ _ ah (@ae _ _ _ _ _ _ ah (@ae _ _ _ _ _ _ ah ag (by kernel_rfl)) (by kernel_rfl)) (by kernel_rfl)) (by kernel_rfl)) (by kernel_rfl))) (af 2) (fun _ _=>rfl)) ag (by kernel_rfl)))))) (by kernel_rfl) (by first | exact .inl rfl | exact .inr rfl)) (@ai _ _ _ _ _ (@ax _ _ _ 4 _ _ _ eD.nd rfl (by walk_at "o") (@au _ _ _ (@aq _ _ _ _ _ _ _ _ a6 (af 1) (bp (aB T) T.x__law_take hr 0 0 (aN 0 (@ae _ _ _ _ _ _ (@av _ _ _ _ _ _ (@ck _ _ _ _ _ (@ae _ _ _ _ _ _ ah (@ae _ _ _ _ _ _ ah (@ae _ _ _ _ _ _ ah (@ae _ _ _ _ _ _ ah (@ae _ _ _ _ _ _ (@aq _ _ _ _ _ _ _ _ wx ah ah) ag (by kernel_rfl)) (by kernel_rfl)) (by kernel_rfl)) (by kernel_rfl)) (by kernel_rfl))) (af 2) (fun _ _=>rfl)) ag (by kernel_rfl)))))) (by kernel_rfl) (by first | exact .inl rfl | exact .inr rfl)) (@ao _ _ _ (@aD _ _ _ _ (aH (dM T) T.x__law_low hr (@ae _ _ _ _ _ _ (af 4) (@ae _ _ _ _ _ _ (af 3) ag (by kernel_rfl)) (by kernel_rfl))))))))
  mH
theorem bT:aC qG ["_law_state","_law_ties","_law_kind"] (ak gA):=⟨rfl,rfl,rfl,by decide +kernel,rfl,by decide +kernel,by decide +kernel⟩
theorem pB(T:Tx K mg ad fd):FnOk P w K mg base CX0 3 (ad 33) (fd 33) ["_law_state","_law_ties","_law_kind"] (spF K 3 fz) :=
 bj (k:=2) T.x__law_rooms.f bT gM (fun cdv A outer s H E hr=>(ai (ax (i:=3) bT.nd rfl (by walk_at "o") (au (bp (aB T) T.x__law_take hr 0 0 (aN 0 (ae ah ag)))))
  (ai (ax (i:=4) bT.nd rfl (by walk_at "o") (au (bp (eE T) T.x__law_amount hr 0 0 (aN 0 (ae ah (ae (af 2) ag))))))
  (ai (de (pbc (lu hr.units) (af 3) ah (aZ _)) (ao (ax (i:=4) bT.nd rfl (by walk_at "o") (bP (ae ah (ae ah ag))))) a8)
  (ai (ax (i:=5) bT.nd rfl (by walk_at "o") (ck (ae (af 4) ag)))
  (ai (lD PassesOwn.never (pbc jz (fQ (rL 5 rfl T.z_len) (aP fP rfl T.z_len PySem.boot_len (ae (af 5) ag))) (af 1) (aZ _)) (ai (ax (i:=6) bT.nd rfl (by walk_at "o") (au (bp (eE T) T.x__law_amount hr 0 0 (aN 0 (ae ah (ae (af 2) ag))))))
  (ao (ki (eI 5 (av (ck (ae (af 4) (ae (af 6) ag))) (eH wD rfl T.z_int (by decide +kernel) (ae (gb (lu hr.units) (af 3) ah (aZ _)) ag)) (fun _ _=>rfl)))))))
  (ao (aD (du 5)))))))))
  m6
theorem g5:aC sO ["_law_state","_law_shape","_law_places","_law_k"] (ak i9):=⟨rfl,rfl,rfl,by decide +kernel,rfl,by decide +kernel,by decide +kernel⟩
theorem rf(T:Tx K mg ad fd):FnOk P w K mg base CX0 2 (ad 34) (fd 34) ["_law_state","_law_shape","_law_places","_law_k"] (spF K 4 gN) :=
 bj (k:=1) T.x__law_ends.f g5 jn (fun cdv A outer s H E hr=>(ai (ax (i:=4) g5.nd rfl (by walk_at "o") (au (bp (aB T) T.x__law_take hr 0 0 (aN 0 (ae (af 2) ag)))))
  (ai (ax (i:=5) g5.nd rfl (by walk_at "o") (aq cm (aq a6 (aq a6 (af 4) ah) (bp (aB T) T.x__law_take hr 0 0 (aN 0 (ae (aq dQ (af 2) ah) ag)))) (af 2)))
  (ai (de (pbc (lu hr.units) (af 1) ah (aZ _)) (ao (aD (bP (ae (aq cm (af 3) (af 2)) (ae (aq cm (aq a6 (af 3) (aq lR (af 2) ah)) (af 2)) ag))))) a8)
  (ai (de (pbc (lu hr.units) (af 1) ah (aZ _)) (ao (aD (bP (ae (au (aq aW (aq cm (af 3) ah) (aq dQ (af 2) ah))) (ae (au (aq aW (aq dQ ah (aq cm (af 3) ah)) (aq dQ (af 2) ah))) ag))))) a8)
  (ai (de (pbc (lu hr.units) (af 1) ah (aZ _)) (ao (aD (bP (ae ah (ae (au (aq a6 ah (aq cm (af 5) (aq dQ (af 2) ah)))) ag))))) a8)
  (ao (aD (bP (ae (af 4) (ae (af 5) ag)))))))))))
  pf
theorem aL:aC sP ["_law_script","_law_at","_law_most","_law_count"] (ak ja):=⟨rfl,rfl,rfl,by decide +kernel,rfl,by decide +kernel,by decide +kernel⟩
theorem rg(T:Tx K mg ad fd):FnOk P w K mg base CX0 4 (ad 35) (fd 35) ["_law_script","_law_at","_law_most","_law_count"] (spF K 4 gO) :=
 bj (k:=3) T.x__law_ring.f aL jo (fun cdv A outer s H E hr=>by exact(@ai _ _ _ _ _ (@ax _ _ _ 4 _ _ _ aL.nd rfl (by walk_at "o") (aH (bS T) T.x__law_begun hr (@ae _ _ _ _ _ _ (af 0) (@ae _ _ _ _ _ _ (af 1) ag (by kernel_rfl)) (by kernel_rfl))) (by kernel_rfl) (by first | exact .inl rfl | exact .inr rfl)) (@ai _ _ _ _ _ (@ax _ _ _ 5 _ _ _ aL.nd rfl (by walk_at "o") (@au _ _ _ (@aq _ _ _ _ _ _ _ _ a6 ah (bp (aB T) T.x__law_take hr 0 4 (aN 4 (@ae _ _ _ _ _ _ (@aq _ _ _ _ _ _ _ _ dQ (af 2) ah) ag (by kernel_rfl)))))) (by kernel_rfl) (by first | exact .inl rfl | exact .inr rfl)) (@ai _ _ _ _ _ (@ax _ _ _ 6 _ _ _ aL.nd rfl (by walk_at "o") (@au _ _ _ (bp (aB T) T.x__law_take hr 0 4 (aN 4 (@ae _ _ _ _ _ _ (@au _ _ _ (@aq _ _ _ _ _ _ _ _ a6 (af 3) ah)) ag (by kernel_rfl))))) (by kernel_rfl) (by first | exact .inl rfl | exact .inr rfl)) (@ai _ _ _ _ _ (@ax _ _ _ 7 _ _ _ aL.nd rfl (by walk_at "o") (@au _ _ _ (@ck _ _ _ _ _ (@ae _ _ _ _ _ _ (@au _ _ _ (bp (aB T) T.x__law_take hr 0 4 (aN 4 (@ae _ _ _ _ _ _ ah ag (by kernel_rfl))))) (@ae _ _ _ _ _ _ (@au _ _ _ (bp (aB T) T.x__law_take hr 0 4 (aN 4 (@ae _ _ _ _ _ _ ah ag (by kernel_rfl))))) ag (by kernel_rfl)) (by kernel_rfl)))) (by kernel_rfl) (by first | exact .inl rfl | exact .inr rfl)) (@ai _ _ _ _ _ (@ax _ _ _ 8 _ _ _ aL.nd rfl (by walk_at "o") (@au _ _ _ (bp (aB T) T.x__law_take hr 0 4 (aN 4 (@ae _ _ _ _ _ _ ah ag (by kernel_rfl))))) (by kernel_rfl) (by first | exact .inl rfl | exact .inr rfl)) (@ai _ _ _ _ _ (@ax _ _ _ 9 _ _ _ aL.nd rfl (by walk_at "o") (@au _ _ _ (bp (pA T) T.x__law_names hr 0 4 (aN 4 (@ae _ _ _ _ _ _ (af 6) ag (by kernel_rfl))))) (by kernel_rfl) (by first | exact .inl rfl | exact .inr rfl)) (@ai _ _ _ _ _ (@ax _ _ _ 10 _ _ _ aL.nd rfl (by walk_at "o") (@au _ _ _ (aH (pB T) T.x__law_rooms hr (@ae _ _ _ _ _ _ (aH (bS T) T.x__law_begun hr (@ae _ _ _ _ _ _ (af 0) (@ae _ _ _ _ _ _ (@au _ _ _ (@aq _ _ _ _ _ _ _ _ a6 (af 1) ah)) ag (by kernel_rfl)) (by kernel_rfl))) (@ae _ _ _ _ _ _ (af 5) (@ae _ _ _ _ _ _ (@av _ _ _ _ _ _ (af 7) ah (fun _ _=>rfl)) ag (by kernel_rfl)) (by kernel_rfl)) (by kernel_rfl)))) (by kernel_rfl) (by first | exact .inl rfl | exact .inr rfl)) (@ai _ _ _ _ _ (@ax _ _ _ 4 _ _ _ aL.nd rfl (by walk_at "o") (aH (bS T) T.x__law_begun hr (@ae _ _ _ _ _ _ (af 0) (@ae _ _ _ _ _ _ (@au _ _ _ (@aq _ _ _ _ _ _ _ _ a6 (af 1) ah)) ag (by kernel_rfl)) (by kernel_rfl))) (by kernel_rfl) (by first | exact .inl rfl | exact .inr rfl)) (@ai _ _ _ _ _ (@ax _ _ _ 11 _ _ _ aL.nd rfl (by walk_at "o") (@ck _ _ _ _ _ ag) (by kernel_rfl) (by first | exact .inl rfl | exact .inr rfl)) (@ai _ _ _ _ _ (iq PassesOwn.never rfl (eU rfl T.z_range (af 6)) (kj (i:=12) aL.nd rfl (by walk_at "o")) (@ai _ _ _ _ _ (BA (pZ rfl (bC (i:=13) aL.nd rfl (by walk_at "o") (bC (i:=14) aL.nd rfl (by walk_at "o") lP))) (bp (rf T) T.x__law_ends hr 0 4 (aN 4 (@ae _ _ _ _ _ _ (af 8) (@ae _ _ _ _ _ _ (af 5) (@ae _ _ _ _ _ _ (af 12) ag (by kernel_rfl)) (by kernel_rfl)) (by kernel_rfl))))) (@ao _ _ _ (ki (eI 11 (@bP _ _ _ _ _ _ (@ae _ _ _ _ _ _ (@av _ _ _ _ _ _ (af 9) (af 12) (fun _ _=>rfl)) (@ae _ _ _ _ _ _ (af 13) (@ae _ _ _ _ _ _ (af 14) (@ae _ _ _ _ _ _ (@au _ _ _ (bp (eE T) T.x__law_amount hr 0 4 (aN 4 (@ae _ _ _ _ _ _ ah (@ae _ _ _ _ _ _ (@av _ _ _ _ _ _ (af 7) ah (fun _ _=>rfl)) ag (by kernel_rfl)) (by kernel_rfl))))) ag (by kernel_rfl)) (by kernel_rfl)) (by kernel_rfl)) (by kernel_rfl)))))))) (@ao _ _ _ (@aD _ _ _ _ (@bP _ _ _ _ _ _ (@ae _ _ _ _ _ _ (af 10) (@ae _ _ _ _ _ _ (af 11) ag (by kernel_rfl)) (by kernel_rfl))))))))))))))))
  ph
theorem bu:aC qH ["_law_state","_law_ring_here"] (ak gB):=⟨rfl,rfl,rfl,by decide +kernel,rfl,by decide +kernel,by decide +kernel⟩
theorem pC(T:Tx K mg ad fd):FnOk P w K mg base CX0 2 (ad 36) (fd 36) ["_law_state","_law_ring_here"] (spF K 2 fB) :=
 bj (k:=1) T.x__law_parts.f bu gQ (fun cdv A outer s H E hr=>(ai (ax (i:=2) bu.nd rfl (by walk_at "o") (ck ag))
  (ai (iq PassesOwn.never rfl (lQ (av (af 1) ah (fun _ _=>rfl))) (pZ rfl (bC (i:=3) bu.nd rfl (by walk_at "o") (bC (i:=4) bu.nd rfl (by walk_at "o") (bC (i:=5) bu.nd rfl (by walk_at "o") (bC (i:=6) bu.nd rfl (by walk_at "o") lP))))) (ai (ax (i:=7) bu.nd rfl (by walk_at "o") (au (bp (aB T) T.x__law_take hr 0 0 (aN 0 (ae ah ag)))))
  (ai (ax (i:=8) bu.nd rfl (by walk_at "o") (au (bp (aB T) T.x__law_take hr 0 0 (aN 0 (ae ah ag)))))
  (ao (ki (eI 2 (av (ck (ae (bP (ae ah (ae ah ag))) (ae (af 6) (ae (au (aH (dM T) T.x__law_low hr (ae (au (aq aW (av (af 6) ah (fun _ _=>rfl)) (af 8))) (ae (au (aq aW (av (af 6) ah (fun _ _=>rfl)) ah)) ag)))) ag)))) (aP (wB rfl) rfl T.z_min (by decide +kernel) (ae (af 7) (ae ah ag))) (fun _ _=>rfl))))))))
  (ao (aD (du 2))))))
  m7
theorem pD:aC qI ["_law_one","_law_other"] (ak gC):=⟨rfl,rfl,rfl,by decide +kernel,rfl,by decide +kernel,by decide +kernel⟩
theorem fN(T:Tx K mg ad fd):FnOk P w K mg base CX0 2 (ad 37) (fd 37) ["_law_one","_law_other"] (spF K 2 cw) :=
 bj (k:=1) T.x__law_minus.f pD gR (fun cdv A outer s H E hr=>(ao (aD (aH (dM T) T.x__law_low hr (ae (aq dQ (aq aW (av (af 0) ah (fun _ _=>rfl)) (av (af 1) ah (fun _ _=>rfl))) (aq aW (av (af 1) ah (fun _ _=>rfl)) (av (af 0) ah (fun _ _=>rfl)))) (ae (au (aq aW (av (af 0) ah (fun _ _=>rfl)) (av (af 1) ah (fun _ _=>rfl)))) ag))))))
  m8
theorem rh:aC sQ ["_law_ring_here","_law_sending","_law_k","_law_way"] (ak jb):=⟨rfl,rfl,rfl,by decide +kernel,rfl,by decide +kernel,by decide +kernel⟩
theorem lj(T:Tx K mg ad fd):FnOk P w K mg base CX0 3 (ad 38) (fd 38) ["_law_ring_here","_law_sending","_law_k","_law_way"] (spF K 4 dX) :=
 bj (k:=2) T.x__law_gone.f rh jq (fun cdv A outer s H E hr=>(ai (de (pbc (lu hr.units) (af 3) nC (aZ _)) (ao (aD (av (af 1) (af 2) (fun _ _=>rfl)))) a8)
  (ao (aD (aH (fN T) T.x__law_minus hr (ae (av (av (av (af 0) ah (fun _ _=>rfl)) (af 2) (fun _ _=>rfl)) ah (fun _ _=>rfl)) (ae (av (af 1) (af 2) (fun _ _=>rfl)) ag)))))))
  pj
theorem pE:aC qJ ["_law_one","_law_other"] (ak gD):=⟨rfl,rfl,rfl,by decide +kernel,rfl,by decide +kernel,by decide +kernel⟩
theorem pF(T:Tx K mg ad fd):FnOk P w K mg base CX0 1 (ad 39) (fd 39) ["_law_one","_law_other"] (spF K 2 fC) :=
 bj (k:=0) T.x__law_under.f pE gS (fun cdv A outer s H E hr=>(ao (aD (gb jz (aq aW (av (af 0) ah (fun _ _=>rfl)) (av (af 1) ah (fun _ _=>rfl))) (aq aW (av (af 1) ah (fun _ _=>rfl)) (av (af 0) ah (fun _ _=>rfl))) (aZ _)))))
  m9
theorem aT:aC qK ["_law_state","_law_ring_here","_law_sending"] (ak gE):=⟨rfl,rfl,rfl,by decide +kernel,rfl,by decide +kernel,by decide +kernel⟩
theorem pG(T:Tx K mg ad fd):FnOk P w K mg base CX0 4 (ad 40) (fd 40) ["_law_state","_law_ring_here","_law_sending"] (spF K 3 fE) :=
 bj (k:=3) T.x__law_drawn.f aT gT (fun cdv A outer s H E hr=>by exact(@ai _ _ _ _ _ (@ax _ _ _ 3 _ _ _ aT.nd rfl (by walk_at "o") (@au _ _ _ (aP fP rfl T.z_len (by decide +kernel) (@ae _ _ _ _ _ _ (@av _ _ _ _ _ _ (af 1) ah (fun _ _=>rfl)) ag (by kernel_rfl)))) (by kernel_rfl) (by first | exact .inl rfl | exact .inr rfl)) (@ai _ _ _ _ _ (@ax _ _ _ 4 _ _ _ aT.nd rfl (by walk_at "o") (@au _ _ _ (bp (aB T) T.x__law_take hr 0 0 (aN 0 (@ae _ _ _ _ _ _ (af 3) ag (by kernel_rfl))))) (by kernel_rfl) (by first | exact .inl rfl | exact .inr rfl)) (@ai _ _ _ _ _ (@ax _ _ _ 5 _ _ _ aT.nd rfl (by walk_at "o") (@aq _ _ _ _ _ _ _ _ cm (@aq _ _ _ _ _ _ _ _ a6 (@aq _ _ _ _ _ _ _ _ a6 (af 4) ah) (bp (aB T) T.x__law_take hr 0 0 (aN 0 (@ae _ _ _ _ _ _ (@au _ _ _ (aP (wz rfl) rfl T.z_max (by decide +kernel) (@ae _ _ _ _ _ _ ah (@ae _ _ _ _ _ _ (@aq _ _ _ _ _ _ _ _ dQ (af 3) ah) ag (by kernel_rfl)) (by kernel_rfl)))) ag (by kernel_rfl))))) (af 3)) (by kernel_rfl) (by first | exact .inl rfl | exact .inr rfl)) (@ai _ _ _ _ _ (@ax _ _ _ 6 _ _ _ aT.nd rfl (by walk_at "o") (@av _ _ _ _ _ _ (@ck _ _ _ _ _ (@ae _ _ _ _ _ _ nC (@ae _ _ _ _ _ _ nC ag (by kernel_rfl)) (by kernel_rfl))) (bp (aB T) T.x__law_take hr 0 0 (aN 0 (@ae _ _ _ _ _ _ ah ag (by kernel_rfl)))) (fun _ _=>rfl)) (by kernel_rfl) (by first | exact .inl rfl | exact .inr rfl)) (@ai _ _ _ _ _ (@ax _ _ _ 7 _ _ _ aT.nd rfl (by walk_at "o") (@av _ _ _ _ _ _ (@ck _ _ _ _ _ (@ae _ _ _ _ _ _ nC (@ae _ _ _ _ _ _ nC ag (by kernel_rfl)) (by kernel_rfl))) (bp (aB T) T.x__law_take hr 0 0 (aN 0 (@ae _ _ _ _ _ _ ah ag (by kernel_rfl)))) (fun _ _=>rfl)) (by kernel_rfl) (by first | exact .inl rfl | exact .inr rfl)) (@ai _ _ _ _ _ (@ax _ _ _ 8 _ _ _ aT.nd rfl (by walk_at "o") (@au _ _ _ (aH (fN T) T.x__law_minus hr (@ae _ _ _ _ _ _ (@av _ _ _ _ _ _ (@av _ _ _ _ _ _ (@av _ _ _ _ _ _ (af 1) ah (fun _ _=>rfl)) (af 4) (fun _ _=>rfl)) ah (fun _ _=>rfl)) (@ae _ _ _ _ _ _ (@au _ _ _ (aH (lj T) T.x__law_gone hr (@ae _ _ _ _ _ _ (af 1) (@ae _ _ _ _ _ _ (af 2) (@ae _ _ _ _ _ _ (af 4) (@ae _ _ _ _ _ _ (af 6) ag (by kernel_rfl)) (by kernel_rfl)) (by kernel_rfl)) (by kernel_rfl)))) ag (by kernel_rfl)) (by kernel_rfl)))) (by kernel_rfl) (by first | exact .inl rfl | exact .inr rfl)) (@ai _ _ _ _ _ (@ax _ _ _ 9 _ _ _ aT.nd rfl (by walk_at "o") (@au _ _ _ (aH (fN T) T.x__law_minus hr (@ae _ _ _ _ _ _ (@av _ _ _ _ _ _ (@av _ _ _ _ _ _ (@av _ _ _ _ _ _ (af 1) ah (fun _ _=>rfl)) (af 5) (fun _ _=>rfl)) ah (fun _ _=>rfl)) (@ae _ _ _ _ _ _ (@au _ _ _ (aH (lj T) T.x__law_gone hr (@ae _ _ _ _ _ _ (af 1) (@ae _ _ _ _ _ _ (af 2) (@ae _ _ _ _ _ _ (af 5) (@ae _ _ _ _ _ _ (af 7) ag (by kernel_rfl)) (by kernel_rfl)) (by kernel_rfl)) (by kernel_rfl)))) ag (by kernel_rfl)) (by kernel_rfl)))) (by kernel_rfl) (by first | exact .inl rfl | exact .inr rfl)) (@ai _ _ _ _ _ (@ax _ _ _ 10 _ _ _ aT.nd rfl (by walk_at "o") (@av _ _ _ _ _ _ (@ck _ _ _ _ _ (@ae _ _ _ _ _ _ (af 8) (@ae _ _ _ _ _ _ (af 9) ag (by kernel_rfl)) (by kernel_rfl))) (eH wD rfl T.z_int (by decide +kernel) (@ae _ _ _ _ _ _ (@au _ _ _ (aH (pF T) T.x__law_under hr (@ae _ _ _ _ _ _ (af 9) (@ae _ _ _ _ _ _ (af 8) ag (by kernel_rfl)) (by kernel_rfl)))) ag (by kernel_rfl))) (fun _ _=>rfl)) (by kernel_rfl) (by first | exact .inl rfl | exact .inr rfl)) (@ai _ _ _ _ _ (@ax _ _ _ 11 _ _ _ aT.nd rfl (by walk_at "o") (@av _ _ _ _ _ _ (@ck _ _ _ _ _ (@ae _ _ _ _ _ _ ah (@ae _ _ _ _ _ _ (@au _ _ _ (@aq _ _ _ _ _ _ _ _ a6 ah (bp (aB T) T.x__law_take hr 0 0 (aN 0 (@ae _ _ _ _ _ _ ah ag (by kernel_rfl)))))) ag (by kernel_rfl)) (by kernel_rfl))) (bp (aB T) T.x__law_take hr 0 0 (aN 0 (@ae _ _ _ _ _ _ ah ag (by kernel_rfl)))) (fun _ _=>rfl)) (by kernel_rfl) (by first | exact .inl rfl | exact .inr rfl)) (@ao _ _ _ (@aD _ _ _ _ (@bP _ _ _ _ _ _ (@ae _ _ _ _ _ _ (af 4) (@ae _ _ _ _ _ _ (af 6) (@ae _ _ _ _ _ _ (af 5) (@ae _ _ _ _ _ _ (af 7) (@ae _ _ _ _ _ _ (@au _ _ _ (aH (dM T) T.x__law_low hr (@ae _ _ _ _ _ _ (@au _ _ _ (@aq _ _ _ _ _ _ _ _ aW (@av _ _ _ _ _ _ (af 10) ah (fun _ _=>rfl)) (af 11))) (@ae _ _ _ _ _ _ (@au _ _ _ (@aq _ _ _ _ _ _ _ _ aW (@av _ _ _ _ _ _ (af 10) ah (fun _ _=>rfl)) ah)) ag (by kernel_rfl)) (by kernel_rfl)))) ag (by kernel_rfl)) (by kernel_rfl)) (by kernel_rfl)) (by kernel_rfl)) (by kernel_rfl)))))))))))))))
  nc
theorem cN:aC oX ["_law_ring_here","_law_sending","_law_thing"] (ak ff):=⟨rfl,rfl,rfl,by decide +kernel,rfl,by decide +kernel,by decide +kernel⟩
theorem nh(T:Tx K mg ad fd):FnOk P w K mg base CX0 8 (ad 41) (fd 41) ["_law_ring_here","_law_sending","_law_thing"] (spF K 3 ej) :=
 bj (k:=7) T.x__law_let_by.f cN fF (fun cdv A outer s H E hr=>(ai (ax (i:=3) cN.nd rfl (by walk_at "o") nB)
  (ai (B3 rfl rfl T.h_NoSlide rfl (fun _ _ xt=>(zv (B2 (i:=3) cN.nd rfl (by walk_at "o") (DO (cJ T) T.x_slid_by hr (ae (af 0) (ae (af 1) (ae (au (ck (ae (af 2) ag))) ag))))))) (fun _=>(ao (ax (i:=3) cN.nd rfl (by walk_at "o") nB))))
  (ao (aD (du 3))))))
  mI
theorem aU:aC oY ["_law_slides"] (ak fg):=⟨rfl,rfl,rfl,by decide +kernel,rfl,by decide +kernel,by decide +kernel⟩
theorem nj(T:Tx K mg ad fd):FnOk P w K mg base CX0 2 (ad 42) (fd 42) ["_law_slides"] (spF K 1 ek) :=
 bj (k:=1) T.x__law_halves.f aU fG (fun cdv A outer s H E hr=>by exact(@ai _ _ _ _ _ (@ax _ _ _ 1 _ _ _ aU.nd rfl (by walk_at "o") (@ck _ _ _ _ _ ag) (by kernel_rfl) (by first | exact .inl rfl | exact .inr rfl)) (@ai _ _ _ _ _ (iq PassesOwn.never rfl (lQ (af 0)) (pZ rfl (bC (i:=2) aU.nd rfl (by walk_at "o") (bC (i:=3) aU.nd rfl (by walk_at "o") (bC (i:=4) aU.nd rfl (by walk_at "o") (bC (i:=5) aU.nd rfl (by walk_at "o") (bC (i:=6) aU.nd rfl (by walk_at "o") lP)))))) (@ai _ _ _ _ _ (@ax _ _ _ 7 _ _ _ aU.nd rfl (by walk_at "o") (@au _ _ _ (aH (dM T) T.x__law_low hr (@ae _ _ _ _ _ _ (@av _ _ _ _ _ _ (af 6) ah (fun _ _=>rfl)) (@ae _ _ _ _ _ _ (@au _ _ _ (@aq _ _ _ _ _ _ _ _ aW ah (@av _ _ _ _ _ _ (af 6) ah (fun _ _=>rfl)))) ag (by kernel_rfl)) (by kernel_rfl)))) (by kernel_rfl) (by first | exact .inl rfl | exact .inr rfl)) (@ao _ _ _ (@ax _ _ _ 1 _ _ _ aU.nd rfl (by walk_at "o") (@aq _ _ _ _ _ _ _ _ a6 (af 1) (@ck _ _ _ _ _ (@ae _ _ _ _ _ _ (@bP _ _ _ _ _ _ (@ae _ _ _ _ _ _ (af 2) (@ae _ _ _ _ _ _ (af 3) (@ae _ _ _ _ _ _ (af 4) (@ae _ _ _ _ _ _ (af 5) (@ae _ _ _ _ _ _ (af 7) ag (by kernel_rfl)) (by kernel_rfl)) (by kernel_rfl)) (by kernel_rfl)) (by kernel_rfl))) (@ae _ _ _ _ _ _ (@bP _ _ _ _ _ _ (@ae _ _ _ _ _ _ (af 2) (@ae _ _ _ _ _ _ (af 3) (@ae _ _ _ _ _ _ (af 4) (@ae _ _ _ _ _ _ (af 5) (@ae _ _ _ _ _ _ (af 7) ag (by kernel_rfl)) (by kernel_rfl)) (by kernel_rfl)) (by kernel_rfl)) (by kernel_rfl))) ag (by kernel_rfl)) (by kernel_rfl)))) (by kernel_rfl) (by first | exact .inl rfl | exact .inr rfl))))) (@ao _ _ _ (@aD _ _ _ _ (du 1))))))
  mJ
theorem eF:aC oZ ["_law_slides","_law_at"] (ak fh):=⟨rfl,rfl,rfl,by decide +kernel,rfl,by decide +kernel,by decide +kernel⟩
theorem nq(T:Tx K mg ad fd):FnOk P w K mg base CX0 1 (ad 43) (fd 43) ["_law_slides","_law_at"] (spF K 2 eA) :=
 bj (k:=0) T.x__law_turned.f eF fH (fun cdv A outer s H E hr=>(ai (ax (i:=2) eF.nd rfl (by walk_at "o") (av (af 0) (af 1) (fun _ _=>rfl)))
  (ai (ax (i:=3) eF.nd rfl (by walk_at "o") (av (af 0) (aq a6 (af 1) ah) (fun _ _=>rfl)))
  (ai (de (pbc jz (xa rfl T.z_len rfl T.z_set rfl (ck (ae (av (af 2) ah (fun _ _=>rfl)) (ae (av (af 2) ah (fun _ _=>rfl)) (ae (av (af 3) ah (fun _ _=>rfl)) (ae (av (af 3) ah (fun _ _=>rfl)) ag)))))) ah (aZ _)) (ao (aD (du 0))) a8)
  (ao (aD (aq a6 (aq a6 (dD (af 0) trivial (af 1)) (ck (ae (af 3) (ae (af 2) ag)))) (dD (af 0) (aq a6 (af 1) ah) trivial))))))))
  mK
theorem cZ:aC Fo ["_law_script"] (ak Ap):=⟨rfl,rfl,rfl,by decide +kernel,rfl,by decide +kernel,by decide +kernel⟩
theorem El(T:Tx K mg ad fd):FnOk P w K mg base CX0 9 (ad 44) (fd 44) ["_law_script"] (spF K 1 fs_law) :=
 bj (k:=8) T.x_law.f cZ CK (fun cdv A outer s H E hr=>by exact(@ai _ _ _ _ _ (@ax _ _ _ 1 _ _ _ cZ.nd rfl (by walk_at "o") (@au _ _ _ (aH (rg T) T.x__law_ring hr (@ae _ _ _ _ _ _ (af 0) (@ae _ _ _ _ _ _ ah (@ae _ _ _ _ _ _ ah (@ae _ _ _ _ _ _ ah ag (by kernel_rfl)) (by kernel_rfl)) (by kernel_rfl)) (by kernel_rfl)))) (by kernel_rfl) (by first | exact .inl rfl | exact .inr rfl)) (@ai _ _ _ _ _ (@ax _ _ _ 2 _ _ _ cZ.nd rfl (by walk_at "o") (@au _ _ _ (aH (pC T) T.x__law_parts hr (@ae _ _ _ _ _ _ (aH (bS T) T.x__law_begun hr (@ae _ _ _ _ _ _ (af 0) (@ae _ _ _ _ _ _ ah ag (by kernel_rfl)) (by kernel_rfl))) (@ae _ _ _ _ _ _ (af 1) ag (by kernel_rfl)) (by kernel_rfl)))) (by kernel_rfl) (by first | exact .inl rfl | exact .inr rfl)) (@ai _ _ _ _ _ (@ax _ _ _ 3 _ _ _ cZ.nd rfl (by walk_at "o") (eH rK rfl T.z_list (by decide +kernel) (@ae _ _ _ _ _ _ (af 2) ag (by kernel_rfl))) (by kernel_rfl) (by first | exact .inl rfl | exact .inr rfl)) (@ai _ _ _ _ _ (@ax _ _ _ 4 _ _ _ cZ.nd rfl (by walk_at "o") (@ck _ _ _ _ _ ag) (by kernel_rfl) (by first | exact .inl rfl | exact .inr rfl)) (@ai _ _ _ _ _ (iq PassesOwn.never rfl (y2 rfl T.z_range ah (aP (wz rfl) rfl T.z_max (by decide +kernel) (@ae _ _ _ _ _ _ ah (@ae _ _ _ _ _ _ (@au _ _ _ (aP (wB rfl) rfl T.z_min (by decide +kernel) (@ae _ _ _ _ _ _ (@au _ _ _ (aP fP rfl T.z_len (by decide +kernel) (@ae _ _ _ _ _ _ (af 0) ag (by kernel_rfl)))) (@ae _ _ _ _ _ _ ah ag (by kernel_rfl)) (by kernel_rfl)))) ag (by kernel_rfl)) (by kernel_rfl)))) (kj (i:=5) cZ.nd rfl (by walk_at "o")) (@ai _ _ _ _ _ (@ax _ _ _ 6 _ _ _ cZ.nd rfl (by walk_at "o") (aH (bS T) T.x__law_begun hr (@ae _ _ _ _ _ _ (af 0) (@ae _ _ _ _ _ _ (af 5) ag (by kernel_rfl)) (by kernel_rfl))) (by kernel_rfl) (by first | exact .inl rfl | exact .inr rfl)) (@ao _ _ _ (@de _ _ _ _ _ _ _ _ (pbc Bv (aP fP rfl T.z_len (by decide +kernel) (@ae _ _ _ _ _ _ (@av _ _ _ _ _ _ (af 1) ah (fun _ _=>rfl)) ag (by kernel_rfl))) ah (aZ _)) (@ai _ _ _ _ _ (@ax _ _ _ 7 _ _ _ cZ.nd rfl (by walk_at "o") (@au _ _ _ (zA 3 6 (bp (pG T) T.x__law_drawn hr 0 6 (aN 6 (@ae _ _ _ _ _ _ (af 1) (@ae _ _ _ _ _ _ (af 3) ag (by kernel_rfl)) (by kernel_rfl)))))) (by kernel_rfl) (by first | exact .inl rfl | exact .inr rfl)) (@ai _ _ _ _ _ (@ax _ _ _ 8 _ _ _ cZ.nd rfl (by walk_at "o") (kr 3 (aH (nh T) T.x__law_let_by hr (@ae _ _ _ _ _ _ (af 1) (@ae _ _ _ _ _ _ (af 3) (@ae _ _ _ _ _ _ (af 7) ag (by kernel_rfl)) (by kernel_rfl)) (by kernel_rfl)))) (by kernel_rfl) (by first | exact .inl rfl | exact .inr rfl)) (@ao _ _ _ (@de _ _ _ _ _ _ _ _ (BQ 8 (pbc tU (af 8) nB (aZ _))) (@ai _ _ _ _ _ (ki (eI 4 (af 7))) (@ao _ _ _ (@ax _ _ _ 3 _ _ _ cZ.nd rfl (by walk_at "o") (du 8) (by kernel_rfl) (by first | exact .inl rfl | exact .inr rfl)))) a8)))) a8)))) (@ai _ _ _ _ _ (@ax _ _ _ 9 _ _ _ cZ.nd rfl (by walk_at "o") (@au _ _ _ (kr 3 (aH (pw T) T.x_slides_for hr (@ae _ _ _ _ _ _ (af 1) (@ae _ _ _ _ _ _ (af 3) ag (by kernel_rfl)) (by kernel_rfl))))) (by kernel_rfl) (by first | exact .inl rfl | exact .inr rfl)) (@ai _ _ _ _ _ (@ax _ _ _ 4 _ _ _ cZ.nd rfl (by walk_at "o") (@aq _ _ _ _ _ _ _ _ a6 (af 4) (af 9)) (by kernel_rfl) (by first | exact .inl rfl | exact .inr rfl)) (@ai _ _ _ _ _ (@ax _ _ _ 10 _ _ _ cZ.nd rfl (by walk_at "o") (@au _ _ _ (kr 3 (nJ (cJ T) T.x_slid_by hr nI (@ae _ _ _ _ _ _ (af 1) (@ae _ _ _ _ _ _ (af 3) (@ae _ _ _ _ _ _ (af 9) ag (by kernel_rfl)) (by kernel_rfl)) (by kernel_rfl))))) (by kernel_rfl) (by first | exact .inl rfl | exact .inr rfl)) (@ai _ _ _ _ _ (ki (eI 3 (@bP _ _ _ _ _ _ (@ae _ _ _ _ _ _ ah (@ae _ _ _ _ _ _ ah ag (by kernel_rfl)) (by kernel_rfl))))) (@ai _ _ _ _ _ (@de _ _ _ _ _ _ _ _ (PBw.pb (tO (pbc (rG hr.units) (kr 4 (nJ (cJ T) T.x_slid_by hr nI (@ae _ _ _ _ _ _ (af 1) (@ae _ _ _ _ _ _ (af 2) (@ae _ _ _ _ _ _ (af 4) ag (by kernel_rfl)) (by kernel_rfl)) (by kernel_rfl)))) (af 10) (aZ _)) (oa (pbc (rG hr.units) (nJ (cJ T) T.x_slid_by hr nI (@ae _ _ _ _ _ _ (af 1) (@ae _ _ _ _ _ _ (af 2) (@ae _ _ _ _ _ _ (@au _ _ _ (kr 4 (aH (nj T) T.x__law_halves hr (@ae _ _ _ _ _ _ (af 4) ag (by kernel_rfl))))) ag (by kernel_rfl)) (by kernel_rfl)) (by kernel_rfl))) (af 10) (aZ _))))) (@ao _ _ _ (@aD _ _ _ _ pW)) a8) (@ai _ _ _ _ _ (@ax _ _ _ 6 _ _ _ cZ.nd rfl (by walk_at "o") (aH (bS T) T.x__law_begun hr (@ae _ _ _ _ _ _ (af 0) (@ae _ _ _ _ _ _ ah ag (by kernel_rfl)) (by kernel_rfl))) (by kernel_rfl) (by first | exact .inl rfl | exact .inr rfl)) (@ai _ _ _ _ _ (iq PassesOwn.never rfl (eU rfl T.z_range ah) (kj (i:=11) cZ.nd rfl (by walk_at "o")) (@ai _ _ _ _ _ (@ax _ _ _ 12 _ _ _ cZ.nd rfl (by walk_at "o") (@au _ _ _ (bp (aB T) T.x__law_take hr 0 6 (aN 6 (@ae _ _ _ _ _ _ (@au _ _ _ (@aq _ _ _ _ _ _ _ _ a6 (@fQ _ _ _ _ _ (rL 4 rfl T.z_len) (aP fP rfl T.z_len PySem.boot_len (@ae _ _ _ _ _ _ (af 4) ag (by kernel_rfl)))) ah)) ag (by kernel_rfl))))) (by kernel_rfl) (by first | exact .inl rfl | exact .inr rfl)) (@ai _ _ _ _ _ (@ax _ _ _ 13 _ _ _ cZ.nd rfl (by walk_at "o") (@au _ _ _ (nJ (cJ T) T.x_slid_by hr nI (@ae _ _ _ _ _ _ (af 1) (@ae _ _ _ _ _ _ (af 2) (@ae _ _ _ _ _ _ (@au _ _ _ (@dD _ _ _ _ _ _ _ _ _ (af 4) trivial (af 12))) ag (by kernel_rfl)) (by kernel_rfl)) (by kernel_rfl)))) (by kernel_rfl) (by first | exact .inl rfl | exact .inr rfl)) (@ai _ _ _ _ _ (@de _ _ _ _ _ _ _ _ (pbc (rG hr.units) (nJ (cJ T) T.x_slid_by hr nI (@ae _ _ _ _ _ _ (af 1) (@ae _ _ _ _ _ _ (af 13) (@ae _ _ _ _ _ _ (@au _ _ _ (@dD _ _ _ _ _ _ _ _ _ (af 4) (af 12) trivial)) ag (by kernel_rfl)) (by kernel_rfl)) (by kernel_rfl))) (af 10) (aZ _)) (@ao _ _ _ (@aD _ _ _ _ pW)) a8) (@ao _ _ _ (@de _ _ _ _ _ _ _ _ (PBw.pb (we (pbc jz (@aq _ _ _ _ _ _ _ _ a6 (af 12) ah) (@fQ _ _ _ _ _ (rL 4 rfl T.z_len) (aP fP rfl T.z_len PySem.boot_len (@ae _ _ _ _ _ _ (af 4) ag (by kernel_rfl)))) (aZ _)) (tN (pbc (rG hr.units) (nJ (cJ T) T.x_slid_by hr nI (@ae _ _ _ _ _ _ (af 1) (@ae _ _ _ _ _ _ (af 2) (@ae _ _ _ _ _ _ (@au _ _ _ (kr 4 (aH (nq T) T.x__law_turned hr (@ae _ _ _ _ _ _ (af 4) (@ae _ _ _ _ _ _ (af 12) ag (by kernel_rfl)) (by kernel_rfl))))) ag (by kernel_rfl)) (by kernel_rfl)) (by kernel_rfl))) (af 10) (aZ _))))) (@ao _ _ _ (@aD _ _ _ _ pW)) a8)))))) (@ao _ _ _ (@aD _ _ _ _ pW)))))))))))))))
  CN
end
noncomputable def adF(i:Nat):Addr:=([21,67,74,81,88,96,103,110,117,124,131,138,145,150,157,164,169,223,216,195,190,202,209,183,176,244,237,230,251,258,277,265,272,284,291,298,305,312,326,319,333,340,347,354,361]:List Addr).getD i 0
abbrev md0:Value:=(.str "ringloads.divisors" 187)
abbrev md1:Value:=(.str "ringloads.names" 251)
abbrev md2:Value:=(.str "ringloads.ratios" 282)
abbrev md3:Value:=(.str "ringloads.crossing" 328)
abbrev md4:Value:=(.str "ringloads.ways" 376)
abbrev md5:Value:=(.str "ringloads.slides" 395)
abbrev md6:Value:=(.str "law_ringloads_k33_whole_slides_by_halves" 503)
noncomputable def fdF(i:Nat):FuncData:=[fdM "greatest_shared" cB md0 20,fdM "is_whole" kB md1 66,fdM "is_number_below" cD md1 73,fdM "are_two_wholes" c8 md1 80,fdM "is_ratio" kD md1 87,fdM "lowest" oS md2 95,fdM "plus" ya md2 102,fdM "minus" sI md2 109,fdM "under" sJ md2 116,fdM "lesser" oT md2 123,fdM "lesser_place" d7 md3 130,fdM "greater_place" dE md3 137,fdM "do_cross" kE md3 144,fdM "parted_in" eY md3 149,fdM "first_side_by_side" bX md3 156,fdM "is_way" oU md4 163,fdM "ties_of" gu md4 168,fdM "part_behind" eZ md5 222,fdM "slid_once" i5 md5 215,fdM "share_no_tie" cL md5 194,fdM "has_form_of_slide" cf md5 189,fdM "not_sent" kF md5 201,fdM "most_slid" i7 md5 208,fdM "is_slide" kG md5 182,fdM "slid_by" mr md5 175,fdM "ways_apart" gv md5 243,fdM "greatest_slide" c9 md5 236,fdM "slides_for" gw md5 229,fdM "_law_begun" gy md6 250,fdM "_law_take" i8 md6 257,fdM "_law_names" cV md6 276,fdM "_law_low" kH md6 264,fdM "_law_amount" fb md6 271,fdM "_law_rooms" gA md6 283,fdM "_law_ends" i9 md6 290,fdM "_law_ring" ja md6 297,fdM "_law_parts" gB md6 304,fdM "_law_minus" gC md6 311,fdM "_law_gone" jb md6 325,fdM "_law_under" gD md6 318,fdM "_law_drawn" gE md6 332,fdM "_law_let_by" ff md6 339,fdM "_law_halves" fg md6 346,fdM "_law_turned" fh md6 353,fdM "law" Ap md6 360].getD i (fdM "law" Ap md0 0)
theorem tx{Pm:Params}{h:Heap}{mg:Str→Option Value}(X:(Hd.Kf Pm).In h)(G:h.Ns mainGlobals mg):Tx (Hd.Kf Pm) mg adF fdF where
 x_greatest_shared:=FX.mk' X G (a:=21) (c:=20) (md:=md0) (by kernel_rfl) (by kernel_rfl) (by kernel_rfl) (by kernel_rfl) fun _ _ _ _ _ _ u l=>match u,l with | [_,_],_=>rfl
 x_is_whole:=FX.mk' X G (a:=67) (c:=66) (md:=md1) (by kernel_rfl) (by kernel_rfl) (by kernel_rfl) (by kernel_rfl) fun _ _ _ _ _ _ u l=>match u,l with | [_],_=>rfl
 x_is_number_below:=FX.mk' X G (a:=74) (c:=73) (md:=md1) (by kernel_rfl) (by kernel_rfl) (by kernel_rfl) (by kernel_rfl) fun _ _ _ _ _ _ u l=>match u,l with | [_,_],_=>rfl
 x_are_two_wholes:=FX.mk' X G (a:=81) (c:=80) (md:=md1) (by kernel_rfl) (by kernel_rfl) (by kernel_rfl) (by kernel_rfl) fun _ _ _ _ _ _ u l=>match u,l with | [_],_=>rfl
 x_is_ratio:=FX.mk' X G (a:=88) (c:=87) (md:=md1) (by kernel_rfl) (by kernel_rfl) (by kernel_rfl) (by kernel_rfl) fun _ _ _ _ _ _ u l=>match u,l with | [_],_=>rfl
 x_lowest:=FX.mk' X G (a:=96) (c:=95) (md:=md2) (by kernel_rfl) (by kernel_rfl) (by kernel_rfl) (by kernel_rfl) fun _ _ _ _ _ _ u l=>match u,l with | [_,_],_=>rfl
 x_plus:=FX.mk' X G (a:=103) (c:=102) (md:=md2) (by kernel_rfl) (by kernel_rfl) (by kernel_rfl) (by kernel_rfl) fun _ _ _ _ _ _ u l=>match u,l with | [_,_],_=>rfl
 x_minus:=FX.mk' X G (a:=110) (c:=109) (md:=md2) (by kernel_rfl) (by kernel_rfl) (by kernel_rfl) (by kernel_rfl) fun _ _ _ _ _ _ u l=>match u,l with | [_,_],_=>rfl
 x_under:=FX.mk' X G (a:=117) (c:=116) (md:=md2) (by kernel_rfl) (by kernel_rfl) (by kernel_rfl) (by kernel_rfl) fun _ _ _ _ _ _ u l=>match u,l with | [_,_],_=>rfl
 x_lesser:=FX.mk' X G (a:=124) (c:=123) (md:=md2) (by kernel_rfl) (by kernel_rfl) (by kernel_rfl) (by kernel_rfl) fun _ _ _ _ _ _ u l=>match u,l with | [_,_],_=>rfl
 x_lesser_place:=FX.mk' X G (a:=131) (c:=130) (md:=md3) (by kernel_rfl) (by kernel_rfl) (by kernel_rfl) (by kernel_rfl) fun _ _ _ _ _ _ u l=>match u,l with | [_,_],_=>rfl
 x_greater_place:=FX.mk' X G (a:=138) (c:=137) (md:=md3) (by kernel_rfl) (by kernel_rfl) (by kernel_rfl) (by kernel_rfl) fun _ _ _ _ _ _ u l=>match u,l with | [_,_],_=>rfl
 x_do_cross:=FX.mk' X G (a:=145) (c:=144) (md:=md3) (by kernel_rfl) (by kernel_rfl) (by kernel_rfl) (by kernel_rfl) fun _ _ _ _ _ _ u l=>match u,l with | [_,_,_],_=>rfl
 x_parted_in:=FX.mk' X G (a:=150) (c:=149) (md:=md3) (by kernel_rfl) (by kernel_rfl) (by kernel_rfl) (by kernel_rfl) fun _ _ _ _ _ _ u l=>match u,l with | [_,_],_=>rfl
 x_first_side_by_side:=FX.mk' X G (a:=157) (c:=156) (md:=md3) (by kernel_rfl) (by kernel_rfl) (by kernel_rfl) (by kernel_rfl) fun _ _ _ _ _ _ u l=>match u,l with | [_,_],_=>rfl
 x_is_way:=FX.mk' X G (a:=164) (c:=163) (md:=md4) (by kernel_rfl) (by kernel_rfl) (by kernel_rfl) (by kernel_rfl) fun _ _ _ _ _ _ u l=>match u,l with | [_],_=>rfl
 x_ties_of:=FX.mk' X G (a:=169) (c:=168) (md:=md4) (by kernel_rfl) (by kernel_rfl) (by kernel_rfl) (by kernel_rfl) fun _ _ _ _ _ _ u l=>match u,l with | [_,_,_],_=>rfl
 x_part_behind:=FX.mk' X G (a:=223) (c:=222) (md:=md5) (by kernel_rfl) (by kernel_rfl) (by kernel_rfl) (by kernel_rfl) fun _ _ _ _ _ _ u l=>match u,l with | [_,_,_],_=>rfl
 x_slid_once:=FX.mk' X G (a:=216) (c:=215) (md:=md5) (by kernel_rfl) (by kernel_rfl) (by kernel_rfl) (by kernel_rfl) fun _ _ _ _ _ _ u l=>match u,l with | [_,_],_=>rfl
 x_share_no_tie:=FX.mk' X G (a:=195) (c:=194) (md:=md5) (by kernel_rfl) (by kernel_rfl) (by kernel_rfl) (by kernel_rfl) fun _ _ _ _ _ _ u l=>match u,l with | [_,_,_,_,_],_=>rfl
 x_has_form_of_slide:=FX.mk' X G (a:=190) (c:=189) (md:=md5) (by kernel_rfl) (by kernel_rfl) (by kernel_rfl) (by kernel_rfl) fun _ _ _ _ _ _ u l=>match u,l with | [_,_],_=>rfl
 x_not_sent:=FX.mk' X G (a:=202) (c:=201) (md:=md5) (by kernel_rfl) (by kernel_rfl) (by kernel_rfl) (by kernel_rfl) fun _ _ _ _ _ _ u l=>match u,l with | [_,_,_,_],_=>rfl
 x_most_slid:=FX.mk' X G (a:=209) (c:=208) (md:=md5) (by kernel_rfl) (by kernel_rfl) (by kernel_rfl) (by kernel_rfl) fun _ _ _ _ _ _ u l=>match u,l with | [_,_,_],_=>rfl
 x_is_slide:=FX.mk' X G (a:=183) (c:=182) (md:=md5) (by kernel_rfl) (by kernel_rfl) (by kernel_rfl) (by kernel_rfl) fun _ _ _ _ _ _ u l=>match u,l with | [_,_,_],_=>rfl
 x_slid_by:=FX.mk' X G (a:=176) (c:=175) (md:=md5) (by kernel_rfl) (by kernel_rfl) (by kernel_rfl) (by kernel_rfl) fun _ _ _ _ _ _ u l=>match u,l with | [_,_,_],_=>rfl
 x_ways_apart:=FX.mk' X G (a:=244) (c:=243) (md:=md5) (by kernel_rfl) (by kernel_rfl) (by kernel_rfl) (by kernel_rfl) fun _ _ _ _ _ _ u l=>match u,l with | [_,_,_],_=>rfl
 x_greatest_slide:=FX.mk' X G (a:=237) (c:=236) (md:=md5) (by kernel_rfl) (by kernel_rfl) (by kernel_rfl) (by kernel_rfl) fun _ _ _ _ _ _ u l=>match u,l with | [_,_,_,_],_=>rfl
 x_slides_for:=FX.mk' X G (a:=230) (c:=229) (md:=md5) (by kernel_rfl) (by kernel_rfl) (by kernel_rfl) (by kernel_rfl) fun _ _ _ _ _ _ u l=>match u,l with | [_,_],_=>rfl
 x__law_begun:=FX.mk' X G (a:=251) (c:=250) (md:=md6) (by kernel_rfl) (by kernel_rfl) (by kernel_rfl) (by kernel_rfl) fun _ _ _ _ _ _ u l=>match u,l with | [_,_],_=>rfl
 x__law_take:=FX.mk' X G (a:=258) (c:=257) (md:=md6) (by kernel_rfl) (by kernel_rfl) (by kernel_rfl) (by kernel_rfl) fun _ _ _ _ _ _ u l=>match u,l with | [_,_],_=>rfl
 x__law_names:=FX.mk' X G (a:=277) (c:=276) (md:=md6) (by kernel_rfl) (by kernel_rfl) (by kernel_rfl) (by kernel_rfl) fun _ _ _ _ _ _ u l=>match u,l with | [_,_],_=>rfl
 x__law_low:=FX.mk' X G (a:=265) (c:=264) (md:=md6) (by kernel_rfl) (by kernel_rfl) (by kernel_rfl) (by kernel_rfl) fun _ _ _ _ _ _ u l=>match u,l with | [_,_],_=>rfl
 x__law_amount:=FX.mk' X G (a:=272) (c:=271) (md:=md6) (by kernel_rfl) (by kernel_rfl) (by kernel_rfl) (by kernel_rfl) fun _ _ _ _ _ _ u l=>match u,l with | [_,_,_],_=>rfl
 x__law_rooms:=FX.mk' X G (a:=284) (c:=283) (md:=md6) (by kernel_rfl) (by kernel_rfl) (by kernel_rfl) (by kernel_rfl) fun _ _ _ _ _ _ u l=>match u,l with | [_,_,_],_=>rfl
 x__law_ends:=FX.mk' X G (a:=291) (c:=290) (md:=md6) (by kernel_rfl) (by kernel_rfl) (by kernel_rfl) (by kernel_rfl) fun _ _ _ _ _ _ u l=>match u,l with | [_,_,_,_],_=>rfl
 x__law_ring:=FX.mk' X G (a:=298) (c:=297) (md:=md6) (by kernel_rfl) (by kernel_rfl) (by kernel_rfl) (by kernel_rfl) fun _ _ _ _ _ _ u l=>match u,l with | [_,_,_,_],_=>rfl
 x__law_parts:=FX.mk' X G (a:=305) (c:=304) (md:=md6) (by kernel_rfl) (by kernel_rfl) (by kernel_rfl) (by kernel_rfl) fun _ _ _ _ _ _ u l=>match u,l with | [_,_],_=>rfl
 x__law_minus:=FX.mk' X G (a:=312) (c:=311) (md:=md6) (by kernel_rfl) (by kernel_rfl) (by kernel_rfl) (by kernel_rfl) fun _ _ _ _ _ _ u l=>match u,l with | [_,_],_=>rfl
 x__law_gone:=FX.mk' X G (a:=326) (c:=325) (md:=md6) (by kernel_rfl) (by kernel_rfl) (by kernel_rfl) (by kernel_rfl) fun _ _ _ _ _ _ u l=>match u,l with | [_,_,_,_],_=>rfl
 x__law_under:=FX.mk' X G (a:=319) (c:=318) (md:=md6) (by kernel_rfl) (by kernel_rfl) (by kernel_rfl) (by kernel_rfl) fun _ _ _ _ _ _ u l=>match u,l with | [_,_],_=>rfl
 x__law_drawn:=FX.mk' X G (a:=333) (c:=332) (md:=md6) (by kernel_rfl) (by kernel_rfl) (by kernel_rfl) (by kernel_rfl) fun _ _ _ _ _ _ u l=>match u,l with | [_,_,_],_=>rfl
 x__law_let_by:=FX.mk' X G (a:=340) (c:=339) (md:=md6) (by kernel_rfl) (by kernel_rfl) (by kernel_rfl) (by kernel_rfl) fun _ _ _ _ _ _ u l=>match u,l with | [_,_,_],_=>rfl
 x__law_halves:=FX.mk' X G (a:=347) (c:=346) (md:=md6) (by kernel_rfl) (by kernel_rfl) (by kernel_rfl) (by kernel_rfl) fun _ _ _ _ _ _ u l=>match u,l with | [_],_=>rfl
 x__law_turned:=FX.mk' X G (a:=354) (c:=353) (md:=md6) (by kernel_rfl) (by kernel_rfl) (by kernel_rfl) (by kernel_rfl) fun _ _ _ _ _ _ u l=>match u,l with | [_,_],_=>rfl
 x_law:=FX.mk' X G (a:=361) (c:=360) (md:=md6) (by kernel_rfl) (by kernel_rfl) (by kernel_rfl) (by kernel_rfl) fun _ _ _ _ _ _ u l=>match u,l with | [_],_=>rfl
 li:=w5.mk' X G (by kernel_rfl) (by kernel_rfl) (by kernel_rfl) (by kernel_rfl) (by kernel_rfl) (by kernel_rfl) (by kernel_rfl) fun _ _ _ _ _ _ u l=>match u,l with | [_,_],_=>rfl
 i_NoSlide:=ny (oc:=.type "function") (od:=none) (osl:=#[]) (by kernel_rfl) (by kernel_rfl) (by kernel_rfl)
 c_NoSlide:=XT.mk' X G (by kernel_rfl) (by kernel_rfl) (by kernel_rfl) ((ny (x:="__init__") (qual:="NoSlide.__init__") (st:=dY) (f:=55) (oc:=.type "function") (od:=none) (osl:=#[]) (by kernel_rfl) (by kernel_rfl) (by kernel_rfl)).binds fun _ _ _ _ _ _ u l=>match u,l with | [_,_],_=>rfl) (by kernel_rfl) (by kernel_rfl)
 h_NoSlide:=XH.mk' X G (by kernel_rfl) (by kernel_rfl) (by kernel_rfl) (by kernel_rfl)
 z_ValueError:=PySem.W.mg_none_of X G (by kernel_rfl)
 z_abs:=PySem.W.mg_none_of X G (by kernel_rfl)
 z_any:=PySem.W.mg_none_of X G (by kernel_rfl)
 z_bool:=PySem.W.mg_none_of X G (by kernel_rfl)
 z_enumerate:=PySem.W.mg_none_of X G (by kernel_rfl)
 z_int:=PySem.W.mg_none_of X G (by kernel_rfl)
 z_isinstance:=PySem.W.mg_none_of X G (by kernel_rfl)
 z_len:=PySem.W.mg_none_of X G (by kernel_rfl)
 z_list:=PySem.W.mg_none_of X G (by kernel_rfl)
 z_max:=PySem.W.mg_none_of X G (by kernel_rfl)
 z_min:=PySem.W.mg_none_of X G (by kernel_rfl)
 z_range:=PySem.W.mg_none_of X G (by kernel_rfl)
 z_set:=PySem.W.mg_none_of X G (by kernel_rfl)
 z_str:=PySem.W.mg_none_of X G (by kernel_rfl)
 z_tuple:=PySem.W.mg_none_of X G (by kernel_rfl)
 g_BACK:=tT (PySem.W.mg_of X G (v:=(.str "back" 380)) (by kernel_rfl))
 g_NOUGHT:=ze (PySem.W.mg_of X G (v:=.ref 89) (by kernel_rfl)) (show(Hd.Kf Pm).lookup 89=some (Obj.mk (.type "tuple") none (.seq #[(.int 0 284),(.int 1 285)] 0) #[]) by kernel_rfl) ⟨_,_,[L2.V.int 0,L2.V.int 1],_,rfl,rfl,rfl,by decide,(.cons ⟨_,rfl⟩ (.cons ⟨_,rfl⟩ .nil)),fun K H=>(.cons (.int _) (.cons (.int _) .nil))⟩
 g_ON:=tT (PySem.W.mg_of X G (v:=(.str "on" 378)) (by kernel_rfl))
theorem walkF(w:World)(mg:Str→Option Value)(fa:Addr)(h:Heap)(X:(Hd.Kf w.params).In h)(G:h.Ns mainGlobals mg) (hmg:mg "law"=some (.ref fa)) :
  ∃ fd:FuncData,(∀(s:Shared)(u:Value),BindsTo s fd ⟨[u],[]⟩ [("_law_script",u)])∧∀ base:Heap,(Hd.Kf w.params).In base→base.Ns mainGlobals mg→FnOk PySem.Challenge.pw_ringloads_k33_whole_slides_by_halves w (Hd.Kf w.params) mg base CX0 9 fa fd ["_law_script"] (spF (Hd.Kf w.params) 1 fs_law):=by
 have T:=tx X G
 have e:=hmg.symm.trans T.x_law.m
 cases e
 exact⟨_,fun s v=>.of_eq rfl,fun base _ _=>El T⟩
theorem tabR(w:World):∀x∈L2.lamNames,PySem.W.tabIn (Hd.Kf w.params) x=none∨((PyProof.Rows.recsOf Hd.q).find? fun e=>e.name == x).isSome=true:=by
 intro x hx
 simp only[L2.lamNames,List.mem_cons,List.not_mem_nil,or_false]at hx
 rcases hx with rfl|rfl|rfl
 ·
  exact .inl (by kernel_rfl)
 ·
  exact .inl (by kernel_rfl)
 ·
  exact .inl (by kernel_rfl)
theorem walk{l:PySem.W.OpenLaw}{q:Program}{loose:List Str}{XP:(Str→Option Value)→Heap→Prop}{YP:World→Heap→Prop}{d:DefRec}{K:Params→PySem.W.Frag}(hn:l.most=some 63)(hq:PyProof.Rows.importsNone q=true)(hdf:d.params.defaults=[])
  (hY:∀(w:World)(h:Heap),YP w h→(K w.params).In h) (hto:∀w:World,L2.tabsOk (K w.params)=true) (hrc:∀(w:World),∀x∈L2.lamNames,PySem.W.tabIn (K w.params) x=none∨((PyProof.Rows.recsOf q).find? fun e=>e.name == x).isSome=true)
  (F:∀(w:World)(mg:Str→Option Value)(fa:Addr)(h:Heap),(K w.params).In h→h.Ns mainGlobals mg→mg d.name=some (.ref fa) →
   ∃ fd:FuncData,(∀(s:Shared)(u:Value),BindsTo s fd ⟨[u],[]⟩ [("_law_script",u)])∧∀ base:Heap,(K w.params).In base→base.Ns mainGlobals mg→FnOk l.prog w (K w.params) mg base CX0 9 fa fd ["_law_script"] (spF (K w.params) 1 fs_law)) :
  PySem.W.WalkO q loose XP YP l.row.toRowW d [] (fun f vs=>PySem.call f vs) :=
 L2.walk_of (n:=63) (k:=9) (x:="_law_script") (CX:=fun _=>CX0) (sp:=fun w=>spF (K w.params) 1 fs_law) hn hq (by decide) hdf ⟨rfl,by decide,by decide,rfl⟩ hY hto hrc F (fun _ H a ns hl hO hS=>wK hl hO hS (yn hl)) fun _ _ _ _ _ z=>z
end My
open PySem PySem.W PyProof.Rows
abbrev PySem.W.Fast.tw14079396671140346368:PySem.Program:=PySem.Challenge.pw_ringloads_k33_whole_slides_by_halves
theorem PySem.W.Fast.te14079396671140346368:PySem.Challenge.pw_ringloads_k33_whole_slides_by_halves=PySem.W.Fast.tw14079396671140346368:=rfl
set_option maxRecDepth 100000 in
theorem PySem.Challenge.cw_ringloads_k33_whole_slides_by_halves_holds : PySem.Challenge.rw_ringloads_k33_whole_slides_by_halves.Holds := by
 w_on;o_law
 refine PySem.W.holds_open (q:=Hd.q) (loose:=Hd.loose) (Xt:=Hd.Xt) (XP:=XL Hd.q []) (Yf:=Hook.obs Hd.Hk) (Ya:=Hook.val Hd.Hk) (YP:=Hook.says Hd.Hk) (N:=_) Hd.left (Hook.of Hd.Hk) (Hook.keeps Hd.Hk) (fun s e=>xl_of s (Bool.and_eq_true_iff.mp e).1) XL.keeps (by rfl) (by rfl) (by rfl) (fun s e=>recFacts_of (Bool.and_eq_true_iff.mp e).2) (by rfl) (by assumption) (by decide +kernel) ⟨rfl,rfl,rfl,rfl,rfl,by decide +kernel⟩ ?hw ?hc
 case hw=>w_witness2
 case hc=>exact My.walk (l:=PySem.Challenge.rw_ringloads_k33_whole_slides_by_halves) (K:=Hd.Kf) rfl (by decide +kernel) rfl (fun w h Y=>PySem.W.kIn_of Y) (fun w=>by kernel_rfl) My.tabR My.walkF