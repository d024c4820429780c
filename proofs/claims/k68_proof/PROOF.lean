import PyProof.Rows.All
import Wide.All
import OpenK.AllK
import Wide.FinOn
import Lean
import PyProof.EqAt
import PyProof.EqKinds
import PyProof.TupleCall
import PyProof.ExcArgs
import KE.KSortKey
import KE.KIsAll
import PyProof.ExcInit
import PyProof.StationsW
import PyProof.NsDelKeeps
import PyProof.RulesAs
import PyProof.PassesOwn
import PyProof.ExcBaseAll.ValueError
import PyProof.InstStoreFacts
import PyProof.Rows.EqDataRows
import PyProof.ReprRoads
import PyProof.Rows.Range3
import PyProof.ConsumeWalk
import PyProof.FString5
import PyProof.ReprLen
import PyProof.Rows.TupAdd
import PyProof.Rows.RuleIs
import PyProof.ListNew
import KE.KRevIter
import PyProof.Rows.SeqMore2
import PyProof.ListRange
import KE.KEqDict
import PyProof.NeKinds
import PyProof.CallStr
import PyProof.ListMulAny
import PySem.Challenge.RW_ringloads_k68_what_is_a_string
set_option Elab.async false
set_option linter.all false
set_option maxRecDepth 100000
set_option maxHeartbeats 0
namespace L2
open PySem PySem.Spec PyProof.Rows
abbrev Key:=Sum Int Str
def rC:Key→Value→Bool
 |.inl k,v=>Value.isInt k v
 |.inr x,v=>Value.isStrOf x v
def keyH(w:World):Key→Int
 |.inl k=>hashInt k
 |.inr x=>hashStr w x
theorem bu:∀{k:Key}{v:Value},rC k v=true→(∃i t,k=Sum.inl i∧v=Value.int i t)∨(∃x t,k=Sum.inr x∧v=Value.str x t)
 | .inl i,v,h=>by
  obtain⟨t,e⟩:=Value.isInt_shape (k:=i) (v:=v) h
  exact .inl ⟨i,t,rfl,e⟩
 | .inr x,v,h=>by
  obtain⟨t,e⟩:=Value.isStrOf_shape (x:=x) (v:=v) h
  exact .inr ⟨x,t,rfl,e⟩
theorem sT(i:Int)(t:Tok):rC (.inl i) (.int i t)=true:=by simp[rC,Value.isInt]
theorem sU(x:Str)(t:Tok):rC (.inr x) (.str x t)=true:=by simp[rC,Value.isStrOf]
theorem An(a b:Int):decide ((Sum.inl a:Key)=Sum.inl b)=(a == b):=by
 by_cases e:a=b
 ·
  subst e;simp
 ·
  have h:¬(Sum.inl a:Key)=Sum.inl b:=fun q=>e (Sum.inl.inj q)
  rw[decide_eq_false h]
  exact(beq_eq_false_iff_ne.mpr e).symm
theorem Ao(a b:Str):decide ((Sum.inr a:Key)=Sum.inr b)=decide (a=b):=by
 by_cases e:a=b
 ·
  subst e;simp
 ·
  have h:¬(Sum.inr a:Key)=Sum.inr b:=fun q=>e (Sum.inr.inj q)
  rw[decide_eq_false h,decide_eq_false e]
theorem Ap(a:Int)(b:Str):decide ((Sum.inl a:Key)=Sum.inr b)=false:=decide_eq_false (fun q=>nomatch q)
theorem Aq(a:Str)(b:Int):decide ((Sum.inr a:Key)=Sum.inl b)=false:=decide_eq_false (fun q=>nomatch q)
def fm(prog:Program)(w:World):PySem.KeyKind prog w Key where
 is:=rC
 hash:=keyH w
 inj:=fun v a b ha hb=>by
  rcases bu ha with⟨i,t,rfl,rfl⟩|⟨x,t,rfl,rfl⟩
  ·
   rcases bu hb with⟨j,u,rfl,e⟩|⟨y,u,rfl,e⟩
   ·
    injection e with e1 _;rw[e1]
   ·
    exact nomatch e
  ·
   rcases bu hb with⟨j,u,rfl,e⟩|⟨y,u,rfl,e⟩
   ·
    exact nomatch e
   ·
    injection e with e1 _;rw[e1]
 byValue:=fun k v h=>by
  rcases bu h with⟨i,t,rfl,rfl⟩|⟨x,t,rfl,rfl⟩<;>rfl
 pyHash:=fun hv h=>by
  rcases bu hv with⟨i,t,rfl,rfl⟩|⟨x,t,rfl,rfl⟩
  ·
   exact wpAny_pyHash_int h
  ·
   exact wpAny_pyHash_str h
 eqBool:=fun hu hv h=>by
  rcases bu hu with⟨i,t,rfl,rfl⟩|⟨x,t,rfl,rfl⟩
  ·
   rcases bu hv with⟨j,u,rfl,rfl⟩|⟨y,u,rfl,rfl⟩
   ·
    rw[An]at h;exact wpAny_eqBool_int h
   ·
    rw[Ap]at h;exact SeqAt.EqAt.int_str i t y u _ _ _ _ h
  ·
   rcases bu hv with⟨j,u,rfl,rfl⟩|⟨y,u,rfl,rfl⟩
   ·
    rw[Aq]at h;exact SeqAt.EqAt.str_int x t j u _ _ _ _ h
   ·
    rw[Ao]at h;exact wpAny_eqBool_str h
 «strs»:=fun k x t v h=>by
  rcases bu h with⟨i,u,rfl,e⟩|⟨y,u,rfl,e⟩
  ·
   exact nomatch e
  ·
   injection e with e1 _
   subst e1
   cases v<;>rfl
theorem oQ(prog:Program)(w:World)(i:Int)(t:Tok):(fm prog w).is (.inl i) (.int i t)=true:=sT i t
theorem oR(prog:Program)(w:World)(x:Str)(t:Tok):(fm prog w).is (.inr x) (.str x t)=true:=sU x t
inductive V where
 |non|bl (b:Bool)|int (i:Int)|str (x:Str)|byt (b:Array UInt8)|flt (b:UInt64)|ref (a:Addr)|ty (n:String)
 deriving DecidableEq
def RelV:V→Value→Prop
 |.non,u=>u=Value.none
 |.bl b,u=>u=Value.bool b
 |.int i,u=>∃t,u=Value.int i t
 |.str x,u=>∃t,u=Value.str x t
 |.byt b,u=>∃t,u=Value.bytes b t
 |.flt b,u=>∃t,u=Value.float b t
 |.ref a,u=>u=Value.ref a
 |.ty n,u=>u=Value.type n
abbrev Vals:List V→List Value→Prop:=Paired RelV
theorem Vals.length{xs:List V}{us:List Value}(r:Vals xs us):xs.length=us.length:=Paired.length r
theorem Vals.get:∀{xs:List V}{us:List Value}{i:Nat}{x:V},Vals xs us→xs[i]?=some x→∃u,us[i]?=some u∧RelV x u
 |_,_,_,_,.nil,e=>by simp at e
 |_,_,0,_,.cons r _,e=>by simp at e;subst e;exact⟨_,rfl,r⟩
 | _,_,i+1,x,.cons _ t,e=>by
  obtain⟨u,h1,h2⟩:=Vals.get (i:=i) (x:=x) t (by simpa using e)
  exact⟨u,by simpa using h1,h2⟩
theorem Vals.set{x:V}{u:Value}(r:RelV x u):∀{xs:List V}{us:List Value}(i:Nat),Vals xs us→Vals (xs.set i x) (us.set i u)
 |_,_,_,.nil=>.nil
 |_,_,0,.cons _ t=>.cons r t
 |_,_,i+1,.cons q t=>.cons q (Vals.set r i t)
theorem Vals.append:∀{xs ys:List V}{us ws:List Value},Vals xs us→Vals ys ws→Vals (xs++ys) (us++ws)
 |_,_,_,_,.nil,s=>s
 |_,_,_,_,.cons r t,s=>.cons r (Vals.append t s)
theorem Vals.take:∀{xs:List V}{us:List Value}(n:Nat),Vals xs us→Vals (xs.take n) (us.take n)
 |_,_,0,_=>.nil
 |_,_,_+1,.nil=>.nil
 |_,_,n+1,.cons r t=>.cons r (Vals.take n t)
theorem Vals.drop:∀{xs:List V}{us:List Value}(n:Nat),Vals xs us→Vals (xs.drop n) (us.drop n)
 |_,_,0,r=>r
 |_,_,_+1,.nil=>.nil
 |_,_,n+1,.cons _ t=>Vals.drop n t
def RelO:Option V→Option Value→Prop
 |some v,some u=>RelV v u
 |none,none=>True
 |_,_=>False
def KV{κ:Type}:List (κ×V)→List (κ×Value)→Prop:=Paired fun (p:κ×V) (q:κ×Value)=>p.1=q.1∧RelV p.2 q.2
def kV:Key→V
 |.inl i=>.int i
 |.inr x=>.str x
inductive HO where
 |lst (xs:List V)
 |tup (xs:List V)
 |dK (kvs:List (Key×V))|dT (kvs:List (List Key×V))
 |set (S:Int→Bool) (n:Nat)
 |ins (C dx:Addr) (fs:List (Str×V))
 |own (x:Addr)
 |xd (fs:List (Str×V))
 |met (f x:Addr)
 |rng (lo hi:Int)
 |frz (o:Obj) (u:HO)
 |tbl (q:Str)
 |ext (φ:Heap→Prop)
abbrev Hp:=Addr→Option HO
def upd(H:Hp)(a:Addr)(o:HO):Hp:=fun b=>if b=a then some o else H b
theorem aC{H:Hp}{a:Addr}{o:HO}:upd H a o a=some o:=by unfold upd;rw[if_pos rfl]
theorem aj{H:Hp}{a b:Addr}{o:HO}(h:b≠a):upd H a o b=H b:=by unfold upd;rw[if_neg h]
theorem ya{H:Hp}{a:Addr}{o u:HO}:upd (upd H a o) a u=upd H a u:=by
 funext b;unfold upd;split<;>rfl
theorem aL{H:Hp}{a b:Addr}{o:HO}(h:H a=some o)(h':H b=none):a≠b:=by
 intro e;subst e;rw[h]at h';cases h'
def hU(oc:Obj)(q:Str):Prop:=∃vs t,oc.data=.fields vs∧vs[1]?=some (.str q t)
section
variable(P:Program)(w:World)
def b9(H:Hp)(h:Heap)(a:Addr):HO→Prop
 |.lst xs=>xs.length≤sizeLine∧∃(its:List Value)(n:Nat),Vals xs its∧h.get? a=some {cls:=.type "list",data:=.seq its.toArray n}
 |.tup xs=>xs.length≤sizeLine∧∃its:List Value,Vals xs its∧IsTup h a its.toArray
 |.dK kvs=>kvs.length≤sizeLine∧(a == sysModules)=false∧∃vs,KV kvs vs∧h.DictOf (fm P w) a vs
 | .dT kvs=>kvs.length≤sizeLine∧(a == sysModules)=false∧∃xs:List (List Key×Addr×Value),
   Paired (fun (p:List Key×V) (q:List Key×Addr×Value)=>p.1=q.1∧H q.2.1=some (.tup (p.1.map kV))∧RelV p.2 q.2.2) kvs xs ∧
   ∃o es ep,h.get? a=some o∧o.ExactDict∧o.data=.dict es ep∧es.toList=xs.map (entryOfKey (tupleKind (fm P w)))∧(xs.map (·.1)).Nodup
 |.set S n=>h.SetOf (intKind P w) a S n
 | .ins C dx fs=>H dx=some (.own a)∧fs.length≤1000∧dx≠a∧h.get? a=some (PySem.W.instObj C dx) ∧
   ∃mA,h.Ns1 dx mA∧(∀f,RelO (fs.lookup f) (mA f))∧PySem.Within mA (fs.map (·.1))
 |.own _=>∃o,h.get? a=some o
 |.xd fs=>∃mA,h.Ns1 a mA∧∀f,RelO (fs.lookup f) (mA f)
 |.rng lo hi=>∃ t u v,h.get? a=some {cls:=.type "range",data:=.fields #[.int lo t,.int hi u,.int 1 v] }
 |.frz o u=>h.get? a=some o∧b9 H h a u
 |.tbl q=>∃ps:Array Value,h.get? a=some {cls:=.none,data:=.fields ps}∧TriplesOk ps.toList∧∀pos cv,codeAmong pos ps.toList=some cv→∃c' oc,cv=.ref c'∧H c'=some (.frz oc (.own c'))∧hU oc q
 |.met f x=>h.get? a=some (PySem.W.methodObj (.ref f) (.ref x))
 |.ext φ=>φ h∧(∃o,h.get? a=some o)∧∀h1 h2:Heap,φ h1→(∀o,h1.get? a=some o→h2.get? a=some o)→φ h2
def HOk(H:Hp)(h:Heap):Prop:=∀a o,H a=some o→b9 P w H h a o
end
section
variable{P:Program}{w:World}{H H':Hp}{h h':Heap}{a:Addr}{o:HO}
theorem b9.lt(x:b9 P w H h a o):a<h.objs.size:=by
 cases o with
 |lst xs=>obtain⟨_,_,_,_,e⟩:=x;exact Heap.lt_size e
 |tup xs=>obtain⟨_,_,_,p⟩:=x;exact p.lt
 |dK kvs=>obtain⟨_,_,_,_,o,_,_,e,_⟩:=x;exact Heap.lt_size e
 |dT kvs=>obtain⟨_,_,_,_,o,_,_,e,_⟩:=x;exact Heap.lt_size e
 |set S n=>obtain⟨o,_,_,_,e,_⟩:=x;exact Heap.lt_size e
 |ins C dx fs=>obtain⟨_,_,_,e,_⟩:=x;exact Heap.lt_size e
 |own y=>obtain⟨_,e⟩:=x;exact Heap.lt_size e
 |xd fs=>obtain⟨_,⟨_,_,_,e,_⟩,_⟩:=x;exact Heap.lt_size e
 |rng lo hi=>obtain⟨_,_,_,e⟩:=x;exact Heap.lt_size e
 |frz ob u=>obtain⟨e,_⟩:=x;exact Heap.lt_size e
 |tbl q=>obtain⟨_,e,_⟩:=x;exact Heap.lt_size e
 |met f y=>exact Heap.lt_size (show h.get? a=some _ from x)
 |ext φ=>obtain⟨_,⟨_,e⟩,_⟩:=x;exact Heap.lt_size e
theorem Paired.mapP{α β:Type}{F G:α→β→Prop}:∀{l₁:List α}{l₂:List β},Paired F l₁ l₂→(∀a b,F a b→G a b)→Paired G l₁ l₂
 |_,_,.nil,_=>.nil
 |_,_,.cons r t,f=>.cons (f _ _ r) (Paired.mapP t f)
theorem b9.stay(x:b9 P w H h a o)(k:∀b u,(b=a∨H b=some (.own a))→h.get? b=some u→h'.get? b=some u)
  (ho:∀b,H b=some (.own a)→H' b=some (.own a)) (ht:∀b xs,H b=some (.tup xs)→H' b=some (.tup xs)) (hf:∀b o q,hU o q→H b=some (.frz o (.own b))→H' b=some (.frz o (.own b))):b9 P w H' h' a o:=by
 induction o with
 |lst xs=>obtain⟨z,its,n,r,e⟩:=x;exact⟨z,its,n,r,k _ _ (.inl rfl) e⟩
 |tup xs=>obtain⟨z,its,r,ob,e,c⟩:=x;exact⟨z,its,r,ob,k _ _ (.inl rfl) e,c⟩
 |dK kvs=>obtain⟨z,y,vs,r,ob,es,ep,e,c⟩:=x;exact⟨z,y,vs,r,ob,es,ep,k _ _ (.inl rfl) e,c⟩
 | dT kvs =>
  obtain⟨z,y,xs,r,ob,es,ep,e,c⟩:=x
  exact⟨z,y,xs,Paired.mapP r fun p q z=>⟨z.1,ht _ _ z.2.1,z.2.2⟩,ob,es,ep,k _ _ (.inl rfl) e,c⟩
 |set S n=>obtain⟨ob,es,ep,t,e,c⟩:=x;exact⟨ob,es,ep,t,k _ _ (.inl rfl) e,c⟩
 | ins C dx fs =>
  obtain⟨d,z,ne,e,mA,⟨od,es,ep,e2,c⟩,r⟩:=x
  exact⟨ho _ d,z,ne,k _ _ (.inl rfl) e,mA,⟨od,es,ep,k _ _ (.inr d) e2,c⟩,r⟩
 |own y=>obtain⟨ob,e⟩:=x;exact⟨ob,k _ _ (.inl rfl) e⟩
 |xd fs=>obtain⟨mA,⟨od,es,ep,e,c⟩,r⟩:=x;exact⟨mA,⟨od,es,ep,k _ _ (.inl rfl) e,c⟩,r⟩
 |rng lo hi=>obtain⟨t,u,v,e⟩:=x;exact⟨t,u,v,k _ _ (.inl rfl) e⟩
 |frz ob u ih=>obtain⟨e,q⟩:=x;exact⟨k _ _ (.inl rfl) e,ih q⟩
 | tbl q =>
  obtain⟨ps,e,tr,m⟩:=x
  exact⟨ps,k a _ (.inl rfl) e,tr,fun pos cv z=>let ⟨c',oc,a1,a2,a3⟩:=m pos cv z;⟨c',oc,a1,hf _ _ _ a3 a2,a3⟩⟩
 | met f y =>
  have e:h.get? a=some (PySem.W.methodObj (.ref f) (.ref y)):=x
  show h'.get? a=some (PySem.W.methodObj (.ref f) (.ref y))
  exact k a _ (.inl rfl) e
 |ext φ=>obtain⟨p,⟨o,e⟩,st⟩:=x;exact⟨st _ _ p fun o q=>k _ _ (.inl rfl) q,⟨o,k _ _ (.inl rfl) e⟩,st⟩
theorem HOk.lt(x:HOk P w H h)(e:H a=some o):a<h.objs.size:=(x a o e).lt
theorem HOk.fresh(x:HOk P w H h)(e:h.objs.size≤a):H a=none:=by
 cases q:H a with
 |none=>rfl
 |some u=>exact absurd (Nat.lt_of_lt_of_le (x.lt q) e) (Nat.lt_irrefl _)
theorem HOk.kept(x:HOk P w H h)(k:∀b u,h.get? b=some u→h'.get? b=some u):HOk P w H h':=fun a o e =>
 (x a o e).stay (fun b u _ q=>k b u q) (fun _ q=>q) (fun _ _ q=>q) fun _ _ _ _ q=>q
theorem HOk.laid(x:HOk P w H h)(k:∀b u,h.get? b=some u→h'.get? b=some u)(hp:h.objs.size≤a)(new:b9 P w (upd H a o) h' a o):HOk P w (upd H a o) h':=fun b u e=>by
 have hn:=x.fresh hp
 by_cases hb:b=a
 ·
  subst hb;rw[aC]at e;cases e;exact new
 ·
  rw[aj hb]at e
  exact(x b u e).stay (fun c v _ q=>k c v q) (fun c q=>by rw[aj (aL q hn)];exact q) (fun c xs q=>by rw[aj (aL q hn)];exact q) fun c ob _ _ q=>by rw[aj (aL q hn)];exact q
end
def Rd(H:Hp)(a:Addr)(u:HO):Prop:=H a=some u∨∃o,H a=some (.frz o u)
theorem Rd.ok{P:Program}{w:World}{H:Hp}{h:Heap}{a:Addr}{u:HO}(r:Rd H a u)(x:HOk P w H h):b9 P w H h a u:=by
 rcases r with r|⟨o,r⟩
 ·
  exact x a u r
 ·
  obtain⟨_,q⟩:=x a _ r
  exact q
def Mut:Option HO→Prop
 |some (.lst _)=>True
 |some (.dK _)=>True
 |some (.dT _)=>True
 |some (.set _ _)=>True
 |some (.ins _ _ _)=>True
 |some (.ext _)=>True
 |_=>False
section
variable{P:Program}{w:World}{H:Hp}{h h':Heap}{x e:Addr}{o':HO}
theorem HOk.write(ok:HOk P w H h)(mu:Mut (H x))(he:e=x∨H e=some (.own x))(k:∀b u,b≠e→h.get? b=some u→h'.get? b=some u)(heo:∃u,h'.get? e=some u)
  (new:b9 P w (upd H x o') h' x o'):HOk P w (upd H x o') h':=fun b u q=>by
 have nown:∀c y,H c=some (.own y)→c≠x:=fun c y r z=>by subst z;rw[r]at mu;exact mu
 have ntup:∀c xs,H c=some (.tup xs)→c≠x:=fun c xs r z=>by subst z;rw[r]at mu;exact mu
 have nfrz:∀c o u,H c=some (.frz o u)→c≠x:=fun c o u r z=>by subst z;rw[r]at mu;exact mu
 by_cases hb:b=x
 ·
  subst hb;rw[aC]at q;cases q;exact new
 ·
  rw[aj hb]at q
  by_cases hbe:b=e
  ·
   have q':H b=some (.own x):=by
    rcases he with z|z
    ·
     exact absurd (hbe.trans z) hb
    ·
     rw[hbe];exact z
   rw[q]at q';cases q'
   obtain⟨v,hv⟩:=heo
   exact⟨v,by rw[hbe];exact hv⟩
  ·
   refine(ok b u q).stay (fun c v hc r=>k c v ?_ r) (fun c r=>by rw[aj (nown c b r)];exact r) (fun c xs r=>by rw[aj (ntup c xs r)];exact r) fun c ob _ _ r=>by rw[aj (nfrz c ob _ r)];exact r
   rcases hc with rfl|hc
   ·
    exact hbe
   ·
    rintro rfl
    rcases he with z|z
    ·
     exact nown c b hc z
    ·
     rw[hc]at z;cases z;exact hb rfl
end
structure Un (fs ex:List Addr) (H H':Hp) (h h':Heap):Prop where
 keep:∀b o,h.get? b=some o→H b=none→b∉fs→b∉ex→h'.get? b=some o
 slot:∀b o,h.get? b=some o→H b=none→b∈fs→b∉ex→∃sl,h'.get? b=some {o with slots:=sl}
 free:∀b o,h.get? b=some o→H b=none→b∉ex→H' b=none
 there:∀b o,h.get? b=some o→b∉ex→∃o',h'.get? b=some o'
 tups:∀b xs,H b=some (.tup xs)→H' b=some (.tup xs)
 frzs:∀b o u,H b=some (.frz o u)→H' b=some (.frz o u)
 tbls:∀b q,H b=some (.tbl q)→H' b=some (.tbl q)
section
variable{fs fs' ex ex':List Addr}{H H1:Hp}{h h1 h':Heap}{a x e:Addr}{o:HO}
theorem Un.any(u:Un fs ex H H1 h h1){b:Addr}{ob:Obj}(q:h.get? b=some ob)(n:H b=none)(hx:b∉ex):∃sl,h1.get? b=some {ob with slots:=sl}:=by
 by_cases hb:b∈fs
 ·
  exact u.slot b ob q n hb hx
 ·
  exact⟨ob.slots,u.keep b ob q n hb hx⟩
theorem Un.kept(k:∀b u,h.get? b=some u→h'.get? b=some u):Un fs ex H H h h' :=
 ⟨fun b ob q _ _ _=>k b ob q,fun b ob q _ _ _=>⟨ob.slots,k b ob q⟩,fun _ _ _ n _=>n,fun b ob q _=>⟨ob,k b ob q⟩,fun _ _ q=>q,fun _ _ _ q=>q,fun _ _ q=>q⟩
theorem Un.refl:Un fs ex H H h h:=Un.kept fun _ _ q=>q
theorem Un.laid(k:∀b u,h.get? b=some u→h'.get? b=some u)(hp:h.objs.size≤a)(hn:H a=none):Un fs ex H (upd H a o) h h' where
 keep:=fun b u q _ _ _=>k b u q
 slot:=fun b u q _ _ _=>⟨u.slots,k b u q⟩
 free:=fun b u q n _=>by rw[aj (Nat.ne_of_lt (Nat.lt_of_lt_of_le (Heap.lt_size q) hp))];exact n
 there:=fun b u q _=>⟨u,k b u q⟩
 tups:=fun b xs q=>by rw[aj (aL q hn)];exact q
 frzs:=fun b u xs q=>by rw[aj (aL q hn)];exact q
 tbls:=fun b ps q=>by rw[aj (aL q hn)];exact q
theorem Un.write(mu:Mut (H x))(he:e=x∨H e=some (.own x))(k:∀b u,b≠e→h.get? b=some u→h'.get? b=some u)(heo:∃u,h'.get? e=some u):Un fs ex H (upd H x o) h h':=by
 have hx:∀b,H b=none→b≠x:=fun b n z=>by subst z;rw[n]at mu;exact mu
 have hb:∀b,H b=none→b≠e:=fun b n z=>by
  subst z
  rcases he with r|r
  ·
   exact hx b n r
  ·
   rw[n]at r;cases r
 have hm:∀b u,H b=some u→¬Mut (some u)→b≠x:=fun b u q nm z=>by subst z;rw[q]at mu;exact nm mu
 refine⟨fun b u q n _ _=>k b u (hb b n) q,fun b u q n _ _=>⟨u.slots,k b u (hb b n) q⟩,fun b u q n _=>by rw[aj (hx b n)];exact n,fun b u q _=>?_,
  fun b xs q=>by rw[aj (hm b _ q fun z=>z)];exact q,fun b u xs q=>by rw[aj (hm b _ q fun z=>z)];exact q,fun b ps q=>by rw[aj (hm b _ q fun z=>z)];exact q⟩
 by_cases hbe:b=e
 ·
  subst hbe;exact heo
 ·
  exact⟨u,k b u hbe q⟩
theorem Un.mono(u:Un fs ex H H1 h h1)(hs:∀b∈fs,b∈fs')(hx:∀b∈ex,b∈ex'):Un fs' ex' H H1 h h1 :=
 ⟨fun b ob q n hb he=>u.keep b ob q n (fun z=>hb (hs b z)) fun z=>he (hx b z),fun _ _ q n _ he=>u.any q n fun z=>he (hx _ z),fun b ob q n he=>u.free b ob q n fun z=>he (hx b z),fun b ob q he=>u.there b ob q fun z=>he (hx b z),u.tups,u.frzs,u.tbls⟩
end
def trk(h:Heap)(H:Hp):List Addr:=(List.range h.objs.size).filter fun a=>(H a).isSome
def hidT(h:Heap)(H:Hp):Heap:=PySem.W.hideAll h (trk h H)
theorem sV(h:Heap)(H:Hp):(hidT h H).objs.size=h.objs.size:=PySem.W.hideAll_size _ _
theorem vI{h:Heap}{H:Hp}{b:Addr}{o:Obj}(e:h.get? b=some o)(n:H b=none):(hidT h H).get? b=some o :=
 PySem.W.hideAll_get _ e fun hm=>by
  have q:(H b).isSome=true:=(List.mem_filter.mp hm).2
  rw[n]at q;simp at q
theorem yb{h:Heap}{H:Hp}{b:Addr}{o:Obj}(e:(hidT h H).get? b=some o):h.get? b=some o∧H b=none:=by
 have e':h.get? b=some o:=PySem.W.of_hideAll (trk h H) e
 refine⟨e',?_⟩
 cases q:H b with
 |none=>rfl
 | some x =>
  have hm:b∈trk h H:=List.mem_filter.mpr ⟨List.mem_range.mpr (Heap.lt_size e'),by simp[q]⟩
  have z:(hidT h H).get? b=none:=PySem.W.hideAll_none (trk h H) hm
  rw[z]at e;cases e
def yc(g h:Heap)(L:Addr):List (Addr×Obj):=(List.range h.objs.size).filterMap fun a=>if a=L∨(g.get? a).isSome=true then none else(h.get? a).map fun o=>(a,o)
def rest(g h:Heap)(L d:Addr):List (Addr×Obj):=(yc g h L).filter fun p=>decide (p.1≠d)
def Ar(mg:Str→Option Value)(h:Heap):Prop:=∃ bm ob,mg "__builtins__"=some (.ref bm)∧bm≠builtinsNs∧h.get? bm=some ob∧ob.cls=.type "module"∧ob.dict=some builtinsNs∧ob.data=.plain
def lamNames:List Str:=["look_at_asks","by_lesser_place","look_at_string"]
def lamQ(x:Str):Str:=(x++".<locals>.")++"<lambda>"
def Tbs(K:PySem.W.Frag)(H:Hp):Prop:=∀x∈lamNames,∀c P,PySem.W.tabIn K x=some (c,P)→H P=some (.tbl (lamQ x))
theorem Tbs.un{K:PySem.W.Frag}{fs ex:List Addr}{H H':Hp}{h h':Heap}(t:Tbs K H)(u:Un fs ex H H' h h'):Tbs K H':=fun x hx c P e=>u.tbls _ _ (t x hx c P e)
structure Mod (K:PySem.W.Frag) (mg:Str→Option Value) (base:Heap):Prop where
 kin:K.In base
 glob:base.Ns mainGlobals mg
 blt:∃ mb,base.Ns builtinsNs mb∧∀ x:Str,x≠"__name__"→mb x=bootBuiltins x
 nolimit:base.NoLimit
 sysm:∃mm,base.Ns sysModules mm
 bmn:Ar mg base
 cds:∀x∈lamNames,∀c P,PySem.W.tabIn K x=some (c,P)→PySem.W.CodeHd base c P
/-- the context: a def's body (or a comprehension's yd) running. base: fixed through the whole law;s₀,H₀: the entry;outer: the frames whose slots others may change (a def's callers);stack: all frames that run;
  ex: iterators that were made ahead of the entry and are walked here (a comprehension's);fn: the names whose cells were made at the entry (a def: all;a comprehension's yd: its own);calm: not sW an except suite;pn: pins that every state bears;xe: what is wanted of an exception that leaves the code -/
structure Cx where
 prog:Program
 w:World
 K:PySem.W.Frag
 mg:Str→Option Value
 base:Heap
 A:Around
 N:List Str
 s₀:Shared
 H₀:Hp
 env:Env
 outer:List Env
 stack:List Env
 ex:List Addr
 fn:Str→Bool
 calm:Bool
 pn:List (Addr×Obj)
 xe:Value→Shared→Prop
def frs(l:List Env):List Addr:=l.filterMap (·.frame)
abbrev Cx.fs(X:Cx):List Addr:=frs X.outer
def Vis(sc:Scope)(x:Str):Prop:=sc.names.lookup x=some .local∨sc.names.lookup x=some .cell∨sc.names.lookup x=some .free
def Loc(sc:Scope)(x:Str):Prop:=sc.names.lookup x=some .local∨sc.names.lookup x=some .cell
def Look(env:Env)(h:Heap)(m:Str→Option Value)(x:Str)(u:Value):Prop :=
 (env.kindOf x=some .local∧m x=some u)∨((env.kindOf x=some .cell∨env.kindOf x=some .free)∧∃c,env.cells.lookup x=some c∧h.IsCell c (some u))
structure Cx.Ok (X:Cx):Prop where
 mod:Mod X.K X.mg X.base
 kind:X.env.scope.kind=.function
 glob:X.env.globals=mainGlobals
 blt:X.env.builtins=builtinsNs
 above:X.s₀.heap.objs.size≤X.env.locals
 inj:∀x y c,X.env.cells.lookup x=some c→X.env.cells.lookup y=some c→x=y
 has:∀x,(X.env.kindOf x=some .cell∨X.env.kindOf x=some .free)→∃c,X.env.cells.lookup x=some c
 cab:∀x c,X.fn x=true→X.env.cells.lookup x=some c→X.s₀.heap.objs.size≤c
 hd:X.calm=true→X.A.handled=none
 frames:X.A.frames=some X.stack
 stk:X.stack=X.outer∨(X.stack=X.env::X.outer∧X.env.frame=some X.env.locals)
 exf:∀b∈X.ex,b≠X.env.locals∧∀x c,X.env.cells.lookup x=some c→c≠b
 bs:∀b o,X.base.get? b=some o→X.s₀.heap.get? b=some o∧X.H₀ b=none
 bsz:X.base.objs.size≤X.s₀.heap.objs.size
 noex:∀b o,X.base.get? b=some o→b∉X.ex
 exfs:∀b∈X.ex,b∉X.fs
 funs:X.s₀.heap.FunFrames X.base X.outer
 frf:∀b∈X.fs,X.H₀ b=none
 tbs:Tbs X.K X.H₀
structure Inv (X:Cx) (pins:List (Addr×Obj)) (σ:List (Option V)) (H:Hp) (s:Shared):Prop where
 ok:X.Ok
 os:s.os=X.s₀.os
 bare:AllBare s.gens
 base:Un X.fs X.ex X.H₀ H X.s₀.heap s.heap
 loc:∃m,s.heap.Ns X.env.locals m∧∀(i:Nat)(x:Str)(v:V),X.N[i]?=some x→σ[i]?=some (some v)→Vis X.env.scope x→∃u,RelV v u∧Look X.env s.heap m x u
 cell:∀x c,X.env.cells.lookup x=some c→∃v,s.heap.IsCell c v
 free:H X.env.locals=none
 freeC:∀x c,X.env.cells.lookup x=some c→H c=none∨(X.fn x=false∧∃o,H c=some (.frz o (.own c)))
 pin:∀p∈X.pn++pins,s.heap.get? p.1=some p.2∧H p.1=none∧p.1≠X.env.locals∧p.1∉X.fs∧∀v,p.2.data≠.cell v
 hok:HOk X.prog X.w H s.heap
 len:σ.length=X.N.length
section
variable{X:Cx}{pins:List (Addr×Obj)}{σ:List (Option V)}{H H':Hp}{s:Shared}{h':Heap}
theorem Cx.Ok.nofr(ok:X.Ok){b:Addr}{o:Obj}(e:X.base.get? b=some o):b∉X.fs:=fun hb=>by
 have:=(ok.funs.mem hb).1
 rw[e]at this;cases this
theorem Inv.bs(I:Inv X pins σ H s):∀b o,X.base.get? b=some o→s.heap.get? b=some o∧H b=none:=fun b o e =>
 ⟨I.base.keep b o (I.ok.bs b o e).1 (I.ok.bs b o e).2 (I.ok.nofr e) (I.ok.noex b o e),I.base.free b o (I.ok.bs b o e).1 (I.ok.bs b o e).2 (I.ok.noex b o e)⟩
theorem Inv.bk(I:Inv X pins σ H s):∀b o,X.base.get? b=some o→s.heap.get? b=some o:=fun b o e=>(I.bs b o e).1
theorem Inv.tbs(I:Inv X pins σ H s):Tbs X.K H:=I.ok.tbs.un I.base
theorem Inv.mod(I:Inv X pins σ H s):Mod X.K X.mg X.base:=I.ok.mod
theorem Inv.kIn(I:Inv X pins σ H s):X.K.In s.heap:=I.ok.mod.kin.keeps I.bk
theorem Inv.fr(I:Inv X pins σ H s):∃m,Fr X.base X.env.locals s.heap m :=
 let ⟨m,hn,_⟩:=I.loc
 ⟨m,hn,I.bk,Nat.le_trans I.ok.bsz I.ok.above⟩
theorem Inv.lt(I:Inv X pins σ H s):X.env.locals<s.heap.objs.size:=let ⟨_,hn,_⟩:=I.loc;hn.lt
theorem Inv.sz(I:Inv X pins σ H s):X.s₀.heap.objs.size≤s.heap.objs.size:=Nat.le_trans I.ok.above (Nat.le_of_lt I.lt)
theorem Inv.nofs(I:Inv X pins σ H s){a:Addr}(h:s.heap.objs.size≤a):a∉X.fs:=fun hb=>by
 obtain⟨_,o,ho,_⟩:=I.ok.funs.mem hb
 exact absurd (Nat.lt_of_lt_of_le (Heap.lt_size ho) (Nat.le_trans I.sz h)) (Nat.lt_irrefl _)
theorem Inv.cne(I:Inv X pins σ H s):∀x c,X.env.cells.lookup x=some c→c≠X.env.locals:=fun x c e z=>by
 obtain⟨v,o,ho,hd⟩:=I.cell x c e
 obtain⟨m,⟨o',es,ep,ho',hd',_⟩,_⟩:=I.loc
 rw[z,ho']at ho;cases ho;rw[hd']at hd;cases hd
theorem Inv.funs(I:Inv X pins σ H s):s.heap.FunFrames X.base X.outer:=by
 have all:∀(l:List Env),(∀b∈frs l,b∈X.fs)→X.s₀.heap.FunFrames X.base l→s.heap.FunFrames X.base l:=by
  intro l
  induction l with
  |nil=>intro _ _;trivial
  | cons env r ih =>
   intro hs hl
   obtain⟨hk,⟨L,o,hf,hn,ho,hd⟩,hr⟩:=hl
   have hL:L∈X.fs:=hs L (by unfold frs;rw[List.filterMap_cons,hf];exact List.mem_cons_self)
   obtain⟨sl,e⟩:=I.base.slot L o ho (I.ok.frf L hL) hL fun z=>I.ok.exfs L z hL
   exact⟨hk,⟨L,_,hf,hn,e,hd⟩,ih (fun b hb=>hs b (by unfold frs;rw[List.filterMap_cons,hf];exact List.mem_cons_of_mem _ hb)) hr⟩
 exact all X.outer (fun _ hb=>hb) I.ok.funs
theorem Inv.stack(I:Inv X pins σ H s):s.heap.FunFrames X.base X.stack:=by
 rcases I.ok.stk with e|⟨e,hf⟩
 ·
  rw[e];exact I.funs
 ·
  rw[e]
  obtain⟨m,hn,_⟩:=I.loc
  refine .cons (by rw[I.ok.kind];decide) hf hn ?_ I.funs
  exact Heap.get?_none_of_le (Nat.le_trans I.ok.bsz I.ok.above)
theorem Inv.stkSub(I:Inv X pins σ H s):∀b∈frs X.stack,b∈X.env.locals::X.fs:=fun b hb=>by
 rcases I.ok.stk with e|⟨e,hf⟩
 ·
  rw[e]at hb;exact List.mem_cons_of_mem _ hb
 ·
  rw[e]at hb
  unfold frs at hb
  rw[List.filterMap_cons,hf]at hb
  exact hb
theorem Inv.stkFree(I:Inv X pins σ H s):∀b∈frs X.stack,H b=none:=fun b hb=>by
 rcases List.mem_cons.mp (I.stkSub b hb)with e|hb
 ·
  rw[e];exact I.free
 ·
  obtain⟨_,o,ho,_⟩:=I.ok.funs.mem hb
  exact I.base.free b o ho (I.ok.frf b hb) fun z=>I.ok.exfs b z hb
theorem Inv.step{g':Array GenState}{t':Nat}{d':Drawn}{ch:List Addr}(I:Inv X pins σ H s)
  (hch:∀b∈ch,(b∈X.ex∨X.s₀.heap.objs.size≤b)∧b≠X.env.locals∧(∀x c,X.env.cells.lookup x=some c→c≠b)∧∀p∈X.pn++pins,p.1≠b)
  (keep:∀b o,b≠X.env.locals→b∉X.fs→b∉ch→s.heap.get? b=some o→H b=none→h'.get? b=some o)
  (slot:∀b o,b≠X.env.locals→b∈X.fs→b∉ch→s.heap.get? b=some o→H b=none→∃sl,h'.get? b=some {o with slots:=sl}) (free:∀b o,b∉ch→s.heap.get? b=some o→H b=none→H' b=none)
  (there:∀b o,b∉ch→s.heap.get? b=some o→∃o',h'.get? b=some o')
  (tups:∀b xs,H b=some (.tup xs)→H' b=some (.tup xs)) (frzs:∀b o u,H b=some (.frz o u)→H' b=some (.frz o u)) (tbls:∀b q,H b=some (.tbl q)→H' b=some (.tbl q))
  (ns:∀m,s.heap.Ns X.env.locals m→h'.Ns X.env.locals m) (hok:HOk X.prog X.w H' h') (hg:AllBare g') :
  Inv X pins σ H' {s with heap:=h',gens:=g',drawn:=d',toks:=t' }:=by
 have neL:∀b o,X.s₀.heap.get? b=some o→b≠X.env.locals:=fun b o e=>Nat.ne_of_lt (Nat.lt_of_lt_of_le (Heap.lt_size e) I.ok.above)
 have neC:∀b o,X.s₀.heap.get? b=some o→b∉X.ex→b∉ch:=fun b o e hx hb=>by
  rcases(hch b hb).1 with z|z
  ·
   exact hx z
  ·
   exact absurd (Nat.lt_of_lt_of_le (Heap.lt_size e) z) (Nat.lt_irrefl _)
 have cellK:∀x c,X.env.cells.lookup x=some c→∀v,s.heap.IsCell c v→h'.IsCell c v:=fun x c e v ⟨o,ho,hd⟩=>by
  have nch:c∉ch:=fun z=>(hch c z).2.2.1 x c e rfl
  rcases I.freeC x c e with hn|⟨_,o2,hz⟩
  ·
   by_cases hc:c∈X.fs
   ·
    obtain⟨sl,q⟩:=slot c o (I.cne x c e) hc nch ho hn
    exact⟨_,q,hd⟩
   ·
    exact⟨o,keep c o (I.cne x c e) hc nch ho hn,hd⟩
  ·
   have e1:=(I.hok c _ hz).1
   rw[ho]at e1;cases e1
   exact⟨o,(hok c _ (frzs c _ _ hz)).1,hd⟩
 refine⟨I.ok,I.os,hg,⟨fun b o e n hb hx=>?_,fun b o e n hb hx=>?_,fun b o e n hx=>?_,fun b o e hx=>?_,fun b xs e=>tups b xs (I.base.tups b xs e),fun b o xs e=>frzs b o xs (I.base.frzs b o xs e),fun b ps e=>?_⟩,?_,fun x c e=>?_,?_,fun x c e=>?_,fun p hp=>?_,hok,I.len⟩
 ·
  exact keep b o (neL b o e) hb (neC b o e hx) (I.base.keep b o e n hb hx) (I.base.free b o e n hx)
 ·
  obtain⟨sl,e1⟩:=I.base.slot b o e n hb hx
  obtain⟨sl',e2⟩:=slot b _ (neL b o e) hb (neC b o e hx) e1 (I.base.free b o e n hx)
  exact⟨sl',e2⟩
 ·
  obtain⟨o',e1⟩:=I.base.there b o e hx
  exact free b o' (neC b o e hx) e1 (I.base.free b o e n hx)
 ·
  obtain⟨o',e1⟩:=I.base.there b o e hx
  exact there b o' (neC b o e hx) e1
 ·
  exact tbls b ps (I.base.tbls b ps e)
 ·
  obtain⟨m,hn,hl⟩:=I.loc
  refine⟨m,ns m hn,fun i x v e1 e2 e3=>?_⟩
  obtain⟨u,r,l⟩:=hl i x v e1 e2 e3
  refine⟨u,r,?_⟩
  rcases l with l|⟨k,c,e,z⟩
  ·
   exact .inl l
  ·
   exact .inr ⟨k,c,e,cellK x c e _ z⟩
 ·
  obtain⟨v,z⟩:=I.cell x c e
  exact⟨v,cellK x c e v z⟩
 ·
  obtain⟨m,⟨o,_,_,ho,_⟩,_⟩:=I.loc
  exact free _ o (fun z=>(hch _ z).2.1 rfl) ho I.free
 ·
  obtain⟨v,o,ho,hd⟩:=I.cell x c e
  rcases I.freeC x c e with hn|⟨hf,o2,hz⟩
  ·
   exact .inl (free c o (fun z=>(hch c z).2.2.1 x c e rfl) ho hn)
  ·
   exact .inr ⟨hf,o2,frzs c _ _ hz⟩
 ·
  obtain⟨e,n,ne,nf,d⟩:=I.pin p hp
  have nch:p.1∉ch:=fun z=>(hch p.1 z).2.2.2 p hp rfl
  exact⟨keep p.1 p.2 ne nf nch e n,free p.1 p.2 nch e n,ne,nf,d⟩
theorem Inv.un{t':Nat}(I:Inv X pins σ H s)(u:Un X.fs [] H H' s.heap h')(hok:HOk X.prog X.w H' h'):Inv X pins σ H' {s with heap:=h',toks:=t' }:=by
 obtain⟨m,⟨o,es,ep,ho,r⟩,_⟩:=id I.loc
 obtain⟨sl,hL⟩:=u.any ho I.free (by simp)
 exact I.step (g':=s.gens) (d':=s.drawn) (ch:=[]) (fun _ z=>nomatch z) (fun b o _ hb _ e n=>u.keep b o e n hb (by simp)) (fun b o _ hb _ e n=>u.slot b o e n hb (by simp)) (fun b o _ e n=>u.free b o e n (by simp)) (fun b o _ e=>u.there b o e (by simp)) u.tups u.frzs u.tbls (fun m' hm=>by
  obtain⟨o',es',ep',ho',r'⟩:=hm
  rw[ho]at ho';cases ho'
  exact⟨_,es',ep',hL,r'⟩) hok I.bare
theorem Inv.call{g':Array GenState}{t':Nat}{d':Drawn}{ch:List Addr}(I:Inv X pins σ H s)(u:Un (frs X.stack) ch H H' s.heap h')(hok:HOk X.prog X.w H' h')(hg:AllBare g')
  (hch:∀b∈ch,(b∈X.ex∨X.s₀.heap.objs.size≤b)∧b≠X.env.locals∧(∀x c,X.env.cells.lookup x=some c→c≠b)∧∀p∈X.pn++pins,p.1≠b) :
  Inv X pins σ H' {s with heap:=h',gens:=g',drawn:=d',toks:=t' }:=by
 obtain⟨m,⟨o,es,ep,ho,r⟩,_⟩:=id I.loc
 obtain⟨sl,hL⟩:=u.any ho I.free fun z=>(hch _ z).2.1 rfl
 exact I.step (ch:=ch) hch (fun b o hL hb hc e n=>u.keep b o e n (fun z=>(List.mem_cons.mp (I.stkSub b z)).elim hL hb) hc) (fun b o _ _ hc e n=>u.any e n hc) (fun b o hc e n=>u.free b o e n hc) (fun b o hc e=>u.there b o e hc) u.tups u.frzs u.tbls (fun m' hm=>by
  obtain⟨o',es',ep',ho',r'⟩:=hm
  rw[ho]at ho';cases ho'
  exact⟨_,es',ep',hL,r'⟩) hok hg
theorem Inv.turned{t':Nat}{it:Addr}(I:Inv X pins σ H s)(k:∀b o,b≠it→s.heap.get? b=some o→h'.get? b=some o)(hn:H it=none)(hL:it≠X.env.locals)
  (h1:it∈X.ex∨X.s₀.heap.objs.size≤it) (h2:∀x c,X.env.cells.lookup x=some c→c≠it) (h3:∀p∈X.pn++pins,p.1≠it):Inv X pins σ H {s with heap:=h',toks:=t' }:=by
 have nit:∀b u,H b=some u→b≠it:=fun b u e z=>by rw[z,hn]at e;cases e
 refine I.step (g':=s.gens) (d':=s.drawn) (ch:=[it]) (fun b hb=>?_) (fun b o _ _ hc e _=>k b o (fun z=>hc (by simp[z])) e) (fun b o _ _ hc e _=>⟨o.slots,k b o (fun z=>hc (by simp[z])) e⟩) (fun _ _ _ _ n=>n)
  (fun b o hc e=>⟨o,k b o (fun z=>hc (by simp[z])) e⟩) (fun _ _ e=>e) (fun _ _ _ e=>e) (fun _ _ e=>e) (fun m hm=>?_) (fun b u e=>?_) I.bare
 ·
  have e:b=it:=by simpa using hb
  subst e
  exact⟨h1,hL,h2,h3⟩
 ·
  obtain⟨o,es,ep,ho,r⟩:=hm
  exact⟨o,es,ep,k _ o (Ne.symm hL) ho,r⟩
 ·
  refine(I.hok b u e).stay (fun c v hc q=>k c v ?_ q) (fun _ q=>q) (fun _ _ q=>q) fun _ _ _ _ q=>q
  rcases hc with z|z
  ·
   rw[z];exact nit b u e
  ·
   exact nit c _ z
theorem Inv.tok(I:Inv X pins σ H s)(t:Nat):Inv X pins σ H {s with toks:=t}:=I.un (h':=s.heap) (t':=t) Un.refl I.hok
theorem Inv.kept{t':Nat}(I:Inv X pins σ H s)(k:∀b u,s.heap.get? b=some u→h'.get? b=some u):Inv X pins σ H {s with heap:=h',toks:=t' }:=I.un (Un.kept k) (I.hok.kept k)
theorem Inv.laid{a:Addr}{o:HO}{t':Nat}(I:Inv X pins σ H s)(k:∀b u,s.heap.get? b=some u→h'.get? b=some u)(hp:s.heap.objs.size≤a)(new:b9 X.prog X.w (upd H a o) h' a o) :
  Inv X pins σ (upd H a o) {s with heap:=h',toks:=t' }:=I.un (Un.laid k hp (I.hok.fresh hp)) (I.hok.laid k hp new)
theorem Inv.write{x e:Addr}{o:HO}{t':Nat}(I:Inv X pins σ H s)(mu:Mut (H x))(he:e=x∨H e=some (.own x))(k:∀b u,b≠e→s.heap.get? b=some u→h'.get? b=some u)(heo:∃u,h'.get? e=some u)
  (new:b9 X.prog X.w (upd H x o) h' x o):Inv X pins σ (upd H x o) {s with heap:=h',toks:=t' }:=I.un (Un.write mu he k heo) (I.hok.write mu he k heo new)
theorem Inv.pins_of{pins':List (Addr×Obj)}(I:Inv X pins σ H s)(h:∀p∈pins',s.heap.get? p.1=some p.2∧H p.1=none∧p.1≠X.env.locals∧p.1∉X.fs∧∀v,p.2.data≠.cell v):Inv X pins' σ H s :=
 ⟨I.ok,I.os,I.bare,I.base,I.loc,I.cell,I.free,I.freeC,fun p hp=>(List.mem_append.mp hp).elim (fun z=>I.pin p (List.mem_append_left _ z)) (h p),I.hok,I.len⟩
theorem my{N:List Str}(hN:N.Nodup){i j:Nat}{x:Str}(a:N[i]?=some x)(b:N[j]?=some x):i=j:=by
 obtain⟨h1,e1⟩:=List.getElem?_eq_some_iff.mp a
 obtain⟨h2,e2⟩:=List.getElem?_eq_some_iff.mp b
 exact(List.getElem_inj hN).mp (e1.trans e2.symm)
theorem nk{M:Model}{A:Around}{E:Value→Shared→Prop}{i:Nat}{x:Str}{v:V}{u:Value}{Q:Unit→Shared→Prop}(I:Inv X pins σ H s)(hN:X.N.Nodup)(hi:X.N[i]?=some x)(hx:Loc X.env.scope x)(r:RelV v u)
  (h:∀s',Inv X pins (σ.set i (some v)) H s'→(∃a,Heap.SameBut a s.heap s'.heap∧(a=X.env.locals∨X.env.cells.lookup x=some a))→Q () s') (hf:X.fn x=true∨X.env.scope.names.lookup x=some .local:=by first|exact .inl rfl|exact .inr rfl|assumption):wpAny M A (storeName X.env x u) Q E s:=by
 obtain⟨m,hn,hl⟩:=id I.loc
 have hcls:(X.env.scope.kind == .class ||(X.env.scope.kind == .module && X.env.locals != X.env.globals))=false:=by rw[I.ok.kind];rfl
 have hiσ:i<σ.length:=by rw[I.len];exact(List.getElem?_eq_some_iff.mp hi).1
 have cne:=I.cne
 have tracked:∀{a:Addr}{h':Heap},(∃o,s.heap.get? a=some o∧H a=none)→Heap.SameBut a s.heap h'→HOk X.prog X.w H h':=fun {a h'} ha hs b ob e=>by
  obtain⟨_,_,hfree⟩:=ha
  refine(I.hok b ob e).stay (fun c w' hc q=>(hs.2 c ?_).trans q) (fun _ q=>q) (fun _ _ q=>q) fun _ _ _ _ q=>q
  rintro rfl
  rcases hc with rfl|hc
  ·
   rw[hfree]at e;cases e
  ·
   rw[hfree]at hc;cases hc
 rcases hx with hk|hk
 ·
  refine wpAny_storeName_local hk hn (fun h' hn' hs=>?_) hcls
  obtain⟨oL,_,_,hoL,_⟩:=id hn
  refine h _ ⟨I.ok,I.os,I.bare,⟨fun b o e n hb hx=>?_,fun b o e n hb hx=>?_,I.base.free,fun b o e hx=>?_,I.base.tups,I.base.frzs,I.base.tbls⟩,⟨_,hn',fun j y v' e1 e2 e3=>?_⟩,fun y c e=>?_,I.free,I.freeC,fun p hp=>?_,tracked ⟨oL,hoL,I.free⟩ hs,by simpa using I.len⟩ ⟨_,hs,.inl rfl⟩
  ·
   exact(hs.2 b (Nat.ne_of_lt (Nat.lt_of_lt_of_le (Heap.lt_size e) I.ok.above))).trans (I.base.keep b o e n hb hx)
  ·
   obtain⟨sl,e1⟩:=I.base.slot b o e n hb hx
   exact⟨sl,(hs.2 b (Nat.ne_of_lt (Nat.lt_of_lt_of_le (Heap.lt_size e) I.ok.above))).trans e1⟩
  ·
   obtain⟨o',e1⟩:=I.base.there b o e hx
   exact⟨o',(hs.2 b (Nat.ne_of_lt (Nat.lt_of_lt_of_le (Heap.lt_size e) I.ok.above))).trans e1⟩
  ·
   by_cases hj:j=i
   ·
    subst hj
    rw[hi]at e1;cases e1
    rw[List.getElem?_set_self hiσ]at e2
    cases e2
    exact⟨u,r,.inl ⟨hk,by simp⟩⟩
   ·
    rw[List.getElem?_set_ne (Ne.symm hj)]at e2
    obtain⟨u',r',q⟩:=hl j y v' e1 e2 e3
    refine⟨u',r',?_⟩
    rcases q with⟨k,e⟩|⟨k,c,e,z⟩
    ·
     refine .inl ⟨k,?_⟩
     have:y≠x:=fun e=>hj (my hN e1 (e ▸ hi))
     simp[this,e]
    ·
     exact .inr ⟨k,c,e,z.sameBut hs (cne y c e)⟩
  ·
   obtain⟨w',z⟩:=I.cell y c e
   exact⟨w',z.sameBut hs (cne y c e)⟩
  ·
   obtain⟨e,n,ne,nf,d⟩:=I.pin p hp
   exact⟨(hs.2 p.1 ne).trans e,n,ne,nf,d⟩
 ·
  have hfn:X.fn x=true:=by
   rcases hf with z|z
   ·
    exact z
   ·
    rw[z]at hk;cases hk
  obtain⟨c,hc⟩:=I.ok.has x (.inl hk)
  obtain⟨w',z⟩:=I.cell x c hc
  refine wpAny_storeName_cell I.ok.kind hk hc z (fun h' hc' hs=>?_)
  obtain⟨oc,hoc,hocd⟩:=id z
  refine h {s with heap:=h' } ⟨I.ok,I.os,I.bare,⟨fun b o e n hb hx=>?_,fun b o e n hb hx=>?_,I.base.free,fun b o e hx=>?_,I.base.tups,I.base.frzs,I.base.tbls⟩,⟨m,hn.sameBut hs (Ne.symm (cne x c hc)),fun j y v' e1 e2 e3=>?_⟩,fun y c' e=>?_,I.free,I.freeC,fun p hp=>?_,tracked ⟨oc,hoc,(I.freeC x c hc).resolve_right fun z=>by rw[hfn]at z;exact absurd z.1 (by decide)⟩ hs,by simpa using I.len⟩ ⟨c,hs,.inr hc⟩
  ·
   exact(hs.2 b (Nat.ne_of_lt (Nat.lt_of_lt_of_le (Heap.lt_size e) (I.ok.cab x c hfn hc)))).trans (I.base.keep b o e n hb hx)
  ·
   obtain⟨sl,e1⟩:=I.base.slot b o e n hb hx
   exact⟨sl,(hs.2 b (Nat.ne_of_lt (Nat.lt_of_lt_of_le (Heap.lt_size e) (I.ok.cab x c hfn hc)))).trans e1⟩
  ·
   obtain⟨o',e1⟩:=I.base.there b o e hx
   exact⟨o',(hs.2 b (Nat.ne_of_lt (Nat.lt_of_lt_of_le (Heap.lt_size e) (I.ok.cab x c hfn hc)))).trans e1⟩
  ·
   by_cases hj:j=i
   ·
    subst hj
    rw[hi]at e1;cases e1
    rw[List.getElem?_set_self hiσ]at e2
    cases e2
    exact⟨u,r,.inr ⟨.inl hk,c,hc,hc'⟩⟩
   ·
    rw[List.getElem?_set_ne (Ne.symm hj)]at e2
    obtain⟨u',r',q⟩:=hl j y v' e1 e2 e3
    refine⟨u',r',?_⟩
    rcases q with q|⟨k,c',e,z'⟩
    ·
     exact .inl q
    ·
     refine .inr ⟨k,c',e,z'.sameBut hs ?_⟩
     rintro rfl
     exact hj (my hN e1 (I.ok.inj _ _ _ e hc ▸ hi))
  ·
   by_cases hcc:c'=c
   ·
    subst hcc;exact⟨_,hc'⟩
   ·
    obtain⟨w2,z2⟩:=I.cell y c' e
    exact⟨w2,z2.sameBut hs hcc⟩
  ·
   obtain⟨e,n,ne,nf,d⟩:=I.pin p hp
   refine⟨(hs.2 p.1 ?_).trans e,n,ne,nf,d⟩
   intro q
   rw[q,hoc]at e
   have q':oc=p.2:=Option.some.inj e
   exact d w' (by rw[← q'];exact hocd)
theorem ft{M:Model}{A:Around}{E:Value→Shared→Prop}{i:Nat}{x:Str}{v:V}{u:Value}{Q:Unit→Shared→Prop}(I:Inv X pins σ H s)(hN:X.N.Nodup)(hi:X.N[i]?=some x)(hx:Loc X.env.scope x)(r:RelV v u)
  (h:∀s',Inv X pins (σ.set i (some v)) H s'→Q () s') (hf:X.fn x=true∨X.env.scope.names.lookup x=some .local:=by first|exact .inl rfl|exact .inr rfl|assumption):wpAny M A (storeName X.env x u) Q E s :=
 nk I hN hi hx r (fun s' I' _=>h s' I') hf
theorem Inv.call'{s':Shared}{ch:List Addr}(I:Inv X pins σ H s)(ho:s'.os=s.os)(u:Un (frs X.stack) ch H H' s.heap s'.heap)(hok:HOk X.prog X.w H' s'.heap)(hg:AllBare s'.gens)
  (hch:∀b∈ch,(b∈X.ex∨X.s₀.heap.objs.size≤b)∧b≠X.env.locals∧(∀x c,X.env.cells.lookup x=some c→c≠b)∧∀p∈X.pn++pins,p.1≠b):Inv X pins σ H' s':=by
 obtain⟨h',g',d',t',o'⟩:=s'
 have e:o'=s.os:=ho
 subst e
 exact I.call (g':=g') (t':=t') (d':=d') u hok hg hch
end
abbrev XK:=Value→Option Addr→Hp→Prop
abbrev St:=List (Option V)
abbrev VK:=V→Hp→Prop
abbrev TE:=St→Hp→VK→Prop
abbrev TT:=St→Hp→(Bool→Hp→Prop)→Prop
abbrev TA:=St→Hp→(List V→Hp→Prop)→Prop
structure Ends where
 nx:St→Hp→Prop
 rt:VK
 bk:St→Hp→Prop:=fun _ _=>False
 ct:St→Hp→Prop:=fun _ _=>False
abbrev TS:=Ends→St→Hp→Prop
def EP(X:Cx)(pins:List (Addr×Obj))(σ:St)(Q:VK)(u:Value)(s':Shared):Prop:=∃v H',Inv X pins σ H' s'∧RelV v u∧Q v H'
def TP(X:Cx)(pins:List (Addr×Obj))(σ:St)(Q:Bool→Hp→Prop)(b:Bool)(s':Shared):Prop:=∃H',Inv X pins σ H' s'∧Q b H'
def AP(X:Cx)(pins:List (Addr×Obj))(σ:St)(Q:List V→Hp→Prop)(us:List Value)(s':Shared):Prop:=∃vs H',Inv X pins σ H' s'∧Vals vs us∧Q vs H'
def SP(X:Cx)(pins:List (Addr×Obj))(D:Ends)(f:Flow)(s':Shared):Prop :=
 match f with
 |.next=>∃σ' H',Inv X pins σ' H' s'∧D.nx σ' H'
 |.brk=>∃σ' H',Inv X pins σ' H' s'∧D.bk σ' H'
 |.cont=>∃σ' H',Inv X pins σ' H' s'∧D.ct σ' H'
 |.ret u=>∃v σ' H',Inv X pins σ' H' s'∧RelV v u∧D.rt v H'
def PE(X:Cx)(e:Expr)(t:TE):Prop :=
 ∀(pins:List (Addr×Obj))(s:Shared)(σ:St)(H:Hp)(Q:VK),Inv X pins σ H s→t σ H Q→wpAny (model X.prog X.w) X.A (eval e X.env) (EP X pins σ Q) X.xe s
def PT(X:Cx)(e:Expr)(t:TT):Prop :=
 ∀(pins:List (Addr×Obj))(s:Shared)(σ:St)(H:Hp)(Q:Bool→Hp→Prop),Inv X pins σ H s→t σ H Q→wpAny (model X.prog X.w) X.A (isTrue e X.env (eval e X.env)) (TP X pins σ Q) X.xe s
def PA(X:Cx)(es:List Expr)(t:TA):Prop :=
 ∀(pos:Pos)(pins:List (Addr×Obj))(s:Shared)(σ:St)(H:Hp)(Q:List V→Hp→Prop),Inv X pins σ H s→t σ H Q→wpAny (model X.prog X.w) X.A (spliced (backTo pos (starEach es X.env))) (AP X pins σ Q) X.xe s
def PS(X:Cx)(st:Stmt)(t:TS):Prop :=
 ∀(pins:List (Addr×Obj))(s:Shared)(σ:St)(H:Hp)(D:Ends),Inv X pins σ H s→t D σ H→wpAny (model X.prog X.w) X.A (exec st X.env) (SP X pins D) X.xe s
def PSs(X:Cx)(st:List Stmt)(t:TS):Prop :=
 ∀(pins:List (Addr×Obj))(s:Shared)(σ:St)(H:Hp)(D:Ends),Inv X pins σ H s→t D σ H→wpAny (model X.prog X.w) X.A (execs st X.env) (SP X pins D) X.xe s
theorem thn{α:Type}{t:Sem α}{Q Q':α→Shared→Prop}{M:Model}{A:Around}{E:Value→Shared→Prop}{s:Shared}(h:wpAny M A t Q E s)(hQ:∀a s,Q a s→Q' a s):wpAny M A t Q' E s:=wpAny_mono h hQ fun _ _ x=>x
section
variable{X:Cx}
theorem bin{a b:Expr}{ta tb:TE}(ha:PE X a ta)(hb:PE X b tb){pins:List (Addr×Obj)}{s:Shared}{σ:St}{H:Hp}{R:V→V→Hp→Prop}(I:Inv X pins σ H s)(h:ta σ H fun x H1=>tb σ H1 fun y H2=>R x y H2)
  {α:Type} {Q:α→Shared→Prop} {f:Value→Value→Sem α}
  (hf:∀v u s2 x y H2,Inv X pins σ H2 s2→RelV x v→RelV y u→R x y H2→wpAny (model X.prog X.w) X.A (f v u) Q X.xe s2) :
  wpAny (model X.prog X.w) X.A (eval a X.env) (fun v s₁=>wpAny (model X.prog X.w) X.A (eval b X.env) (fun u s₂=>wpAny (model X.prog X.w) X.A (f v u) Q X.xe s₂) X.xe s₁) X.xe s:=by
 refine thn (ha pins s σ H _ I h) fun v s1 ⟨x,H1,I1,r1,q1⟩=>?_
 refine thn (hb pins s1 σ H1 _ I1 q1) fun u s2 ⟨y,H2,I2,r2,q2⟩=>?_
 exact hf v u s2 x y H2 I2 r1 r2 q2
def tVar(i:Nat):TE:=fun σ H Q=>∃v,σ[i]?=some (some v)∧Q v H
def tC(v:V):TE:=fun _ H Q=>Q v H
theorem dh{i:Nat}{x:Str}{pos:Pos}(hN:X.N[i]?=some x)(hv:Vis X.env.scope x) (hd:(x == ("__debug__" : Str))=false:=by decide) (hcd:(x == ("__classdict__" : Str))=false:=by decide):PE X (.Name x pos) (tVar i):=by
 intro pins s σ H Q I h
 obtain⟨v,e,h⟩:=h
 obtain⟨m,hn,hl⟩:=I.loc
 obtain⟨u,r,l⟩:=hl i x v hN e hv
 have fin:EP X pins σ Q u s:=⟨v,H,I,r,h⟩
 rcases l with⟨hk,hm⟩|⟨hk,c,hc,hcell⟩
 ·
  exact wpAny_Name (wpAny_loadName_local I.ok.kind hk hn hm fin) hd
 ·
  rcases hk with hk|hk
  ·
   exact wpAny_Name (wpAny_loadName_cell I.ok.kind hk hc hcell fin) hd
  ·
   exact wpAny_Name (wpAny_loadName_free I.ok.kind hk hc hcell fin hcd) hd
theorem As {i j pos}:PE X (.Constant (.int i) j pos) (tC (.int i)):=fun _ _ _ H _ I h=>wpAny_Constant_int ⟨.int i,H,I.tok _,⟨_,rfl⟩,h⟩
theorem B2 {b j pos}:PE X (.Constant (.bool b) j pos) (tC (.bl b)):=fun _ _ _ H _ I h=>Constant_bool ⟨.bl b,H,I,rfl,h⟩
theorem Au {j pos}:PE X (.Constant .none j pos) (tC .non):=fun _ _ _ H _ I h=>Constant_none ⟨.non,H,I,rfl,h⟩
theorem sX {x j pos}:PE X (.Constant (.str x) j pos) (tC (.str x)):=fun _ _ _ H _ I h=>Calls.Constant_str ⟨.str x,H,I.tok _,⟨_,rfl⟩,h⟩
def Gl(X:Cx)(x:Str):Prop:=X.env.kindOf x=some .globalImplicit
theorem eF{E:Value→Shared→Prop}{pins:List (Addr×Obj)}{s:Shared}{σ:St}{H:Hp}{x:Str}{u:Value}{pos:Pos}{Q:Value→Shared→Prop}(I:Inv X pins σ H s)(hg:Gl X x)(hm:X.mg x=some u)(h:Q u s)
  (hd:(x == ("__debug__" : Str))=false:=by decide):wpAny (model X.prog X.w) X.A (eval (.Name x pos) X.env) Q E s :=
 Calls.Name_function_global I.ok.kind hg (Calls.loadGlobal_global (by rw[I.ok.glob];exact I.mod.glob.keeps I.bk) hm h) hd
theorem jV{E:Value→Shared→Prop}{pins:List (Addr×Obj)}{s:Shared}{σ:St}{H:Hp}{x:Str}{u:Value}{pos:Pos}{Q:Value→Shared→Prop}(I:Inv X pins σ H s)(hg:Gl X x)(hm:X.mg x=none)(hv:bootBuiltins x=some u)(h:Q u s)
  (hn:x≠"__name__":=by decide) (hd:(x == ("__debug__" : Str))=false:=by decide):wpAny (model X.prog X.w) X.A (eval (.Name x pos) X.env) Q E s:=by
 obtain⟨mb,h1,h2⟩:=I.mod.blt
 exact Calls.Name_function_global I.ok.kind hg (Calls.loadGlobal_builtin (by rw[I.ok.glob];exact I.mod.glob.keeps I.bk) hm (by rw[I.ok.blt];exact h1.keeps I.bk) ((h2 x hn).trans hv) h) hd
theorem oS{x:Str}{v:V}{u:Value}{pos:Pos}(hg:Gl X x)(hm:X.mg x=some u)(r:RelV v u) (hd:(x == ("__debug__" : Str))=false:=by decide):PE X (.Name x pos) (tC v) :=
 fun _ _ _ H _ I h=>eF I hg hm ⟨v,H,I,r,h⟩ hd
theorem ye{x:Str}{v:V}{u:Value}{pos:Pos}(hg:Gl X x)(hm:X.mg x=none)(hv:bootBuiltins x=some u)(r:RelV v u) (hn:x≠"__name__":=by decide) (hd:(x == ("__debug__" : Str))=false:=by decide):PE X (.Name x pos) (tC v) :=
 fun _ _ _ H _ I h=>jV I hg hm hv ⟨v,H,I,r,h⟩ hn hd
variable{a b:Expr}{ta tb:TE}{pos:Pos}
def tB(t:TE):TT:=fun σ H Q=>t σ H fun x H1=>∃c,x=.bl c∧Q c H1
end
def SqL(K:PySem.W.Frag)(H:Hp)(a:Addr)(xs:List V):Prop :=
 Rd H a (.lst xs) ∨
  ∃(o:Obj)(its:Array Value)(n:Nat),K.lookup a=some o∧o.cls=.type "list"∧o.dict=none∧o.data=.seq its n∧its.size≤sizeLine∧Vals xs its.toList
def SqT(K:PySem.W.Frag)(H:Hp)(a:Addr)(xs:List V):Prop :=
 Rd H a (.tup xs) ∨
  ∃(o:Obj)(its:Array Value)(n:Nat),K.lookup a=some o∧o.cls=.type "tuple"∧o.data=.seq its n∧its.size≤sizeLine∧Vals xs its.toList
def absV:Value→Option V
 |.none=>some .non
 |.bool b=>some (.bl b)
 |.int i _=>some (.int i)
 |.str x _=>some (.str x)
 |.bytes b _=>some (.byt b)
 |.float b _=>some (.flt b)
 |.ref a=>some (.ref a)
 |.type n=>some (.ty n)
 |_=>none
theorem RelV.abs{x:V}{u:Value}(r:RelV x u):absV u=some x:=by
 cases x with
 |non=>cases r;rfl
 |bl _=>cases r;rfl
 |int _=>obtain⟨t,rfl⟩:=r;rfl
 |str _=>obtain⟨t,rfl⟩:=r;rfl
 |byt _=>obtain⟨t,rfl⟩:=r;rfl
 |flt _=>obtain⟨t,rfl⟩:=r;rfl
 |ref _=>cases r;rfl
 |ty _=>cases r;rfl
theorem RelV.inj{x y:V}{u:Value}(r:RelV x u)(q:RelV y u):x=y:=Option.some.inj (r.abs.symm.trans q.abs)
theorem Vals.inj:∀{xs ys:List V}{us:List Value},Vals xs us→Vals ys us→xs=ys
 |_,_,_,.nil,.nil=>rfl
 |_,_,_,.cons r t,.cons r' t'=>by rw[r.inj r',Vals.inj t t']
section
variable{X:Cx}{pins:List (Addr×Obj)}{σ:St}{H:Hp}{s:Shared}{a:Addr}{xs ys:List V}
theorem SqL.of{K:PySem.W.Frag}(h:H a=some (.lst xs)):SqL K H a xs:=.inl (.inl h)
theorem SqT.of{K:PySem.W.Frag}(h:H a=some (.tup xs)):SqT K H a xs:=.inl (.inl h)
theorem Inv.list(I:Inv X pins σ H s)(h:SqL X.K H a xs):∃its:List Value,Vals xs its∧PlainL s.heap a its.toArray∧xs.length≤sizeLine:=by
 rcases h with h|⟨o,its,n,hk,hc,hd,hs,hz,r⟩
 ·
  obtain⟨z,its,n,r,e⟩:=h.ok I.hok
  exact⟨its,r,⟨_,n,e,rfl,rfl,rfl⟩,z⟩
 ·
  refine⟨its.toList,r,⟨o,n,I.kIn a o hk,hc,hd,by simpa using hs⟩,?_⟩
  have e:=r.length
  simp only[Array.length_toList]at e
  omega
theorem Inv.tuple(I:Inv X pins σ H s)(h:SqT X.K H a xs):∃its:List Value,Vals xs its∧IsTup s.heap a its.toArray∧xs.length≤sizeLine:=by
 rcases h with h|⟨o,its,n,hk,hc,hs,hz,r⟩
 ·
  obtain⟨z,its,r,p⟩:=h.ok I.hok
  exact⟨its,r,p,z⟩
 ·
  refine⟨its.toList,r,⟨o,I.kIn a o hk,hc,n,by simpa using hs⟩,?_⟩
  have e:=r.length
  simp only[Array.length_toList]at e
  omega
theorem Inv.list_inj(I:Inv X pins σ H s)(h:SqL X.K H a xs)(h':SqL X.K H a ys):xs=ys:=by
 obtain⟨its,r,⟨o,n,e,_,_,d⟩,_⟩:=I.list h
 obtain⟨its',r',⟨o',n',e',_,_,d'⟩,_⟩:=I.list h'
 rw[e]at e';cases e'
 rw[d]at d'
 injection d' with d1 _
 have:its=its':=by simpa using congrArg Array.toList d1
 subst this
 exact r.inj r'
theorem Inv.tuple_inj(I:Inv X pins σ H s)(h:SqT X.K H a xs)(h':SqT X.K H a ys):xs=ys:=by
 obtain⟨its,r,⟨o,e,_,n,d⟩,_⟩:=I.tuple h
 obtain⟨its',r',⟨o',e',_,n',d'⟩,_⟩:=I.tuple h'
 rw[e]at e';cases e'
 rw[d]at d'
 injection d' with d1 _
 have:its=its':=by simpa using congrArg Array.toList d1
 subst this
 exact r.inj r'
end
abbrev Cx.wish(X:Cx)(E:Value→Shared→Prop):Cx:={X with xe:=E}
abbrev Cx.nox(X:Cx):Cx:=X.wish fun _ _=>False
theorem Cx.Ok.wish{X:Cx}(ok:X.Ok)(E:Value→Shared→Prop):(X.wish E).Ok :=
 ⟨ok.mod,ok.kind,ok.glob,ok.blt,ok.above,ok.inj,ok.has,ok.cab,ok.hd,ok.frames,ok.stk,ok.exf,ok.bs,ok.bsz,ok.noex,ok.exfs,ok.funs,ok.frf,ok.tbs⟩
theorem Cx.Ok.unwish{X:Cx}{E:Value→Shared→Prop}(ok:(X.wish E).Ok):X.Ok :=
 ⟨ok.mod,ok.kind,ok.glob,ok.blt,ok.above,ok.inj,ok.has,ok.cab,ok.hd,ok.frames,ok.stk,ok.exf,ok.bs,ok.bsz,ok.noex,ok.exfs,ok.funs,ok.frf,ok.tbs⟩
section
variable{X:Cx}{pins:List (Addr×Obj)}{σ:St}{H:Hp}{s:Shared}{E:Value→Shared→Prop}
theorem Inv.wish(I:Inv X pins σ H s)(E:Value→Shared→Prop):Inv (X.wish E) pins σ H s:=⟨I.ok.wish E,I.os,I.bare,I.base,I.loc,I.cell,I.free,I.freeC,I.pin,I.hok,I.len⟩
theorem Inv.unwish(I:Inv (X.wish E) pins σ H s):Inv X pins σ H s:=⟨I.ok.unwish,I.os,I.bare,I.base,I.loc,I.cell,I.free,I.freeC,I.pin,I.hok,I.len⟩
theorem SP.unwish{D:Ends}{f:Flow}{s':Shared}(h:SP (X.wish E) pins D f s'):SP X pins D f s':=by
 cases f with
 |next=>obtain⟨σ',H',I,q⟩:=h;exact⟨σ',H',I.unwish,q⟩
 |brk=>obtain⟨σ',H',I,q⟩:=h;exact⟨σ',H',I.unwish,q⟩
 |cont=>obtain⟨σ',H',I,q⟩:=h;exact⟨σ',H',I.unwish,q⟩
 |ret u=>obtain⟨v,σ',H',I,r,q⟩:=h;exact⟨v,σ',H',I.unwish,r,q⟩
theorem PSs.nox{st:List Stmt}{t:TS}(h:PSs X.nox st t):PSs X st t:=fun pins s σ H D I hw =>
 wpAny_mono (h pins s σ H D (I.wish _) hw) (fun _ _ q=>q.unwish) fun _ _ z=>False.elim z
end
section
variable{X:Cx}{st:Stmt}{rest:List Stmt}{t u:TS}{e:Expr}{te:TE}{pos:Pos}
def tSeq(t u:TS):TS:=fun D σ H=>t {D with nx:=u D} σ H
theorem mz(h1:PS X st t)(h2:PSs X rest u):PSs X (st::rest) (tSeq t u):=by
 intro pins s σ H D I h
 refine wpAny_execs_cons (thn (h1 pins s σ H {D with nx:=u D} I h) fun f s1 q=>?_)
 cases f with
 | next =>
  obtain⟨σ',H',I',q⟩:=q
  exact h2 pins s1 σ' H' D I' q
 |ret v=>exact q
 |brk=>exact q
 |cont=>exact q
theorem oT(h1:PS X st t):PSs X [st] t:=by
 intro pins s σ H D I h
 refine wpAny_execs_cons (thn (h1 pins s σ H D I h) fun f s1 q=>?_)
 cases f with
 |next=>exact wpAny_execs_nil q
 |ret v=>exact q
 |brk=>exact q
 |cont=>exact q
theorem Inv.quiet{pins:List (Addr×Obj)}{σ:St}{H:Hp}{s:Shared}(I:Inv X pins σ H s):interactive X.env=false:=by simp[interactive,I.ok.kind]
def vJ(te:TE):TS:=fun D σ H=>te σ H fun _ H1=>D.nx σ H1
theorem oU(he:PE X e te)(hs:swapsWith e none pos.line X.env=pure false:=by rfl):PS X (.Expr e pos) (vJ te):=by
 intro pins s σ H D I h
 exact wpAny_Expr_any (thn (he pins s σ H _ I h) fun v s1 ⟨x,H1,I1,r1,q1⟩=>⟨σ,H1,I1,q1⟩) I.quiet hs
end
abbrev TG:=V→St→Hp→(St→Hp→Prop)→Prop
abbrev TGs:=List V→St→Hp→(St→Hp→Prop)→Prop
def PG(X:Cx)(target:Expr)(t:TG):Prop :=
 ∀(pins:List (Addr×Obj))(s:Shared)(σ:St)(H:Hp)(v:V)(u:Value)(Q:St→Hp→Prop),Inv X pins σ H s→RelV v u→t v σ H Q →
  wpAny (model X.prog X.w) X.A (assign target X.env u) (fun _ s'=>∃σ' H',Inv X pins σ' H' s'∧Q σ' H') X.xe s
def PGs(X:Cx)(ts:List Expr)(t:TGs):Prop :=
 ∀(pins:List (Addr×Obj))(s:Shared)(σ:St)(H:Hp)(vs:List V)(us:List Value)(Q:St→Hp→Prop),Inv X pins σ H s→Vals vs us→t vs σ H Q →
  wpAny (model X.prog X.w) X.A (assignInOrder ((assignEach ts X.env).map (·.2)) us) (fun _ s'=>∃σ' H',Inv X pins σ' H' s'∧Q σ' H') X.xe s
abbrev TSet:=V→V→V→Hp→(Hp→Prop)→Prop
def PSet(X:Cx)(t:TSet):Prop :=
 ∀(pins:List (Addr×Obj))(s:Shared)(σ:St)(H:Hp)(o i v:V)(ov iv u:Value)(Q:Hp→Prop),Inv X pins σ H s→RelV o ov→RelV i iv→RelV v u→t o i v H Q →
  wpAny (model X.prog X.w) X.A (setItem ov iv u) (fun _ s'=>∃H',Inv X pins σ H' s'∧Q H') X.xe s
section
variable{X:Cx}{pos:Pos}
def B3(i:Nat):TG:=fun v σ H Q=>Q (σ.set i (some v)) H
theorem oV{i:Nat}{x:Str}(hN:X.N.Nodup)(hi:X.N[i]?=some x)(hx:Loc X.env.scope x)(hf:X.fn x=true∨X.env.scope.names.lookup x=some .local:=by first|exact .inl rfl|exact .inr rfl|assumption):PG X (.Name x pos) (B3 i):=by
 intro pins s σ H v u Q I r h
 exact wpAny_assign_Name (ft I hN hi hx r (fun s' I'=>⟨_,H,I',h⟩) hf)
def gNil:TGs:=fun vs σ H Q=>vs=[]∧Q σ H
def B4(t:TG)(u:TGs):TGs:=fun vs σ H Q=>∃v r,vs=v::r∧t v σ H fun σ' H'=>u r σ' H' Q
theorem yf:PGs X [] gNil:=by
 intro pins s σ H vs us Q I r h
 obtain⟨e,h⟩:=h
 subst e
 cases r
 exact assignInOrder_nil ⟨σ,H,I,h⟩
theorem vK{e:Expr}{es:List Expr}{t:TG}{u:TGs}(h1:PG X e t)(h2:PGs X es u)
  (hs:(assignEach (e::es) X.env).map (·.2)=assign e X.env::(assignEach es X.env).map (·.2):=by rfl):PGs X (e::es) (B4 t u):=by
 intro pins s σ H vs us Q I r h
 obtain⟨v,vr,e1,h⟩:=h
 subst e1
 cases r with
 | cons r rr =>
  rw[hs]
  refine assignInOrder_cons (thn (h1 pins s σ H _ _ _ I r h) fun _ s1 ⟨σ1,H1,I1,q1⟩=>?_)
  exact h2 pins s1 σ1 H1 _ _ Q I1 rr q1
def gTup(K:PySem.W.Frag)(n:Nat)(t:TGs):TG:=fun v σ H Q=>∃a xs,v=.ref a∧SqT K H a xs∧xs.length=n∧t xs σ H Q
theorem Av{es:List Expr}{k:Nat}{t:TGs}{n:Nat}(hc:X.calm=true)(h:PGs X es t)
  (hn:(assignEach es X.env).length=n:=by rfl) (hst:(assignEach es X.env).findIdx? (·.1)=none:=by rfl):PG X (.Tuple es k pos) (gTup X.K n t):=by
 intro pins s σ H v u Q I r hw
 obtain⟨a,xs,e1,hq,hl,hw⟩:=hw
 subst e1
 cases r
 obtain⟨its,rv,ht,hz⟩:=I.tuple hq
 refine assign_Tuple_tuple (I.ok.hd hc) ht (by simp[hn,← hl,rv.length]) hst fun h' hx=>?_
 have I1:Inv X pins σ H {s with heap:=h' }:=I.kept (t':=s.toks) fun b o e=>hx b o (Nat.ne_of_lt (Heap.lt_size e)) e
 exact h pins _ σ H xs _ Q I1 (by simpa using rv) hw
def gSub(to ti:TE)(t:TSet):TG:=fun v σ H Q=>to σ H fun o H1=>ti σ H1 fun i H2=>t o i v H2 fun H3=>Q σ H3
theorem Aw{o i:Expr}{to ti:TE}{t:TSet}(ho:PE X o to)(hi:PE X i ti)(hs:PSet X t)
  (ha:∀v,assign (.Subscript o i pos) X.env v=(do
   let ov ← holding [v] (eval o X.env)
   let iv ← holding [v,ov] (eval i X.env)
   standAt pos
   holding [v,ov,iv] (setItem ov iv v)
   release [v,ov,iv] []):=by intro _;rfl):PG X (.Subscript o i pos) (gSub to ti t):=by
 intro pins s σ H v u Q I r h
 rw[ha]
 refine wpAny_bind (wpAny_holding (thn (ho pins s σ H _ I h) fun ov s1 ⟨x,H1,I1,r1,q1⟩=>?_))
 refine wpAny_bind (wpAny_holding (thn (hi pins s1 σ H1 _ I1 q1) fun iv s2 ⟨y,H2,I2,r2,q2⟩=>?_))
 refine wpAny_bind (wpAny_standAt (wpAny_bind (wpAny_holding (thn (hs pins s2 σ H2 x y v ov iv u _ I2 r1 r2 r q2) fun _ s3 ⟨H3,I3,q3⟩=>?_))))
 exact wpAny_release ⟨σ,H3,I3,q3⟩
def tAsg(te:TE)(g:TG):TS:=fun D σ H=>te σ H fun x H1=>g x σ H1 D.nx
theorem Ax{tg e:Expr}{te:TE}{g:TG}(he:PE X e te)(hg:PG X tg g)(hs:swapsWithSole [tg] e pos.line X.env=pure false:=by rfl)(hw:swappedStores [tg] e X.env=pure none:=by rfl)
  (h1:(assignEach [tg] X.env).map (·.2)=[assign tg X.env]:=by rfl):PS X (.Assign [tg] e pos) (tAsg te g):=by
 intro pins s σ H D I h
 refine wpAny_Assign_stores (thn (he pins s σ H _ I h) fun v s1 ⟨x,H1,I1,r1,q1⟩=>?_) hs hw
 rw[h1]
 exact thn (hg pins s1 σ H1 x v _ I1 r1 q1) fun _ s2 q=>q
def tPar(i j:Nat)(ta:TA):TS:=fun D σ H=>ta σ H fun vs H1=>∃v w,vs=[v,w]∧D.nx ((σ.set i (some v)).set j (some w)) H1
theorem Ay{i j:Nat}{x y:Str}{a b:Expr}{ta:TA}{px py pt:Pos} {kt k2 pt2} (hc:X.calm=true) (hN:X.N.Nodup) (hi:X.N[i]?=some x) (hj:X.N[j]?=some y) (hij:i≠j)
  (hx:X.env.scope.names.lookup x=some .local) (hy:X.env.scope.names.lookup y=some .local) (ha:PA X [a,b] ta)
  (hw:swappedStores [.Tuple [.Name x px,.Name y py] kt pt] (.Tuple [a,b] k2 pt2) X.env=pure (some [x,y]))
  (hs:swapsWithSole [.Tuple [.Name x px,.Name y py] kt pt] (.Tuple [a,b] k2 pt2) pos.line X.env=pure false:=by rfl) :
  PS X (.Assign [.Tuple [.Name x px,.Name y py] kt pt] (.Tuple [a,b] k2 pt2) pos) (tPar i j ta):=by
 intro pins s σ H D I h
 rw[exec_Assign_arm]
 refine wpAny_bind (wpAny_standAt ?_)
 rw[hs]
 refine wpAny_bind (wpAny_pure ?_)
 rw[if_neg (by decide)]
 refine wpAny_bind (Tuple_ (thn (ha _ pins s σ H _ I h) fun us s1 ⟨vs,H1,I1,r1,q1⟩=>?_))
 obtain⟨v,w,e1,q1⟩:=q1
 subst e1
 obtain⟨u1,u2,rfl,rv,rw'⟩:∃u1 u2,us=[u1,u2]∧RelV v u1∧RelV w u2:=by
  cases r1 with
  | cons p q =>
   cases q with
   | cons p' q' =>
    cases q'
    exact⟨_,_,rfl,p,p'⟩
 refine wpAny_newObj_type ?_ (by show 2≤sizeLine;decide)
 have I2:Inv X pins σ H1 {s1 with heap:=s1.heap.push {cls:=.type "tuple",data:=.seq [u1,u2].toArray} }:=I1.kept (t':=s1.toks) fun b o e=>Heap.get?_push_of_some _ e
 rw[hw]
 refine wpAny_bind (wpAny_pure ?_)
 show wpAny (model X.prog X.w) X.A (do rule "assign.swapped-stores"; let items ← unpackItems (.ref s1.heap.objs.size) 2 none; assignInOrder [fun v=>bindName X.env y v,fun v=>bindName X.env x v] items.reverse; pure Flow.next) _ _ _
 refine wpAny_bind (wpAny_rule (wpAny_bind (unpackItems_tuple (items:=#[u1,u2]) (I.ok.hd hc) (IsTup.new s1.heap _) fun h' hx'=>?_)))
 have I3:=I2.kept (h':=h') (t':=s1.toks) fun b o e=>hx' b o (Nat.ne_of_lt (Heap.lt_size e)) e
 show wpAny _ _ (assignInOrder [fun v=>bindName X.env y v,fun v=>bindName X.env x v] [u2,u1] >>= fun _=>pure Flow.next) _ _ _
 refine wpAny_bind (assignInOrder_cons (wpAny_bindName (ft I3 hN hj (.inl hy) rw' (fun s2 I4=>?_) (.inr hy))))
 refine assignInOrder_cons (wpAny_bindName (ft I4 hN hi (.inl hx) rv (fun s3 I5=>assignInOrder_nil (wpAny_pure ?_)) (.inr hx)))
 rw[List.set_comm _ _ (Ne.symm hij)]at I5
 exact⟨_,H1,I5,q1⟩
end
section
variable{X:Cx}{pos:Pos}
def Az(c:TT)(tb:TS):TS:=fun D σ H=>∃W:Nat→St→Hp→Prop,(∃m,W m σ H)∧∀m σ H,W m σ H →
 c σ H fun b H1=>if b=true then ∃N:St→Hp→Prop,(∀σ' H',N σ' H'→∃m',m' < m∧W m' σ' H')∧tb {D with nx:=N,ct:=N,bk:=D.nx} σ H1 else D.nx σ H1
theorem vL{c:Expr}{body:List Stmt}{tc:TT}{tb:TS}(hp:PassesOwn (model X.prog X.w) X.A X.env X.xe)(hc:PT X c tc)(hb:PSs X body tb):PS X (.While c body [] pos) (Az tc tb):=by
 intro pins s σ H D I h
 obtain⟨W,⟨m0,w0⟩,turn⟩:=h
 refine wpAny_While (codeAny_whileLoop (fun n s'=>∃σ' H',Inv X pins σ' H' s'∧W n σ' H') ?_ m0 ⟨σ,H,I,w0⟩)
 rintro n s1 ⟨σ1,H1,I1,w1⟩
 refine wpAny_passesOwn hp (thn (hc pins s1 σ1 H1 _ I1 (turn n σ1 H1 w1)) fun b s2 ⟨H2,I2,q2⟩=>?_)
 cases b with
 | true =>
  obtain⟨N,hN,q2⟩:=q2
  rw[if_pos rfl]
  refine wpAny_passesOwn hp (thn (hb pins s2 σ1 H2 _ I2 q2) fun f s3 q3=>?_)
  cases f with
  | next =>
   obtain⟨σ3,H3,I3,n3⟩:=q3
   obtain⟨m',hm,w3⟩:=hN σ3 H3 n3
   exact⟨m',hm,σ3,H3,I3,w3⟩
  | cont =>
   obtain⟨σ3,H3,I3,n3⟩:=q3
   obtain⟨m',hm,w3⟩:=hN σ3 H3 n3
   exact⟨m',hm,σ3,H3,I3,w3⟩
  |brk=>exact q3
  |ret v=>exact q3
 | false =>
  rw[if_neg Bool.false_ne_true]
  exact wpAny_execs_nil ⟨σ1,H2,I2,q2⟩
end
structure It where
 go:Nat→Hp→Prop
 yld:Nat→Hp→V→Hp→Prop
 stop:Nat→Hp→Prop
def FpOk(X:Cx)(pins:List (Addr×Obj))(H:Hp)(b:Addr):Prop :=
 H b=none∧b≠X.env.locals∧b∉X.fs∧(b∈X.ex∨X.s₀.heap.objs.size≤b)∧(∀x c,X.env.cells.lookup x=some c→c≠b)∧∀p∈X.pn++pins,p.1≠b
theorem Inv.fpOk{X:Cx}{pins:List (Addr×Obj)}{σ:St}{H H':Hp}{s:Shared}{b:Addr}(I:Inv X pins σ H s)(hb:s.heap.objs.size≤b)(hn:H' b=none):FpOk X pins H' b:=by
 refine⟨hn,Nat.ne_of_gt (Nat.lt_of_lt_of_le I.lt hb),I.nofs hb,.inr (Nat.le_trans I.sz hb),fun x c e z=>?_,fun p hp z=>?_⟩
 ·
  obtain⟨v,q⟩:=I.cell x c e
  exact absurd (Nat.lt_of_lt_of_le q.lt (by rw[z];exact hb)) (Nat.lt_irrefl _)
 ·
  exact absurd (Nat.lt_of_lt_of_le (Heap.lt_size (I.pin p hp).1) (by rw[z];exact hb)) (Nat.lt_irrefl _)
structure Turn (P:Program) (w:World) (K:PySem.W.Frag) (tg:Expr) (J:It) (fp:List Addr) (it:Addr) (tn:Nat→Heap→Prop):Prop where
 mem:it∈fp
 obj:∀i h,tn i h→∀b∈fp,∃o,h.get? b=some o∧∀v,o.data≠.cell v
 keep:∀i h h',tn i h→(∀b∈fp,∀o,h.get? b=some o→h'.get? b=some o)→tn i h'
 item:∀(X:Cx),X.prog=P→X.w=w→X.K=K→X.calm=true→∀(i:Nat)(pins:List (Addr×Obj))(s:Shared)(σ:St)(H:Hp)(E:Value→Shared→Prop),Inv X pins σ H s→(∀b∈fp,FpOk X pins H b)→tn i s.heap→J.go i H →
  wpAny (model P w) X.A (pyNext (.ref it)) (fun r s1=>∃u,r=some u ∧
   wpAny (model P w) X.A (letOwnedTupleGo tg (.ref it) u) (fun _ s2=>∃x H',Inv X pins σ H' s2∧RelV x u∧J.yld i H x H'∧tn (i+1) s2.heap∧∀b∈fp,H' b=none) E s1) E s
 done:∀(X:Cx),X.prog=P→X.w=w→X.K=K→X.calm=true→∀(i:Nat)(pins:List (Addr×Obj))(s:Shared)(σ:St)(H:Hp)(E:Value→Shared→Prop),Inv X pins σ H s→(∀b∈fp,FpOk X pins H b)→tn i s.heap→J.stop i H →
  wpAny (model P w) X.A (pyNext (.ref it)) (fun r s1=>r=none∧Inv X pins σ H s1) E s
 self:∀(A:Around)(i:Nat)(s:Shared)(Q:Value→Shared→Prop)(E:Value→Shared→Prop),tn i s.heap→Q (.ref it) s→wpAny (model P w) A (pyIter (.ref it)) Q E s
abbrev TI:=St→Hp→(It→Hp→Prop)→Prop
def PIE(X:Cx)(pins:List (Addr×Obj))(σ:St)(tg:Expr)(R:It→Hp→Prop)(itv:Value)(s2:Shared):Prop :=
 ∃(it:Addr)(fp:List Addr)(tn:Nat→Heap→Prop)(J:It)(H':Hp),itv=.ref it∧Inv X pins σ H' s2∧Turn X.prog X.w X.K tg J fp it tn∧tn 0 s2.heap∧(∀b∈fp,FpOk X pins H' b)∧R J H'
def PI(X:Cx)(tg iter:Expr)(wi:TI):Prop :=
 ∀(pins:List (Addr×Obj))(s:Shared)(σ:St)(H:Hp)(R:It→Hp→Prop),Inv X pins σ H s→wi σ H R →
  wpAny (model X.prog X.w) X.A (eval iter X.env) (fun v s1=>wpAny (model X.prog X.w) X.A (pyIter v) (PIE X pins σ tg R) X.xe s1) X.xe s
theorem vM {M : Model} {A : Around} {E : Value → Shared → Prop} {s : Shared} {tg : Expr} {it : Addr} {u : Value} {o : Obj} {n : String} {vs : Array Value} {Q : Unit → Shared → Prop} (ho : s.heap.get? it = some o) (hc : o.cls = .type n) (hd : o.data = .fields vs)
    (hn : ["enumerate", "zip", "dict_itemiterator", "dict_reverseitemiterator", "odict_iterator", "itertools.zip_longest", "itertools.pairwise"].contains n = false) (hQ : Q () s) : wpAny M A (letOwnedTupleGo tg (.ref it) u) Q E s := by
  unfold letOwnedTupleGo
  cases tg<;>first
    |exact wpAny_pure hQ
    | (cases u<;>first
        |exact wpAny_pure hQ
        | (refine wpAny_bind (wpAny_load ho ?_)
           rw[hc, hd]
           show wpAny M A (if(["enumerate", "zip", "dict_itemiterator", "dict_reverseitemiterator", "odict_iterator", "itertools.zip_longest", "itertools.pairwise"].contains n && vs[0]? == some (rawInt _)) = true then _ else _) Q E s
           rw[if_neg (by intro h;rw[hn, Bool.false_and]at h;cases h)]
           exact wpAny_pure hQ))
def Itl(K:PySem.W.Frag)(a:Addr):It :=
 ⟨fun i H=>∃xs x,SqL K H a xs∧xs[i]?=some x,fun i H x H'=>H'=H∧∀xs,SqL K H a xs→xs[i]?=some x,fun i H=>∃xs,SqL K H a xs∧xs.length≤i⟩
def Itt(K:PySem.W.Frag)(a:Addr):It :=
 ⟨fun i H=>∃xs x,SqT K H a xs∧xs[i]?=some x,fun i H x H'=>H'=H∧∀xs,SqT K H a xs→xs[i]?=some x,fun i H=>∃xs,SqT K H a xs∧xs.length≤i⟩
def Itr(lo:Int)(n:Nat):It:=⟨fun i _=>i<n,fun i H x H'=>H'=H∧x=.int (lo+i),fun i _=>n≤i⟩
theorem sY{P:Program}{w:World}{K:PySem.W.Frag}{tg:Expr}(a it:Addr):Turn P w K tg (Itl K a) [it] it (fun i h=>h.IsListIter it a i) where
 mem:=by simp
 obj:=fun i h st b hb=>by
  have e:b=it:=by simpa using hb
  subst e
  obtain⟨o,e,c,d⟩:=st
  exact⟨o,e,fun v z=>by rw[d]at z;cases z⟩
 keep:=fun i h h' st k=>st.at fun o e=>k it (by simp) o e
 item:=by
  intro X hP hw hK hc i pins s σ H E I hf st hg
  subst hP hw hK
  obtain⟨xs,x,hq,hx⟩:=hg
  obtain⟨its,rv,p,hz⟩:=I.list hq
  obtain⟨u,hu,ru⟩:=rv.get hx
  obtain⟨f0,f1,f2,f3,f4,f5⟩:=hf it (by simp)
  refine wpAny_pyNext_list_item st p.isList (x:=u) (by simpa using hu) fun h' st' sb=>?_
  have I1:Inv X pins σ H {s with heap:=h' }:=I.turned (t':=s.toks) (fun b o hb e=>(sb.2 b hb).trans e) f0 f1 f3 f4 f5
  obtain⟨o,e,c,d⟩:=id st'
  exact⟨u,rfl,vM (s:={s with heap:=h' }) e c d (by decide) ⟨x,H,I1,ru,⟨rfl,fun ys hy=>by rw[I.list_inj hy hq];exact hx⟩,st',fun b hb=>(hf b hb).1⟩⟩
 done:=by
  intro X hP hw hK hc i pins s σ H E I hf st hg
  subst hP hw hK
  obtain⟨xs,hq,hx⟩:=hg
  obtain⟨its,rv,p,hz⟩:=I.list hq
  obtain⟨f0,f1,f2,f3,f4,f5⟩:=hf it (by simp)
  have hl:=rv.length
  exact wpAny_pyNext_list_end (I.ok.hd hc) st p.isList (by simp;omega) fun h' eb=>⟨rfl,I.turned (t':=s.toks) (fun b o hb e=>eb b o hb e) f0 f1 f3 f4 f5⟩
 self:=fun _ _ _ _ _ st h=>wpAny_pyIter_listiter st h
theorem rD{P:Program}{w:World}{K:PySem.W.Frag}{tg:Expr}(a it:Addr):Turn P w K tg (Itt K a) [it] it (fun i h=>h.IsTupleIter it a i) where
 mem:=by simp
 obj:=fun i h st b hb=>by
  have e:b=it:=by simpa using hb
  subst e
  obtain⟨o,e,c,d⟩:=st
  exact⟨o,e,fun v z=>by rw[d]at z;cases z⟩
 keep:=fun i h h' st k=>st.at fun o e=>k it (by simp) o e
 item:=by
  intro X hP hw hK hc i pins s σ H E I hf st hg
  subst hP hw hK
  obtain⟨xs,x,hq,hx⟩:=hg
  obtain⟨its,rv,p,hz⟩:=I.tuple hq
  obtain⟨u,hu,ru⟩:=rv.get hx
  obtain⟨f0,f1,f2,f3,f4,f5⟩:=hf it (by simp)
  refine wpAny_pyNext_tuple_item st (show s.heap.IsTuple a its.toArray from p) (x:=u) (by simpa using hu) fun h' st' sb=>?_
  have I1:Inv X pins σ H {s with heap:=h' }:=I.turned (t':=s.toks) (fun b o hb e=>(sb.2 b hb).trans e) f0 f1 f3 f4 f5
  obtain⟨o,e,c,d⟩:=id st'
  exact⟨u,rfl,vM (s:={s with heap:=h' }) e c d (by decide) ⟨x,H,I1,ru,⟨rfl,fun ys hy=>by rw[I.tuple_inj hy hq];exact hx⟩,st',fun b hb=>(hf b hb).1⟩⟩
 done:=by
  intro X hP hw hK hc i pins s σ H E I hf st hg
  subst hP hw hK
  obtain⟨xs,hq,hx⟩:=hg
  obtain⟨its,rv,p,hz⟩:=I.tuple hq
  obtain⟨f0,f1,f2,f3,f4,f5⟩:=hf it (by simp)
  have hl:=rv.length
  exact wpAny_pyNext_tuple_end (I.ok.hd hc) st (show s.heap.IsTuple a its.toArray from p) (by simp;omega) fun h' eb=>⟨rfl,I.turned (t':=s.toks) (fun b o hb e=>eb b o hb e) f0 f1 f3 f4 f5⟩
 self:=fun _ _ _ _ _ st h=>wpAny_pyIter_tupleiter st h
theorem rE{P:Program}{w:World}{K:PySem.W.Frag}{tg:Expr}(it:Addr)(lo:Int)(n:Nat):Turn P w K tg (Itr lo n) [it] it (fun i h=>IsRangeIter h it (lo+(i:Nat)*1) ((n:Int)-(i:Nat)) 1) where
 mem:=by simp
 obj:=fun i h st b hb=>by
  have e:b=it:=by simpa using hb
  subst e
  exact⟨_,st,fun v z=>by
   have z':Data.fields _=Data.cell v:=z
   cases z'⟩
 keep:=fun i h h' st k=>k it (by simp) _ st
 item:=by
  intro X hP hw hK hc i pins s σ H E I hf st hg
  subst hP hw hK
  obtain⟨f0,f1,f2,f3,f4,f5⟩:=hf it (by simp)
  have W:=Walks.range (prog:=X.prog) (w:=X.w) (I.ok.hd hc) it lo 1 n
  refine W.item i s _ _ hg st fun v h' tk hv st' kk=>?_
  obtain⟨t,rfl⟩:=hv
  have I1:Inv X pins σ H {s with heap:=h',toks:=tk}:=I.turned (fun b o hb e=>kk b o (by simpa using hb) e) f0 f1 f3 f4 f5
  refine⟨_,rfl,vM (s:={s with heap:=h',toks:=tk}) (n:="range_iterator") st' rfl rfl (by decide) ⟨.int (lo+i),H,I1,⟨t,?_⟩,⟨rfl,rfl⟩,st',fun b hb=>(hf b hb).1⟩⟩
  rw[Int.mul_one]
 done:=by
  intro X hP hw hK hc i pins s σ H E I hf st hg
  subst hP hw hK
  obtain⟨f0,f1,f2,f3,f4,f5⟩:=hf it (by simp)
  exact wpAny_pyNext_range_end (I.ok.hd hc) st (by have:n≤i:=hg;omega) fun h' eb=>⟨rfl,I.turned (t':=s.toks) (fun b o hb e=>eb b o hb e) f0 f1 f3 f4 f5⟩
 self:=fun _ _ _ _ _ st h=>wpAny_pyIter_rangeiter st h
section
variable{X:Cx}{tg:Expr}
theorem qm{pins:List (Addr×Obj)}{σ:St}{H:Hp}{s:Shared}{R:It→Hp→Prop}{E:Value→Shared→Prop}{lo hi:Int}{t u v:Tok}{tk:Nat}(I:Inv X pins σ H s)(h1 : -(2^62)≤lo)(h2:lo<2^62)(h3 : -(2^62)≤hi)(h4:hi<2^62)
  (q:R (Itr lo (hi-lo).toNat) H):wpAny (model X.prog X.w) X.A (pyIter (.ref s.heap.objs.size)) (PIE X pins σ tg R) E {s with heap:=s.heap.push {cls:=.type "range",data:=.fields #[.int lo t,.int hi u,.int 1 v] },toks:=tk}:=by
 refine wpAny_pyIter_range (IsRange.new ..) (small_one h1 h2 h3 h4) ?_
 have I1:Inv X pins σ H {s with heap:=s.heap.push {cls:=.type "range",data:=.fields #[.int lo t,.int hi u,.int 1 v] },toks:=tk}:=I.kept fun b o e=>Heap.get?_push_of_some _ e
 refine⟨(s.heap.push {cls:=.type "range",data:=.fields #[.int lo t,.int hi u,.int 1 v] }).objs.size,[(s.heap.push {cls:=.type "range",data:=.fields #[.int lo t,.int hi u,.int 1 v] }).objs.size],_,_,H,rfl,
  I1.kept (t':=tk) fun b o e=>Heap.get?_push_of_some _ e,rE _ lo (hi-lo).toNat,?_,fun b hb=>?_,q⟩
 ·
  have e1:lo+((0:Nat):Int)*1=lo:=by simp
  have e2:(((hi-lo).toNat:Nat):Int)-((0:Nat):Int)=Builtin.Range.rangeSize lo hi 1:=by rw[rangeSize_one];split<;>omega
  show IsRangeIter _ _ (lo+((0:Nat):Int)*1) ((((hi-lo).toNat:Nat):Int)-((0:Nat):Int)) 1
  rw[e1,e2]
  exact Heap.get?_push_size _ rfl
 ·
  have e:b=(s.heap.push {cls:=.type "range",data:=.fields #[.int lo t,.int hi u,.int 1 v] }).objs.size:=by simpa using hb
  subst e
  exact I1.fpOk (Nat.le_refl _) (I1.hok.fresh (Nat.le_refl _))
def B5(ta:TA):TI:=fun σ H R=>ta σ H fun vs H1=>∃j:Int,vs=[.int j]∧-(2^62)≤j∧j<2^62∧R (Itr 0 j.toNat) H1
def B6(ta:TA):TI:=fun σ H R=>ta σ H fun vs H1=>∃i j:Int,vs=[.int i,.int j]∧(-(2^62)≤i∧i<2^62∧-(2^62)≤j∧j<2^62)∧R (Itr i (j-i).toNat) H1
theorem td{a:Expr}{ta:TA}{p pos:Pos} (hg:Gl X "range") (hm:X.mg "range"=none) (ha:PA X [a] ta) (hs:starEach [a] X.env=[(false,eval a X.env)]:=by rfl):PI X tg (.Call (.Name "range" p) [a] [] pos) (B5 ta):=by
 intro pins s σ H R I h
 refine Call_ (jV I hg hm boot_range (PyProof.Rows.callWith_type1 (thn (ha pos pins s σ H _ I h) fun us s1 ⟨vs,H1,I1,r1,q1⟩=>?_) hs rfl))
 obtain⟨j,e,q1,q2,q⟩:=q1
 subst e
 cases r1 with
 | cons r rr =>
  cases rr
  obtain⟨t,rfl⟩:=r
  exact call_range_1 (qm I1 (by omega) (by omega) q1 q2 (by simpa using q))
theorem tj{a b:Expr}{ta:TA}{p pos:Pos} (hg:Gl X "range") (hm:X.mg "range"=none) (ha:PA X [a,b] ta) (hs:starEach [a,b] X.env=[(false,eval a X.env),(false,eval b X.env)]:=by rfl) (hs2:starEach [b] X.env=[(false,eval b X.env)]:=by rfl) :
  PI X tg (.Call (.Name "range" p) [a,b] [] pos) (B6 ta):=by
 intro pins s σ H R I h
 refine Call_ (jV I hg hm boot_range (PyProof.Rows.callWith_type1 (thn (ha pos pins s σ H _ I h) fun us s1 ⟨vs,H1,I1,r1,q1⟩=>?_) (by rw[hs,hs2]) (by rw[hs2];rfl)))
 obtain⟨i,j,e,⟨q1,q2,q3,q4⟩,q⟩:=q1
 subst e
 cases r1 with
 | cons r rr =>
  cases rr with
  | cons r' rr =>
   cases rr
   obtain⟨t,rfl⟩:=r
   obtain⟨t',rfl⟩:=r'
   exact call_range_2 (qm I1 q1 q2 q3 q4 q)
def nq(fp:List Addr)(h:Heap):List (Addr×Obj):=fp.filterMap fun b=>(h.get? b).map fun o=>(b,o)
theorem gW{fp:List Addr}{h:Heap}{b:Addr}{o:Obj}(hb:b∈fp)(e:h.get? b=some o):(b,o)∈nq fp h:=List.mem_filterMap.mpr ⟨b,hb,by rw[e];rfl⟩
theorem tw{fp:List Addr}{h:Heap}{p:Addr×Obj}(hp:p∈nq fp h):p.1∈fp∧h.get? p.1=some p.2:=by
 obtain⟨b,hb,e⟩:=List.mem_filterMap.mp hp
 cases q:h.get? b with
 |none=>rw[q]at e;cases e
 | some o =>
  rw[q]at e
  have e':(b,o)=p:=Option.some.inj e
  subst e'
  exact⟨hb,q⟩
theorem Inv.pinned{pins:List (Addr×Obj)}{σ:St}{H:Hp}{s:Shared}{fp:List Addr}(I:Inv X pins σ H s)(hf:∀b∈fp,FpOk X pins H b)(ho:∀b∈fp,∃o,s.heap.get? b=some o∧∀v,o.data≠.cell v):Inv X (pins++nq fp s.heap) σ H s :=
 I.pins_of fun p hp=>(List.mem_append.mp hp).elim (fun z=>I.pin p (List.mem_append_right _ z)) fun z=>by
  obtain⟨hb,e⟩:=tw z
  obtain⟨f0,f1,f2,_⟩:=hf p.1 hb
  obtain⟨o,e',d⟩:=ho p.1 hb
  rw[e]at e';cases e'
  exact⟨e,f0,f1,f2,d⟩
theorem Inv.unpinned{pins pl:List (Addr×Obj)}{σ:St}{H:Hp}{s:Shared}(I:Inv X (pins++pl) σ H s):Inv X pins σ H s:=I.pins_of fun p hp=>I.pin p (List.mem_append_right _ (List.mem_append_left _ hp))
end
abbrev R2:=V→V→Hp→VK→Prop
def OpR(X:Cx)(f:Value→Value→Sem Value)(r:R2):Prop :=
 ∀(pins:List (Addr×Obj))(s:Shared)(σ:St)(H:Hp)(x y:V)(v u:Value)(Q:VK),Inv X pins σ H s→RelV x v→RelV y u→r x y H Q →
  wpAny (model X.prog X.w) X.A (f v u) (EP X pins σ Q) X.xe s
def UnR(X:Cx)(f:Value→Sem Value)(r:V→Hp→VK→Prop):Prop :=
 ∀(pins:List (Addr×Obj))(s:Shared)(σ:St)(H:Hp)(x:V)(v:Value)(Q:VK),Inv X pins σ H s→RelV x v→r x H Q →
  wpAny (model X.prog X.w) X.A (f v) (EP X pins σ Q) X.xe s
def fT(X:Cx)(f:Value)(r:List V→Hp→VK→Prop):Prop :=
 ∀(pins:List (Addr×Obj))(s:Shared)(σ:St)(H:Hp)(xs:List V)(us:List Value)(Q:VK),Inv X pins σ H s→Vals xs us→r xs H Q →
  wpAny (model X.prog X.w) X.A (call f us) (EP X pins σ Q) X.xe s
def TruR(X:Cx)(r:V→Hp→(Bool→Hp→Prop)→Prop):Prop :=
 ∀(pins:List (Addr×Obj))(s:Shared)(σ:St)(H:Hp)(x:V)(v:Value)(Q:Bool→Hp→Prop),Inv X pins σ H s→RelV x v→r x H Q →
  wpAny (model X.prog X.w) X.A (truthy v) (TP X pins σ Q) X.xe s
def tOp(r:R2)(ta tb:TE):TE:=fun σ H Q=>ta σ H fun x H1=>tb σ H1 fun y H2=>r x y H2 Q
def rI(C:Int→Int→Prop)(g:Int→Int→V):R2:=fun x y H Q=>∃i j,x=.int i∧y=.int j∧C i j∧Q (g i j) H
def rI0(g:Int→Int→V):R2:=fun x y H Q=>∃i j,x=.int i∧y=.int j∧Q (g i j) H
def rU(g:Int→V):V→Hp→VK→Prop:=fun x H Q=>∃i,x=.int i∧Q (g i) H
section
variable{X:Cx}{a b:Expr}{ta tb:TE}
theorem binT(ha:PE X a ta)(hb:PE X b tb){pins:List (Addr×Obj)}{s:Shared}{σ:St}{H:Hp}{R:V→V→Hp→Prop}(I:Inv X pins σ H s)
  (h:ta σ H fun x H1=>tb σ H1 fun y H2=>R x y H2) {Q:Value→Shared→Prop} {f:Value→Value→Sem Value}
  (hf:∀v u s2 x y H2,Inv X pins σ H2 s2→RelV x v→RelV y u→R x y H2→wpAny (model X.prog X.w) X.A (f v u) Q X.xe s2) :
  wpAny (model X.prog X.w) X.A (eval a X.env) (fun v s₁=>wpAny (model X.prog X.w) X.A (eval b X.env) (fun u s₂=>wpAny (model X.prog X.w) X.A (f v u) Q X.xe s₂) X.xe s₁) X.xe s:=by
 refine thn (ha pins s σ H _ I h) fun v s1 ⟨x,H1,I1,r1,q1⟩=>?_
 refine thn (hb pins s1 σ H1 _ I1 q1) fun u s2 ⟨y,H2,I2,r2,q2⟩=>?_
 exact hf v u s2 x y H2 I2 r1 r2 q2
theorem opI{f:Value→Value→Sem Value}{C:Int→Int→Prop}{g:Int→Int→Int}
  (rule:∀(i j:Int)(t u:Tok)(s:Shared)(Q:Value→Shared→Prop)(E:Value→Shared→Prop),C i j→Q (.int (g i j) s.toks) {s with toks:=s.toks+1}→wpAny (model X.prog X.w) X.A (f (.int i t) (.int j u)) Q E s) :
  OpR X f (rI C fun i j=>.int (g i j)):=by
 intro pins s σ H x y v u Q I rx ry h
 obtain⟨i,j,rfl,rfl,hc,q⟩:=h
 obtain⟨t,rfl⟩:=rx
 obtain⟨t',rfl⟩:=ry
 exact rule i j t t' s _ _ hc ⟨.int (g i j),H,I.tok _,⟨_,rfl⟩,q⟩
theorem opI0{f:Value→Value→Sem Value}{g:Int→Int→Int}
  (rule:∀(i j:Int)(t u:Tok)(s:Shared)(Q:Value→Shared→Prop)(E:Value→Shared→Prop),Q (.int (g i j) s.toks) {s with toks:=s.toks+1}→wpAny (model X.prog X.w) X.A (f (.int i t) (.int j u)) Q E s) :
  OpR X f (rI0 fun i j=>.int (g i j)):=by
 intro pins s σ H x y v u Q I rx ry h
 obtain⟨i,j,rfl,rfl,q⟩:=h
 obtain⟨t,rfl⟩:=rx
 obtain⟨t',rfl⟩:=ry
 exact rule i j t t' s _ _ ⟨.int (g i j),H,I.tok _,⟨_,rfl⟩,q⟩
theorem opB0{f:Value→Value→Sem Value}{g:Int→Int→Bool}
  (rule:∀(i j:Int)(t u:Tok)(s:Shared)(Q:Value→Shared→Prop)(E:Value→Shared→Prop),Q (.bool (g i j)) s→wpAny (model X.prog X.w) X.A (f (.int i t) (.int j u)) Q E s) :
  OpR X f (rI0 fun i j=>.bl (g i j)):=by
 intro pins s σ H x y v u Q I rx ry h
 obtain⟨i,j,rfl,rfl,q⟩:=h
 obtain⟨t,rfl⟩:=rx
 obtain⟨t',rfl⟩:=ry
 exact rule i j t t' s _ _ ⟨.bl (g i j),H,I,rfl,q⟩
def CPow(i j:Int):Prop:=0≤j∧j≤1000000∧i.natAbs<2^64
def CMul(i j:Int):Prop:=(-(2^64)<i∧i<2^64)∨(-(2^64)<j∧j<2^64)
theorem CMul.ok{i j:Int}(h:CMul i j):IntMulOk i j:=by
 rcases h with⟨h1,h2⟩|⟨h1,h2⟩
 ·
  exact .of_left (intBits_le_64 h1 h2)
 ·
  exact .of_right (intBits_le_64 h1 h2)
theorem AA:OpR X (binaryOp .Add) (rI0 fun i j=>.int (i+j)):=opI0 fun _ _ _ _ _ _ _ q=>add_int q
theorem AB:OpR X (binaryOp .Sub) (rI0 fun i j=>.int (i-j)):=opI0 fun _ _ _ _ _ _ _ q=>sub_int q
theorem yg:OpR X (binaryOp .Mod) (rI (fun _ j=>j≠0) fun i j=>.int (i.fmod j)):=opI fun _ _ _ _ _ _ _ hc q=>mod_int' hc q
theorem AC:OpR X (binaryOp .Pow) (rI CPow fun i j=>.int (i^j.toNat)):=opI fun _ _ _ _ _ _ _ hc q=>pow_int_small hc.1 hc.2.1 hc.2.2 q
theorem unI{f:Value→Sem Value}{g:Int→Int}
  (rule:∀(i:Int)(t:Tok)(s:Shared)(Q:Value→Shared→Prop)(E:Value→Shared→Prop),Q (.int (g i) s.toks) {s with toks:=s.toks+1}→wpAny (model X.prog X.w) X.A (f (.int i t)) Q E s) :
  UnR X f (rU fun i=>.int (g i)):=by
 intro pins s σ H x v Q I rx h
 obtain⟨i,rfl,q⟩:=h
 obtain⟨t,rfl⟩:=rx
 exact rule i t s _ _ ⟨.int (g i),H,I.tok _,⟨_,rfl⟩,q⟩
theorem AD:UnR X (unaryOp .USub) (rU fun i=>.int (-i)):=unI fun _ _ _ _ _ q=>neg_int q
end
def scal:V→V→Bool
 |.non,.non=>true | .non,.int _=>true | .int _,.non=>true | .non,.bl _=>true | .bl _,.non=>true | .non,.str _=>true | .str _,.non=>true
 |.int _,.int _=>true | .bl _,.bl _=>true | .str _,.str _=>true | .byt _,.byt _=>true
 |.int _,.str _=>true | .str _,.int _=>true | .bl _,.str _=>true | .str _,.bl _=>true
 |_,_=>false
def rEq:R2:=fun x y H Q=>scal x y=true∧Q (.bl (decide (x=y))) H
def rNe:R2:=fun x y H Q=>scal x y=true∧Q (.bl (!decide (x=y))) H
theorem tD{i j:Int}:decide (V.int i=V.int j)=(i == j):=by
 rw[Bool.eq_iff_iff]
 simp
theorem xF{i j:Bool}:decide (V.bl i=V.bl j)=(i == j):=by
 rw[Bool.eq_iff_iff]
 simp
theorem tE{i j:Str}:decide (V.str i=V.str j)=(i == j):=by
 rw[Bool.eq_iff_iff]
 simp
theorem tF{i j:Array UInt8}:decide (V.byt i=V.byt j)=(i.toList == j.toList):=by
 rw[Bool.eq_iff_iff]
 cases i
 cases j
 simp
section
variable{X:Cx}{a b c:Expr}{ta tb tc:TE}{pos:Pos}
theorem a7{pins:List (Addr×Obj)}{σ:St}{H:Hp}{s:Shared}{Q:VK}{k k':Bool}(I:Inv X pins σ H s)(q:Q (.bl k) H)(e:k=k'):EP X pins σ Q (.bool k') s:=by
 subst e
 exact⟨.bl k,H,I,rfl,q⟩
theorem B7:OpR X (compareOp .Eq) rEq:=by
 intro pins s σ H x y v u Q I rx ry h
 obtain⟨hs,q⟩:=h
 cases x with
 | non =>
  cases rx
  cases y with
  |non=>cases ry;exact PySem.EqNone.eq_none_none (a7 I q (by simp))
  |bl j=>cases ry;exact PySem.EqNone.eq_none_bool (a7 I q (by simp))
  |int j=>obtain⟨t',rfl⟩:=ry;exact PySem.EqNone.eq_none_int (a7 I q (by simp))
  |str j=>obtain⟨t',rfl⟩:=ry;exact PySem.EqNone.eq_none_str (a7 I q (by simp))
  |_=>exact absurd (show false=true from hs) Bool.false_ne_true
 | bl i =>
  cases rx
  cases y with
  |non=>cases ry;exact PySem.EqNone.eq_bool_none (a7 I q (by simp))
  |bl j=>cases ry;exact eq_bool (a7 I q xF)
  |str j=>obtain⟨t',rfl⟩:=ry;exact PySem.EqMixed.eq_bool_str (a7 I q (by simp))
  |_=>exact absurd (show false=true from hs) Bool.false_ne_true
 | int i =>
  obtain⟨t,rfl⟩:=rx
  cases y with
  |non=>cases ry;exact PySem.EqNone.eq_int_none (a7 I q (by simp))
  |int j=>obtain⟨t',rfl⟩:=ry;exact eq_int (a7 I q tD)
  |str j=>obtain⟨t',rfl⟩:=ry;exact PySem.EqMixed.eq_int_str (a7 I q (by simp))
  |_=>exact absurd (show false=true from hs) Bool.false_ne_true
 | str i =>
  obtain⟨t,rfl⟩:=rx
  cases y with
  |non=>cases ry;exact PySem.EqNone.eq_str_none (a7 I q (by simp))
  |bl j=>cases ry;exact PySem.EqMixed.eq_str_bool (a7 I q (by simp))
  |int j=>obtain⟨t',rfl⟩:=ry;exact PySem.EqMixed.eq_str_int (a7 I q (by simp))
  |str j=>obtain⟨t',rfl⟩:=ry;exact eq_str (a7 I q tE)
  |_=>exact absurd (show false=true from hs) Bool.false_ne_true
 | byt i =>
  obtain⟨t,rfl⟩:=rx
  cases y with
  |byt j=>obtain⟨t',rfl⟩:=ry;exact PySem.W.eq_bytes (a7 I q tF)
  |_=>exact absurd (show false=true from hs) Bool.false_ne_true
 |_=>cases y<;>exact absurd (show false=true from hs) Bool.false_ne_true
theorem B8:OpR X (compareOp .NotEq) rNe:=by
 intro pins s σ H x y v u Q I rx ry h
 obtain⟨hs,q⟩:=h
 cases x with
 | non =>
  cases rx
  cases y with
  |non=>cases ry;exact PySem.EqNone.ne_none_none (a7 I q (by simp))
  |bl j=>cases ry;exact PySem.EqNone.ne_none_bool (a7 I q (by simp))
  |int j=>obtain⟨t',rfl⟩:=ry;exact PySem.EqNone.ne_none_int (a7 I q (by simp))
  |str j=>obtain⟨t',rfl⟩:=ry;exact PySem.EqNone.ne_none_str (a7 I q (by simp))
  |_=>exact absurd (show false=true from hs) Bool.false_ne_true
 | bl i =>
  cases rx
  cases y with
  |non=>cases ry;exact PySem.EqNone.ne_bool_none (a7 I q (by simp))
  |bl j=>cases ry;exact ne_bool (a7 I q (congrArg not xF))
  |str j=>obtain⟨t',rfl⟩:=ry;exact PySem.EqMixed.ne_bool_str (a7 I q (by simp))
  |_=>exact absurd (show false=true from hs) Bool.false_ne_true
 | int i =>
  obtain⟨t,rfl⟩:=rx
  cases y with
  |non=>cases ry;exact PySem.EqNone.ne_int_none (a7 I q (by simp))
  |int j=>obtain⟨t',rfl⟩:=ry;exact ne_int (a7 I q (congrArg not tD))
  |str j=>obtain⟨t',rfl⟩:=ry;exact PySem.EqMixed.ne_int_str (a7 I q (by simp))
  |_=>exact absurd (show false=true from hs) Bool.false_ne_true
 | str i =>
  obtain⟨t,rfl⟩:=rx
  cases y with
  |non=>cases ry;exact PySem.EqNone.ne_str_none (a7 I q (by simp))
  |bl j=>cases ry;exact PySem.EqMixed.ne_str_bool (a7 I q (by simp))
  |int j=>obtain⟨t',rfl⟩:=ry;exact PySem.EqMixed.ne_str_int (a7 I q (by simp))
  |str j=>obtain⟨t',rfl⟩:=ry;exact ne_str (a7 I q (congrArg not tE))
  |_=>exact absurd (show false=true from hs) Bool.false_ne_true
 | byt i =>
  obtain⟨t,rfl⟩:=rx
  cases y with
  |byt j=>obtain⟨t',rfl⟩:=ry;exact PySem.W.ne_bytes (a7 I q (congrArg not tF))
  |_=>exact absurd (show false=true from hs) Bool.false_ne_true
 |_=>cases y<;>exact absurd (show false=true from hs) Bool.false_ne_true
theorem AE:OpR X (compareOp .Lt) (rI0 fun i j=>.bl (decide (i<j))):=opB0 fun _ _ _ _ _ _ _ q=>lt_int q
theorem AF:OpR X (compareOp .LtE) (rI0 fun i j=>.bl (decide (i≤j))):=opB0 fun _ _ _ _ _ _ _ q=>le_int q
theorem B9:OpR X (compareOp .Gt) (rI0 fun i j=>.bl (decide (j<i))):=opB0 fun _ _ _ _ _ _ _ q=>gt_int q
theorem Ca:OpR X (compareOp .GtE) (rI0 fun i j=>.bl (decide (j≤i))):=opB0 fun _ _ _ _ _ _ _ q=>ge_int q
theorem AG:OpR X (compareOp .Is) (fun x y H Q=>y=.non∧Q (.bl (decide (x=.non))) H):=by
 intro pins s σ H x y v u Q I rx ry h
 obtain⟨rfl,q⟩:=h
 cases ry
 refine is_none_gen (a7 I q ?_)
 cases x<;>first
  |(cases rx;rfl)
  |(obtain⟨t,rfl⟩:=rx;rfl)
theorem yh:OpR X (compareOp .IsNot) (fun x y H Q=>y=.non∧Q (.bl (!decide (x=.non))) H):=by
 intro pins s σ H x y v u Q I rx ry h
 obtain⟨rfl,q⟩:=h
 cases ry
 refine isnot_none_gen (a7 I q ?_)
 cases x<;>first
  |(cases rx;rfl)
  |(obtain⟨t,rfl⟩:=rx;rfl)
theorem aG(b:Expr){op:CmpOp}(h:op≠.In:=by decide)(h2:op≠.NotIn:=by decide):behindInMarks op b=false:=by
 have e1:(op == CmpOp.In)=false:=by cases op<;>first|rfl|exact absurd rfl h
 have e2:(op == CmpOp.NotIn)=false:=by cases op<;>first|rfl|exact absurd rfl h2
 cases b<;>simp[behindInMarks,e1,e2]
def AH(t:TE):TT:=fun σ H Q=>t σ H fun x H'=>∃k,x=.bl k∧Q k H'
theorem Cb{op:CmpOp}{r:R2}(ho:OpR X (compareOp op) r)(ha:PE X a ta)(hb:PE X b tb)(hm:behindInMarks op b=false):PT X (.Compare a [op] [b] pos) (AH (tOp r ta tb)):=by
 intro pins s σ H Q I h
 refine wpAny_isTrue_Compare1 (thn (ha pins s σ H _ I h) fun v s1 ⟨x,H1,I1,r1,q1⟩=>thn (hb pins s1 σ H1 _ I1 q1) fun u s2 ⟨y,H2,I2,r2,q2⟩ =>
  thn (ho pins s2 σ H2 x y v u _ I2 r1 r2 q2) fun c s3 ⟨z,H3,I3,r3,k,e,q3⟩=>?_) hm
 subst e
 cases r3
 exact wpAny_truthy_bool ⟨H3,I3,q3⟩
def tG(r r':R2)(ta tb tc:TE):TE:=fun σ H Q=>ta σ H fun x H1=>tb σ H1 fun y H2=>r x y H2 fun z H3=>∃k,z=.bl k ∧
 (if k=true then tc σ H3 fun w' H4=>r' y w' H4 Q else Q (.bl false) H3)
theorem vN{op op':CmpOp}{r r':R2}(ho:OpR X (compareOp op) r)(ho':OpR X (compareOp op') r')(ha:PE X a ta)(hb:PE X b tb)(hc:PE X c tc)
  (hm:lastMarks [op,op'] [b,c]=false:=by with_unfolding_all rfl):PE X (.Compare a [op,op'] [b,c] pos) (tG r r' ta tb tc):=by
 intro pins s σ H Q I h
 refine Compare_chain (thn (ha pins s σ H _ I h) fun v s1 ⟨x,H1,I1,r1,q1⟩=>chain_link (thn (hb pins s1 σ H1 _ I1 q1) fun u s2 ⟨y,H2,I2,r2,q2⟩ =>
  thn (ho pins s2 σ H2 x y v u _ I2 r1 r2 q2) fun d s3 ⟨z,H3,I3,r3,k,e,q3⟩=>?_)) hm
 subst e
 cases r3
 refine wpAny_truthy_bool ?_
 cases k with
 |false=>exact ite_ff ⟨.bl false,H3,I3,rfl,q3⟩
 |true=>exact ite_tt (chain_last (thn (hc pins s3 σ H3 _ I3 q3) fun w' s4 ⟨z',H4,I4,r4,q4⟩=>ho' pins s4 σ H4 y z' u w' Q I4 r2 r4 q4))
theorem vO{op op':CmpOp}{r r':R2}(ho:OpR X (compareOp op) r)(ho':OpR X (compareOp op') r')(ha:PE X a ta)(hb:PE X b tb)(hc:PE X c tc)
  (hm:lastMarks [op,op'] [b,c]=false:=by with_unfolding_all rfl):PT X (.Compare a [op,op'] [b,c] pos) (AH (tG r r' ta tb tc)):=by
 intro pins s σ H Q I h
 refine isTrue_chain (thn (ha pins s σ H _ I h) fun v s1 ⟨x,H1,I1,r1,q1⟩=>test_link (thn (hb pins s1 σ H1 _ I1 q1) fun u s2 ⟨y,H2,I2,r2,q2⟩ =>
  thn (ho pins s2 σ H2 x y v u _ I2 r1 r2 q2) fun d s3 ⟨z,H3,I3,r3,k,e,q3⟩=>?_)) hm
 subst e
 cases r3
 refine wpAny_truthy_bool ?_
 cases k with
 | false =>
  obtain⟨k',e',q'⟩:=q3
  cases e'
  exact ite_ff ⟨H3,I3,q'⟩
 | true =>
  refine ite_tt (test_last (thn (hc pins s3 σ H3 _ I3 q3) fun w' s4 ⟨z',H4,I4,r4,q4⟩=>thn (ho' pins s4 σ H4 y z' u w' _ I4 r2 r4 q4) fun d' s5 ⟨z2,H5,I5,r5,k2,e2,q5⟩=>?_))
  subst e2
  cases r5
  exact wpAny_truthy_bool ⟨H5,I5,q5⟩
def TruV(K:PySem.W.Frag)(x:V)(H:Hp)(k:Bool):Prop :=
 match x with
 |.non=>k=false
 |.bl b=>k=b
 |.int i=>k=(i != 0)
 |.str y=>y.length≤sizeLine∧k=((y.length:Int) != 0)
 |.byt y=>y.size≤sizeLine∧k=((y.size:Int) != 0)
 |.ref p=>(∃xs,SqL K H p xs∧k=!xs.isEmpty)∨(∃xs,SqT K H p xs∧k=!xs.isEmpty)∨∃kvs,H p=some (.dK kvs)∧k=!kvs.isEmpty
 |_=>False
theorem rF{κ:Type}{kvs:List (κ×V)}{vs:List (κ×Value)}(r:KV kvs vs):(!vs.isEmpty)=!kvs.isEmpty:=by
 cases r<;>rfl
theorem l4{xs:List V}{its:List Value}(r:Vals xs its):(!its.toArray.isEmpty)=!xs.isEmpty:=by
 cases r<;>simp
theorem kG:(sizeLine:Nat)<2^63:=by rw[sizeLine_eq];decide
theorem AI:TruR X (fun x H Q=>∃k,TruV X.K x H k∧Q k H):=by
 intro pins s σ H x v Q I rx h
 obtain⟨k,e,q⟩:=h
 have hl:=kG
 have hs:sizeLine=16777216:=sizeLine_eq
 cases x with
 | non =>
  cases rx
  have e':k=false:=e
  subst e'
  exact truthy_none ⟨H,I,q⟩
 | bl b =>
  cases rx
  have e':k=b:=e
  subst e'
  exact wpAny_truthy_bool ⟨H,I,q⟩
 | int i =>
  obtain⟨t,rfl⟩:=rx
  have e':k=(i != 0):=e
  subst e'
  exact PySem.P.truthy_int ⟨H,I,q⟩
 | str y =>
  obtain⟨t,rfl⟩:=rx
  obtain⟨hy,e'⟩:y.length≤sizeLine∧k=((y.length:Int) != 0):=e
  subst e'
  exact PySem.P.truthy_str (by omega) ⟨H,I.tok _,q⟩
 | byt y =>
  obtain⟨t,rfl⟩:=rx
  obtain⟨hy,e'⟩:y.size≤sizeLine∧k=((y.size:Int) != 0):=e
  subst e'
  exact PySem.W.truthy_bytes (by omega) ⟨H,I.tok _,q⟩
 | ref p =>
  cases rx
  have e':(∃xs,SqL X.K H p xs∧k=!xs.isEmpty)∨(∃xs,SqT X.K H p xs∧k=!xs.isEmpty)∨∃kvs,H p=some (.dK kvs)∧k=!kvs.isEmpty:=e
  rcases e' with⟨xs,hx,e'⟩|⟨xs,hx,e'⟩|⟨kvs,hx,e'⟩
  ·
   subst e'
   obtain⟨its,r,pl,hz⟩:=I.list hx
   have hlen:=r.length
   exact wpAny_truthy_list pl.isList (by simp only[List.size_toArray];omega) ⟨H,I.tok _,by rw[l4 r];exact q⟩
  ·
   subst e'
   obtain⟨its,r,pl,hz⟩:=I.tuple hx
   have hlen:=r.length
   exact truthy_tuple pl (by simp only[List.size_toArray];omega) ⟨H,I.tok _,by rw[l4 r];exact q⟩
  ·
   subst e'
   obtain⟨hz,hS,vs,r,m⟩:kvs.length≤sizeLine∧(p == sysModules)=false∧∃vs,KV kvs vs∧s.heap.DictOf (fm X.prog X.w) p vs:=I.hok p _ hx
   have hlen:kvs.length=vs.length:=Paired.length r
   exact wpAny_truthy_dict hS m (by omega) ⟨H,I.tok _,by rw[rF r];exact q⟩
 |_=>exact(show False from e).elim
theorem vP(ha:PE X a ta)(he:∀whole,isTrue a X.env whole=(do let v ← whole;standAt a.pos;holding [v] (truthy v))) :
  PT X a (fun σ H Q=>ta σ H fun x H'=>∃k,TruV X.K x H' k∧Q k H'):=by
 intro pins s σ H Q I h
 exact isTrue_plain (thn (ha pins s σ H _ I h) fun v s1 ⟨x,H1,I1,r1,q1⟩=>AI pins s1 σ H1 x v Q I1 r1 q1) (he _)
theorem rG:OpR X (binaryOp .Add) (fun x y H Q=>∃i j,x=.str i∧y=.str j∧i.length+j.length≤sizeLine∧Q (.str (i++j)) H):=by
 intro pins s σ H x y v u Q I rx ry h
 obtain⟨i,j,rfl,rfl,hz,q⟩:=h
 obtain⟨t,rfl⟩:=rx
 obtain⟨t',rfl⟩:=ry
 exact add_str (fun t' tk=>⟨.str (i++j),H,I.tok _,⟨_,rfl⟩,q⟩) hz
theorem mB{x:V}{us:List Value}(r:Vals [x] us):∃u,us=[u]∧RelV x u:=by
 cases r with
 |cons r1 r2=>cases r2;exact⟨_,rfl,r1⟩
theorem rH{x y:V}{us:List Value}(r:Vals [x,y] us):∃u w',us=[u,w']∧RelV x u∧RelV y w':=by
 cases r with
 | cons r1 r2 =>
  cases r2 with
  |cons r3 r4=>cases r4;exact⟨_,_,rfl,r1,r3⟩
theorem vQ:fT X (.builtin "abs") (fun xs H Q=>∃ i,xs=[.int i]∧Q (.int (if i < 0 then -i else i)) H):=by
 intro pins s σ H xs us Q I r h
 obtain⟨i,rfl,q⟩:=h
 obtain⟨u,rfl,t,rfl⟩:=mB r
 exact call_abs_int fun u tk=>⟨.int (if i<0 then -i else i),H,I.tok _,⟨_,rfl⟩,q⟩
theorem tH(hc:X.calm=true):fT X (.builtin "max") (fun xs H Q=>∃ i j,xs=[.int i,.int j]∧Q (.int (if j > i then j else i)) H):=by
 intro pins s σ H xs us Q I r h
 obtain⟨i,j,rfl,q⟩:=h
 obtain⟨u,w',rfl,⟨t,rfl⟩,⟨t',rfl⟩⟩:=rH r
 refine max_two_ints (I.ok.hd hc) fun h' tk k=>⟨_,H,I.kept k,?_,q⟩
 by_cases hj:j > i
 ·
  rw[if_pos hj,if_pos hj];exact⟨_,rfl⟩
 ·
  rw[if_neg hj,if_neg hj];exact⟨_,rfl⟩
theorem tI(hc:X.calm=true):fT X (.builtin "min") (fun xs H Q=>∃ i j,xs=[.int i,.int j]∧Q (.int (if j < i then j else i)) H):=by
 intro pins s σ H xs us Q I r h
 obtain⟨i,j,rfl,q⟩:=h
 obtain⟨u,w',rfl,⟨t,rfl⟩,⟨t',rfl⟩⟩:=rH r
 refine min_two_ints (I.ok.hd hc) fun h' tk k=>⟨_,H,I.kept k,?_,q⟩
 by_cases hj:j<i
 ·
  rw[if_pos hj,if_pos hj];exact⟨_,rfl⟩
 ·
  rw[if_neg hj,if_neg hj];exact⟨_,rfl⟩
theorem tJ:fT X (.type "int") (fun xs H Q=>(∃ i,xs=[.int i]∧Q (.int i) H)∨∃ k,xs=[.bl k]∧Q (.int (if k then 1 else 0)) H):=by
 intro pins s σ H xs us Q I r h
 rcases h with⟨i,rfl,q⟩|⟨k,rfl,q⟩
 ·
  obtain⟨u,rfl,t,rfl⟩:=mB r
  exact call_int_int ⟨.int i,H,I,⟨_,rfl⟩,q⟩
 ·
  obtain⟨u,rfl,r1⟩:=mB r
  cases r1
  exact call_int_bool ⟨.int (if k then 1 else 0),H,I.tok _,⟨_,rfl⟩,q⟩
end
theorem tK{h:Heap}{dx:Addr}{mA:Str→Option Value}(n:h.Ns1 dx mA):∃od,h.get? dx=some od∧∀name,PySem.W.lookIn name od=some (mA name):=by
 obtain⟨o,es,ep,ho,hd,hk,_,hm⟩:=n
 refine⟨o,ho,fun name=>?_⟩
 have e:=hm name
 unfold nsFind findBy at e
 rw[← Array.find?_toList]at e
 unfold PySem.W.lookIn
 rw[hd]
 dsimp only
 split
 ·
  rename_i y q
  rw[q]at e
  exact congrArg some e
 ·
  rename_i q
  rw[q]at e
  have a:es.toList.any (·.refKey)=false:=by
   rw[List.any_eq_false]
   intro y hy
   obtain⟨z,t,hkey⟩:=hk y (Array.mem_toList_iff.mp hy)
   simp[DictEntry.refKey,hkey]
  have a':¬es.toList.any (·.refKey)=true:=by rw[a];exact Bool.false_ne_true
  rw[if_neg a']
  exact congrArg some e
theorem RelO.some_of{v:V}{o:Option Value}(r:RelO (some v) o):∃u,o=some u∧RelV v u:=by
 cases o with
 |none=>exact(show False from r).elim
 |some u=>exact⟨u,rfl,r⟩
section
variable{s:Shared}{f:Str}{A:Around}{E:Value→Shared→Prop}
theorem yi{prog:Program}{w:World}{env:Env}{e:Expr}{f:Str}{pos:Pos}{s:Shared}{Q:Value→Shared→Prop}(hb:attributeBase e f env (eval e env)=eval e env)
  (h:wpAny (model prog w) A (eval e env) (fun o s₁=>wpAny (model prog w) A (getAttr o f true) Q E s₁) E s):wpAny (model prog w) A (eval (.Attribute e f pos) env) Q E s :=
 Attribute_any_ h (by rw[arm_eval_Attribute,hb])
end
structure Room (k:Nat) (A:Around):Prop where
 hd:A.handled=none
 dp:A.depth+3*k+5<recursionLimit
 un:A.units+16*k+200<cLine
 gd:A.guards=some []
theorem Room.mono{j k:Nat}{A:Around}(r:Room k A)(h:j≤k):Room j A:=⟨r.hd,by have:=r.dp;omega,by have:=r.un;omega,r.gd⟩
theorem Room.deeper{k:Nat}{A:Around}(r:Room (k+1) A)(env:Env):Room k (A.deeper env) :=
 ⟨r.hd,by have:=r.dp;show A.depth+1+3*k+5<_;omega,by have:=r.un;show A.units+3+16*k+200<_;omega,r.gd⟩
theorem rJ{A:Around}{C:Addr}{us:List Value}{kw:List (Str×Value)}:(A.under (.builtin "type.__call__" ⟨.ref C::us,kw⟩)).depth=A.depth+1:=by
 first|rfl|simp[Around.under,Code.weight,Code.isCreation,Code.isGuard,Code.isCaller,Code.frames,Code.isFrame,guardIds]
theorem rK{A:Around}{C:Addr}{us:List Value}{kw:List (Str×Value)}:(A.under (.builtin "type.__call__" ⟨.ref C::us,kw⟩)).units=A.units+1:=by
 first|rfl|simp[Around.under,Code.cUnits,Code.frames,Code.isFrame]
theorem Room.make{k:Nat}{A:Around}(r:Room (k+1) A)(C:Addr)(us:List Value)(kw:List (Str×Value)):Room k (A.under (.builtin "type.__call__" ⟨.ref C::us,kw⟩)) :=
 ⟨r.hd,by have:=r.dp;rw[rJ];omega,by have:=r.un;rw[rK];omega,by rw[← r.gd];first|rfl|simp[Around.under,Code.guards,Code.isGuard,pushGuards,guardIds]⟩
theorem Room.depth{k:Nat}{A:Around}(r:Room k A):A.depth<recursionLimit:=by have:=r.dp;omega
theorem Room.units{k:Nat}{A:Around}(r:Room k A):A.units+64<cLine:=by have:=r.un;omega
def tNil:TA:=fun _ H Q=>Q [] H
def oW(ta:TE)(tr:TA):TA:=fun σ H Q=>ta σ H fun x H1=>tr σ H1 fun xs H2=>Q (x::xs) H2
section
variable{X:Cx}{e:Expr}{es:List Expr}{te:TE}{t:TA}{pos:Pos}
theorem fW:PA X [] tNil:=fun _ _ _ _ H Q I h=>Calls.spliced_nil ⟨[],H,I,.nil,h⟩
theorem bz(ha:PE X e te)(hr:PA X es t)(hs:starEach (e::es) X.env=(false,eval e X.env)::starEach es X.env:=by rfl):PA X (e::es) (oW te t):=by
 intro pos pins s σ H Q I h
 rw[hs]
 show wpAny _ _ (spliced ((false,eval e X.env)::backTo pos (starEach es X.env))) _ _ s
 refine Calls.spliced_cons (thn (ha pins s σ H _ I h) fun u s1 ⟨x,H1,I1,r1,q1⟩=>?_)
 exact thn (hr pos pins s1 σ H1 _ I1 q1) fun us s2 ⟨xs,H2,I2,r2,q2⟩=>⟨x::xs,H2,I2,.cons r1 r2,q2⟩
def tTup(t:TA):TE:=fun σ H Q=>t σ H fun xs H1=>xs.length≤sizeLine∧∀p,H1 p=none→Q (.ref p) (upd H1 p (.tup xs))
theorem AJ {x1} (h:PA X es t):PE X (.Tuple es x1 pos) (tTup t):=by
 intro pins s σ H Q I hq
 refine wpAny_Tuple_spliced (thn (h pos pins s σ H _ I hq) fun us s1 ⟨xs,H1,I1,r,z,q⟩=>⟨by rw[← r.length];exact z,?_⟩)
 have hf:H1 s1.heap.objs.size=none:=I1.hok.fresh (Nat.le_refl _)
 refine⟨.ref s1.heap.objs.size,upd H1 s1.heap.objs.size (.tup xs),I1.laid (t':=s1.toks) (fun b u e=>Heap.get?_push_of_some _ e) (Nat.le_refl _) ?_,rfl,q _ hf⟩
 exact⟨z,us,r,⟨_,Heap.get?_push_size _ rfl,rfl,_,rfl⟩⟩
end
abbrev Sp:=List V→Hp→VK→XK→Prop
abbrev CXT:=List Env→Hp→Shared→XK→Value→Shared→Prop
structure Env0 (P:Program) (w:World) (K:PySem.W.Frag) (mg:Str→Option Value) (base:Heap) (A:Around) (outer:List Env) (s:Shared) (H:Hp):Prop where
 frames:A.frames=some outer
 mod:Mod K mg base
 bs:∀b o,base.get? b=some o→s.heap.get? b=some o∧H b=none
 bsz:base.objs.size≤s.heap.objs.size
 funs:s.heap.FunFrames base outer
 frf:∀b∈frs outer,H b=none
 hok:HOk P w H s.heap
 bare:AllBare s.gens
 tbs:Tbs K H
def CE(outer:List Env)(P:Program)(w:World)(H:Hp)(s:Shared)(Q:VK)(u:Value)(s':Shared):Prop :=
 ∃v H',s'.os=s.os∧AllBare s'.gens∧Un (frs outer) [] H H' s.heap s'.heap∧HOk P w H' s'.heap∧RelV v u∧Q v H'
def CR(CX:CXT)(outer:List Env)(P:Program)(w:World)(H:Hp)(s:Shared)(Q:VK)(E:XK)(r:Result)(s':Shared):Prop :=
 match r with
 |.ok (.ret u)=>CE outer P w H s Q u s'
 |.ok _=>False
 |.error e=>CX outer H s E e s'
structure FnOk (P:Program) (w:World) (K:PySem.W.Frag) (mg:Str→Option Value) (base:Heap) (CX:CXT) (k:Nat) (f:Addr) (fd:FuncData) (ps:List Str) (sp:Sp):Prop where
 len:∀vs H Q E,sp vs H Q E→vs.length=ps.length
 run:∀(A:Around)(outer:List Env)(s:Shared)(H:Hp)(args:Args)(us:List Value)(vs:List V)(Q:VK)(E:XK),Room k A→Env0 P w K mg base A outer s H→BindsTo s fd args (ps.zip us)→Vals vs us→sp vs H Q E →
  codeAny (model P w) A (.call (.ref f) args) (CR CX outer P w H s Q E) s
theorem FnOk.mono{P:Program}{w:World}{K:PySem.W.Frag}{mg:Str→Option Value}{base:Heap}{CX:CXT}{j k:Nat}{f:Addr}{fd:FuncData}{ps:List Str}{sp:Sp}(F:FnOk P w K mg base CX j f fd ps sp)(h:j≤k) :
  FnOk P w K mg base CX k f fd ps sp:=⟨F.len,fun A outer s H args us vs Q E hr=>F.run A outer s H args us vs Q E (hr.mono h)⟩
theorem Env0.make{P:Program}{w:World}{K:PySem.W.Frag}{mg:Str→Option Value}{base:Heap}{A:Around}{outer:List Env}{s:Shared}{H:Hp}(e:Env0 P w K mg base A outer s H)(C:Addr)(us:List Value)(kw:List (Str×Value)) :
  Env0 P w K mg base (A.under (.builtin "type.__call__" ⟨.ref C::us,kw⟩)) outer s H:=⟨by first | exact e.frames | (simpa[Around.under,Code.envs,Code.isFrame,pushEnvs]using e.frames),e.mod,e.bs,e.bsz,e.funs,e.frf,e.hok,e.bare,e.tbs⟩
section
variable{X:Cx}{pins:List (Addr×Obj)}{σ:St}{H:Hp}{s s':Shared}
theorem Inv.env0(I:Inv X pins σ H s):Env0 X.prog X.w X.K X.mg X.base X.A X.stack s H :=
 ⟨I.ok.frames,I.ok.mod,I.bs,Nat.le_trans I.ok.bsz I.sz,I.stack,I.stkFree,I.hok,I.bare,I.tbs⟩
theorem Inv.after{Q:VK}{u:Value}(I:Inv X pins σ H s)(h:CE X.stack X.prog X.w H s Q u s'):EP X pins σ Q u s':=by
 obtain⟨v,H',os,bare,un,hok,r,q⟩:=h
 obtain⟨hh,g,d,t,os'⟩:=s'
 obtain rfl:os'=s.os:=os
 exact⟨v,H',I.call (h':=hh) (g':=g) (d':=d) (t':=t) (ch:=[]) un hok bare (fun b z=>absurd z (by simp)),r,q⟩
end
def iE(K:PySem.W.Frag)(fd:FuncData)(ps:List Str)(ds:List Value):Prop :=
 ∀(s:Shared)(us:List Value),K.In s.heap→(us++ds).length=ps.length→BindsTo s fd ⟨us,[]⟩ (ps.zip (us++ds))
theorem iE.all{K:PySem.W.Frag}{fd:FuncData}{ps:List Str}(h:∀us:List Value,us.length=ps.length→bindArgs fd ⟨us,[]⟩=pure (ps.zip us)):iE K fd ps []:=fun s us _ hl=>by
 rw[List.append_nil]at hl ⊢
 exact .of_eq (h us hl)
def qo(CX:CXT)(X:Cx)(E:XK):Prop:=∀(pins:List (Addr×Obj))(σ:St)(H:Hp)(s:Shared)(e:Value)(s':Shared),Inv X pins σ H s→CX X.stack H s E e s'→X.xe e s'
section
variable{X:Cx}{CX:CXT}{k:Nat}{f:Addr}{fd:FuncData}{ps:List Str}{sp:Sp}{dvs:List V}{ds:List Value}{E:XK}{e:Expr}
theorem tM{pins:List (Addr×Obj)}{σ:St}{H:Hp}{s:Shared}{Q:VK}{us:List Value}{vs:List V}(F:FnOk X.prog X.w X.K X.mg X.base CX k f fd ps sp)(hr:Room k X.A)(hb:iE X.K fd ps ds)(hd:Vals dvs ds)(hx:qo CX X E)
  (I:Inv X pins σ H s) (r:Vals vs us) (h:sp (vs++dvs) H Q E):wpAny (model X.prog X.w) X.A (call (.ref f) us) (EP X pins σ Q) X.xe s:=by
 have r2:Vals (vs++dvs) (us++ds):=r.append hd
 have hl:(us++ds).length=ps.length:=by rw[← r2.length];exact F.len _ _ _ _ h
 refine wpAny_call (codeAny_mono (F.run X.A X.stack s H ⟨us,[]⟩ (us++ds) (vs++dvs) Q E hr I.env0 (hb s us I.kIn hl) r2 h) fun r s' hq=>?_)
 cases r with
 |error e=>exact hx pins σ H s e s' I hq
 | ok fl =>
  cases fl with
  |ret u=>exact I.after hq
  |next=>exact False.elim hq
  |brk=>exact False.elim hq
  |cont=>exact False.elim hq
end
structure aI (N P:List Str) (sc:Scope):Prop where
 kind:sc.kind=.function
 co:sc.isCoroutine=false
 gen:sc.isGenerator=false
 nd:N.Nodup
 pre:N.take P.length=P
 par:∀x∈P,sc.names.lookup x=some .local∨sc.names.lookup x=some .cell
 nofree:∀y∈sc.names,y.2≠.free
theorem nr{kindOf:Str→Option NameKind}{x:Str}:∀{binds:List (Str×Value)}{m:Str→Option Value},(∀v,(x,v)∉binds)→bindL kindOf binds m x=m x
 |[],_,_=>rfl
 | (n,v)::r,m,h=>by
  unfold bindL
  rw[nr fun w hw=>h w (List.mem_cons_of_mem _ hw)]
  split
  ·
   have:x≠n:=by rintro rfl;exact h v List.mem_cons_self
   simp[this]
  ·
   rfl
theorem nu{kindOf:Str→Option NameKind}{x:Str}:∀{binds:List (Str×Value)}{m:Str→Option Value},(∀v,(x,v)∉binds)→bindC kindOf binds m x=m x
 |[],_,_=>rfl
 | (n,v)::r,m,h=>by
  unfold bindC
  rw[nu fun w hw=>h w (List.mem_cons_of_mem _ hw)]
  split
  ·
   rfl
  ·
   have:x≠n:=by rintro rfl;exact h v List.mem_cons_self
   simp[this]
theorem ny{kindOf:Str→Option NameKind}{x:Str}{v:Value}:∀{P:List Str}{vs:List Value}{i:Nat}{m:Str→Option Value},P.Nodup→P[i]?=some x→vs[i]?=some v→kindOf x=some .local →
  bindL kindOf (P.zip vs) m x=some v
 |[],_,_,_,_,h,_,_=>by simp at h
 |_::_,[],_,_,_,_,h,_=>by simp at h
 | p::P,w::vs,0,m,nd,h1,h2,hk=>by
  simp at h1 h2;subst h1;subst h2
  show bindL kindOf ((p,w)::P.zip vs) m p=_
  unfold bindL
  rw[nr fun v hv=>(List.nodup_cons.mp nd).1 (List.of_mem_zip hv).1,if_pos hk]
  simp
 | p::P,w::vs,i+1,m,nd,h1,h2,hk=>by
  show bindL kindOf ((p,w)::P.zip vs) m x=_
  unfold bindL
  exact ny (i:=i) (List.nodup_cons.mp nd).2 (by simpa using h1) (by simpa using h2) hk
theorem nB{kindOf:Str→Option NameKind}{x:Str}{v:Value}:∀{P:List Str}{vs:List Value}{i:Nat}{m:Str→Option Value},P.Nodup→P[i]?=some x→vs[i]?=some v→kindOf x≠some .local →
  bindC kindOf (P.zip vs) m x=some v
 |[],_,_,_,_,h,_,_=>by simp at h
 |_::_,[],_,_,_,_,h,_=>by simp at h
 | p::P,w::vs,0,m,nd,h1,h2,hk=>by
  simp at h1 h2;subst h1;subst h2
  show bindC kindOf ((p,w)::P.zip vs) m p=_
  unfold bindC
  rw[nu fun v hv=>(List.nodup_cons.mp nd).1 (List.of_mem_zip hv).1,if_neg hk]
  simp
 | p::P,w::vs,i+1,m,nd,h1,h2,hk=>by
  show bindC kindOf ((p,w)::P.zip vs) m x=_
  unfold bindC
  exact nB (i:=i) (List.nodup_cons.mp nd).2 (by simpa using h1) (by simpa using h2) hk
def iF(N:List Str)(vs:List V):St:=vs.map some++List.replicate (N.length-vs.length) none
def cxOf(CX:CXT)(P:Program)(w:World)(K:PySem.W.Frag)(mg:Str→Option Value)(base:Heap)(N:List Str)(qual:Str)(scope:Scope)(f:Addr)(cd:Value)(A:Around)(outer:List Env)(s:Shared)(H:Hp)(E:XK):Cx where
 prog:=P
 w:=w
 K:=K
 mg:=mg
 base:=base
 A:=A.deeper (envOfC qual scope s.heap.objs.size f cd)
 N:=N
 s₀:=s
 H₀:=H
 env:=envOfC qual scope s.heap.objs.size f cd
 outer:=outer
 stack:=envOfC qual scope s.heap.objs.size f cd::outer
 ex:=[]
 calm:=true
 fn:=fun _=>true
 pn:=[]
 xe:=fun e s'=>wpAny (model P w) (A.deeper (envOfC qual scope s.heap.objs.size f cd)) (leaving (envOfC qual scope s.heap.objs.size f cd) e) (fun _ s''=>CX outer H s E e s'') (fun e' s''=>CX outer H s E e' s'') s'
theorem qp{sc:Scope}{n:Nat}{x:Str}(h:sc.names.lookup x=some .cell):∃c,(cellsFrom n sc.names []).lookup x=some c:=by
 have q:=PySem.W.cellsFrom_some sc.names n [] (.inl h)
 exact Option.isSome_iff_exists.mp q
theorem tN{CX:CXT}{P:Program}{w:World}{K:PySem.W.Frag}{mg:Str→Option Value}{base:Heap}{N ps:List Str}{qual:Str}{scope:Scope}{f:Addr}{cd:Value}{A:Around}{outer:List Env}{s s1:Shared}{H:Hp}{E:XK}{us:List Value}{vs:List V}
  (S:aI N ps scope) (hd:A.handled=none) (e0:Env0 P w K mg base A outer s H) (hl:vs.length=ps.length) (r:Vals vs us)
  (x:InCallC s s.heap.objs.size (bindL (envOfC qual scope s.heap.objs.size f cd).kindOf (ps.zip us) fun _=>none) (cellsFrom (s.heap.objs.size+1) scope.names []) (bindC (envOfC qual scope s.heap.objs.size f cd).kindOf (ps.zip us) fun _=>none) s1) :
  Inv (cxOf CX P w K mg base N qual scope f cd A outer s H E) [] (iF N vs) H s1:=by
 have hpl:ps.length≤N.length:=by have:=congrArg List.length S.pre;rw[List.length_take]at this;omega
 obtain⟨h1,tk,rfl,hk⟩:=x.done
 have noA:∀b:Addr,b∉(cxOf CX P w K mg base N qual scope f cd A outer s H E).ex:=fun b z=>absurd (show b∈([]:List Addr)from z) (by simp)
 refine⟨⟨e0.mod,S.kind,rfl,rfl,Nat.le_refl _,fun y z c h1 h2=>?_,fun y hy=>?_,fun y c _ h=>?_,fun _=>hd,Around.frames_deeper e0.frames,.inr ⟨rfl,rfl⟩,fun b z=>absurd z (noA b),e0.bs,e0.bsz,fun b _ _=>noA b,fun b z=>absurd z (noA b),e0.funs,e0.frf,e0.tbs⟩,
  rfl,e0.bare,Un.kept hk,⟨_,x.toInCall.ns,fun i y v h1 h2 h3=>?_⟩,fun y c h=>⟨_,x.cell y c h⟩,e0.hok.fresh (Nat.le_refl _),fun y c h=>?_,fun p hp=>absurd (show p∈([]:List (Addr×Obj))from hp) (by simp),e0.hok.kept hk,?_⟩
 ·
  exact name_of_addr x.apart (PySem.mem_of_lookup h1) (PySem.mem_of_lookup h2)
 ·
  have hy:scope.names.lookup y=some .cell∨scope.names.lookup y=some .free:=hy
  rcases hy with hy|hy
  ·
   exact qp hy
  ·
   exact absurd rfl (S.nofree _ (PySem.mem_of_lookup hy))
 ·
  exact Nat.le_of_lt (x.above y c (PySem.mem_of_lookup h))
 ·
  have hi:i<vs.length:=by
   unfold iF at h2
   by_cases hi:i<vs.length
   ·
    exact hi
   ·
    rw[List.getElem?_append_right (by simpa using hi)]at h2
    rw[List.getElem?_replicate]at h2
    split at h2<;>cases h2
  have ha:vs[i]?=some v:=by
   unfold iF at h2
   rw[List.getElem?_append_left (by simpa using hi),List.getElem?_map]at h2
   cases e:vs[i]? with
   |none=>rw[e]at h2;cases h2
   |some a=>rw[e]at h2;cases h2;rfl
  obtain⟨u,hu,rv⟩:=r.get ha
  have hp:ps[i]?=some y:=by
   rw[← S.pre,List.getElem?_take_of_lt (by omega)];exact h1
  have ndP:ps.Nodup:=by rw[← S.pre];exact S.nd.sublist (List.take_sublist _ _)
  refine⟨u,rv,?_⟩
  rcases S.par y (List.mem_of_getElem? hp)with k|k
  ·
   exact .inl ⟨k,ny ndP hp hu k⟩
  ·
   obtain⟨c,e⟩:=qp (n:=s.heap.objs.size+1) k
   refine .inr ⟨.inl k,c,e,?_⟩
   have q:=x.cell y c e
   rw[nB ndP hp hu (by show scope.names.lookup y≠_;rw[k];decide)]at q
   exact q
 ·
  exact .inl (e0.hok.fresh (Nat.le_of_lt (x.above y c (PySem.mem_of_lookup h))))
 ·
  unfold iF
  show _=N.length
  rw[List.length_append,List.length_map,List.length_replicate]
  omega
theorem yj{CX:CXT}{P:Program}{w:World}{K:PySem.W.Frag}{mg:Str→Option Value}{base:Heap}{k:Nat}{f:Addr}{name qual:Str}{params:Arguments}{body:List Stmt}{scope:Scope}{dV kV doc pm cdv ct oc:Value}{an od:Option Addr}
  {osl:Array (Option Value)} {N ps:List Str} {sp:Sp} (lk:K.lookup f=some ⟨oc,od,.func (PySem.W.fnOf name qual params body scope dV kV doc pm an cdv ct),osl⟩) (hcd:PySem.W.codeIn K cdv qual=true) (S:aI N ps scope)
  (len:∀vs H Q E,sp vs H Q E→vs.length=ps.length)
  (hbody:∀(A:Around)(outer:List Env)(s:Shared)(H:Hp)(vs:List V)(Q:VK)(E:XK),Room k (A.deeper (envOfC qual scope s.heap.objs.size f cdv))→sp vs H Q E →
   ∃t,PSs (cxOf CX P w K mg base N qual scope f cdv A outer s H E) body t∧t {nx:=fun _ H'=>Q .non H',rt:=Q} (iF N vs) H) :
  FnOk P w K mg base CX (k+1) f (PySem.W.fnOf name qual params body scope dV kV doc pm an cdv ct) ps sp:=by
 refine⟨len,fun A outer s H args us vs Q E hr e0 hb r hsp=>?_⟩
 have hl:=len _ _ _ _ hsp
 have KX:K.In s.heap:=e0.mod.kin.keeps fun b o e=>(e0.bs b o e).1
 have lim:s.heap.NoLimit:=e0.mod.nolimit.keeps fun b o e=>(e0.bs b o e).1
 have hkind:∀y∈ps.zip us,scope.names.lookup y.1=some .local∨(scope.names.lookup y.1=some .cell∧((cellsFrom (s.heap.objs.size+1) scope.names []).lookup y.1).isSome=true):=fun⟨n,v⟩ hy=>by
  rcases S.par n (List.of_mem_zip hy).1 with q|q
  ·
   exact .inl q
  ·
   exact .inr ⟨q,PySem.W.cellsFrom_some _ _ _ (.inl q)⟩
 refine codeAny_call_function hr.depth (KX _ _ lk) rfl S.co S.gen rfl (PySem.W.codeRec_of KX hcd) (hb _ _ _ _ ?_)
 refine wpAny_newFunctionEnv_cells S.kind hkind fun env he s1 x=>?_
 subst he
 refine⟨lim.keeps x.toInCall.keep,codeAny_func ?_⟩
 obtain⟨t,ht,hq⟩:=hbody A outer s H vs Q E (hr.deeper _) hsp
 have I:Inv (cxOf CX P w K mg base N qual scope f cdv A outer s H E) [] (iF N vs) H s1:=tN S hr.hd e0 hl r x
 refine wpAny_mono (ht [] s1 (iF N vs) H _ I hq) (fun fl s' hs=>?_) fun e s' hs=>hs
 have fin:∀{σ':St}{H':Hp}{v:V}{u:Value},Inv (cxOf CX P w K mg base N qual scope f cdv A outer s H E) [] σ' H' s'→RelV v u→Q v H'→CE outer P w H s Q u s' :=
  fun {σ' H' v u} J rv q=>⟨v,H',J.os,J.bare,J.base,J.hok,rv,q⟩
 cases fl with
 | ret u =>
  obtain⟨v,σ',H',J,rv,q⟩:=hs
  exact fin J rv q
 | next =>
  obtain⟨σ',H',J,q⟩:=hs
  exact fin (v:=V.non) (u:=Value.none) J rfl q
 | brk =>
  obtain⟨_,_,_,q⟩:=hs
  exact False.elim q
 | cont =>
  obtain⟨_,_,_,q⟩:=hs
  exact False.elim q
section
variable{X:Cx}{x:Str}{p pos:Pos}{e:Expr}{es:List Expr}{t:TA}{id:String}{r:List V→Hp→VK→Prop}
def tCB(r:List V→Hp→VK→Prop)(t:TA):TE:=fun σ H Q=>t σ H fun vs H1=>r vs H1 Q
theorem mC(hc:fT X (.builtin id) r)(hg:Gl X x)(hm:X.mg x=none)(hv:bootBuiltins x=some (.builtin id))(ha:PA X (e::es) t) (hn:x≠"__name__":=by decide) (hdb:(x == ("__debug__" : Str))=false:=by decide)
  (he:starEach (e::es) X.env=(false,eval e X.env)::starEach es X.env:=by rfl) (hpl:(backTo pos (starEach es X.env)).any (·.1)=false:=by rfl):PE X (.Call (.Name x p) (e::es) [] pos) (tCB r t):=by
 intro pins s σ H Q I h
 refine wpAny_Call_Name_kw (jV I hg hm hv ?_ hn hdb)
 exact PyProof.Rows.callWith_builtin1 (thn (ha pos pins s σ H _ I h) fun us s1 ⟨vs,H1,I1,r1,q1⟩=>hc pins s1 σ H1 vs us Q I1 r1 q1) he hpl
end
end L2
namespace HT
open PySem PyProof.Rows
section
variable{prog:Program}{w:World}{A:Around}{E:Value→Shared→Prop}{s:Shared}
def sIx(n d:Nat):Option Int→Nat
 |none=>d
 |some v=>if v<0 then(v+(n:Int)).toNat else min v.toNat n
theorem AK(n d:Nat)(hd:d≤n)(o:Option Int):sIx n d o≤n:=by
 cases o with
 |none=>exact hd
 | some v =>
  show(if v<0 then(v+(n:Int)).toNat else min v.toNat n)≤n
  by_cases hv:v<0
  ·
   rw[if_pos hv];omega
  ·
   rw[if_neg hv];exact Nat.min_le_right _ _
theorem tO(v:Int)(n d:Nat):(if v<0 then max (v+(n:Int)) 0 else min v (n:Int))=((sIx n d (some v):Nat):Int):=by
 show(if v<0 then max (v+(n:Int)) 0 else min v (n:Int))=(((if v<0 then(v+(n:Int)).toNat else min v.toNat n):Nat):Int)
 by_cases hv:v<0
 ·
  simp only[if_pos hv];omega
 ·
  simp only[if_neg hv];omega
theorem rL(lo hi:Option Int)(n:Nat):Builtin.Slice.sliceAdjust lo hi 1 (n:Int)=(((sIx n 0 lo:Nat):Int),((sIx n n hi:Nat):Int)):=by
 have h1:¬((1:Int)<0):=by omega
 unfold Builtin.Slice.sliceAdjust
 simp only[h1,if_false]
 refine Prod.ext ?_ ?_
 ·
  cases lo with
  |none=>rfl
  |some v=>exact tO v n 0
 ·
  cases hi with
  |none=>rfl
  |some v=>exact tO v n n
theorem rM(i j:Nat):Builtin.Slice.slicePlaces (i:Int) (j:Int) 1=j-i:=by
 unfold Builtin.Slice.slicePlaces
 have h1:(1:Int) > 0:=by omega
 simp only[h1,if_true,Int.ediv_one]
 split<;>omega
theorem l5{v:Value}{o:Option Int}{Q:Option Int→Shared→Prop}(p:IsPart v o)(h:Q o s):wpAny (model prog w) A (Builtin.Slice.slicePartIndex v) Q E s:=by
 cases p with
 |none=>exact slicePart_none h
 |int i t=>exact slicePart_int h
theorem kl{sl:Addr}{vl vu:Value}{lo hi:Option Int}{n:Nat}{Q:Int×Int×Nat→Shared→Prop}(hs:s.heap.IsSliceOf sl vl vu .none)(pl:IsPart vl lo)(pu:IsPart vu hi)
  (h:Q (((sIx n 0 lo:Nat):Int),1,sIx n n hi-sIx n 0 lo) s):wpAny (model prog w) A (Builtin.Slice.sliceApplied (.ref sl) (pure (n:Int))) Q E s:=by
 obtain⟨os,hos,hcs,hds⟩:=id hs
 unfold Builtin.Slice.sliceApplied Builtin.Slice.sliceFields
 refine wpAny_bind (wpAny_bind (wpAny_field hos hds (x:=vl) rfl (wpAny_bind (wpAny_field hos hds (x:=vu) rfl (wpAny_bind (wpAny_field hos hds (x:=.none) rfl (wpAny_pure ?_)))))))
 refine wpAny_bind (slicePart_none ?_)
 show wpAny _ _ (if((1:Int) == 0)=true then _ else _) _ _ s
 rw[if_neg (by decide)]
 refine wpAny_bind (l5 pl (wpAny_bind (l5 pu (wpAny_bind (wpAny_pure ?_)))))
 show wpAny _ _ (match Builtin.Slice.sliceAdjust lo hi 1 (n:Int)with|(lo,hi)=>pure (lo,(1:Int),Builtin.Slice.slicePlaces lo hi 1)) _ _ s
 rw[rL lo hi n]
 show wpAny _ _ (pure (((sIx n 0 lo:Nat):Int),(1:Int),Builtin.Slice.slicePlaces ((sIx n 0 lo:Nat):Int) ((sIx n n hi:Nat):Int) 1)) _ _ s
 rw[rM]
 exact wpAny_pure h
theorem vR(xs:Array Value)(i k:Nat):((List.range k).filterMap fun (m:Nat)=>xs[((i:Int)+(m:Int)*1).toNat]?).toArray=((xs.toList.drop i).take k).toArray:=by
 have e:(fun (m:Nat)=>xs[((i:Int)+(m:Int)*1).toNat]?)=fun m=>xs[i+m]?:=by
  funext m
  have:((i:Int)+(m:Int)*1).toNat=i+m:=by omega
  rw[this]
 rw[e]
 have:=pick_run xs i k
 rw[List.filterMap_map]at this
 have e2:((fun x=>xs[x]?) ∘ fun x=>i+x)=fun m=>xs[i+m]?:=rfl
 rw[e2]at this
 rw[this]
theorem getItem_tuple_cut{t sl:Addr}{items:Array Value}{vl vu:Value}{lo hi:Option Int}{Q:Value→Shared→Prop}(ht:IsTup s.heap t items)(hs:s.heap.IsSliceOf sl vl vu .none)(pl:IsPart vl lo)(pu:IsPart vu hi)
  (hw:¬(sIx items.size 0 lo=0∧sIx items.size items.size hi=items.size))
  (h:Q (.ref s.heap.objs.size) {s with heap:=s.heap.push {cls:=.type "tuple",data:=.seq ((items.toList.drop (sIx items.size 0 lo)).take (sIx items.size items.size hi-sIx items.size 0 lo)).toArray} })
  (hsz:items.size≤sizeLine):wpAny (model prog w) A (getItem (.ref t) (.ref sl)) Q E s:=by
 have htake:sizeOk (.seq ((items.toList.drop (sIx items.size 0 lo)).take (sIx items.size items.size hi-sIx items.size 0 lo)).toArray):=by
  show((items.toList.drop (sIx items.size 0 lo)).take (sIx items.size items.size hi-sIx items.size 0 lo)).toArray.size≤sizeLine
  rw[List.size_toArray,List.length_take,List.length_drop,Array.length_toList]
  omega
 have hj:sIx items.size items.size hi≤items.size:=AK _ _ (Nat.le_refl _) hi
 obtain⟨os,hos,hcs,hds⟩:=id hs
 have hTs:s.TypeIs (.ref sl) "slice":=⟨os,hos,hcs⟩
 unfold getItem
 try with_reducible refine wpAny_holding ?_
 first|refine wpAny_bind (wpAny_pure ?_)|skip
 refine wpAny_bind (wpAny_sequenceKey ht.typeIs (by decide) ?_)
 refine wpAny_bind (wpAny_callSpecial?_slot (name:=Str.ofString "__getitem__") ht.typeIs PyProof.Rows.slot_tuple_getitem
  (wpAny_call_entry PyProof.Rows.slot_tuple_getitem ht.typeIs entry_tuple_getitem ?_ (args_tuple_getitem _ _)))
 show wpAny _ _ (Builtin.Tuple.tupleItemsOf (.ref t) >>= _) _ _ s
 refine wpAny_bind (tupleItemsOf_ ht ?_)
 refine wpAny_bind (wpAny_typeOf hTs ?_)
 rw[if_pos (by decide)]
 refine wpAny_bind (kl hs pl pu ?_)
 have hno:¬((((sIx items.size 0 lo:Nat):Int) == 0 && (1:Int) == 1 && (sIx items.size items.size hi-sIx items.size 0 lo) == items.size)=true):=by
  intro q
  rw[Bool.and_eq_true,Bool.and_eq_true]at q
  have q1:((sIx items.size 0 lo:Nat):Int)=0:=eq_of_beq q.1.1
  have q2:sIx items.size items.size hi-sIx items.size 0 lo=items.size:=eq_of_beq q.2
  exact hw ⟨by omega,by omega⟩
 show wpAny _ _ (if(((sIx items.size 0 lo:Nat):Int) == 0 && (1:Int) == 1 && (sIx items.size items.size hi-sIx items.size 0 lo) == items.size)=true then _ else _) _ _ s
 rw[if_neg hno,vR]
 first
  |exact wpAny_bind (m:=Builtin.Tuple.tupleExact _) (wpAny_newObj_type (wpAny_pure ⟨_,rfl,wpAny_pure h⟩) htake)
  |exact wpAny_bind (m:=Builtin.Tuple.tupleExact _) (wpAny_newObj_type (wpAny_bind (wpAny_pure (wpAny_pure ⟨_,rfl,wpAny_pure h⟩))) htake)
  |exact wpAny_bind (wpAny_bind (m:=Builtin.Tuple.tupleExact _) (wpAny_newObj_type (wpAny_pure (wpAny_pure ⟨_,rfl,wpAny_pure h⟩)) htake))
  |exact wpAny_bind (wpAny_bind (m:=Builtin.Tuple.tupleExact _) (wpAny_newObj_type (wpAny_pure ⟨_,rfl,wpAny_pure h⟩) htake))
end
end HT
namespace L2
open PySem PySem.Spec PyProof.Rows
abbrev TO:=St→Hp→(Option Int→Hp→Prop)→Prop
def PO(X:Cx)(e:Option Expr)(t:TO):Prop :=
 ∀(pins:List (Addr×Obj))(s:Shared)(σ:St)(H:Hp)(Q:Option Int→Hp→Prop),Inv X pins σ H s→t σ H Q →
  wpAny (model X.prog X.w) X.A (evalPart e X.env) (fun u s'=>∃o H',Inv X pins σ H' s'∧IsPart u o∧Q o H') X.xe s
def yk:TO:=fun _ H Q=>Q none H
def Cc(t:TE):TO:=fun σ H Q=>t σ H fun x H1=>∃i,x=.int i∧Q (some i) H1
section
variable{X:Cx}{e:Expr}{te:TE}{lo hi:Option Expr}{tl th:TO}{pos p2:Pos}
theorem yl:PO X none yk:=by
 intro pins s σ H Q I h
 rw[evalPart_none]
 exact wpAny_pure ⟨none,H,I,.none,h⟩
theorem ym(h:PE X e te):PO X (some e) (Cc te):=by
 intro pins s σ H Q I hw
 rw[evalPart_some]
 refine thn (h pins s σ H _ I hw) fun u s1 ⟨x,H1,I1,r1,q1⟩=>?_
 obtain⟨i,rfl,q⟩:=q1
 obtain⟨t,rfl⟩:=r1
 exact⟨some i,H1,I1,.int i t,q⟩
def SlR(X:Cx)(r:V→Option Int→Option Int→Hp→VK→Prop):Prop :=
 ∀(pins:List (Addr×Obj))(s:Shared)(σ:St)(H:Hp)(x:V)(v vl vu:Value)(lo hi:Option Int)(sl:Addr)(Q:VK),Inv X pins σ H s→RelV x v→s.heap.IsSliceOf sl vl vu .none→IsPart vl lo→IsPart vu hi→r x lo hi H Q →
  ∃ T id,typeLookup (.type T) "__getitem__"=pure (some (.builtin id))∧s.TypeIs v T∧wpAny (model X.prog X.w) X.A (getItem v (.ref sl)) (EP X pins σ Q) X.xe s
theorem SlR.or{r r':V→Option Int→Option Int→Hp→VK→Prop}(h:SlR X r)(h':SlR X r'):SlR X (fun x lo hi H Q=>r x lo hi H Q∨r' x lo hi H Q):=by
 intro pins s σ H x v vl vu lo hi sl Q I rx hs pl pu q
 rcases q with q|q
 ·
  exact h pins s σ H x v vl vu lo hi sl Q I rx hs pl pu q
 ·
  exact h' pins s σ H x v vl vu lo hi sl Q I rx hs pl pu q
def tSl(r:V→Option Int→Option Int→Hp→VK→Prop)(te:TE)(tl th:TO):TE:=fun σ H Q=>te σ H fun x H1=>tl σ H1 fun l H2=>th σ H2 fun u H3=>r x l u H3 Q
theorem vS{r:V→Option Int→Option Int→Hp→VK→Prop}(hr:SlR X r)(he:PE X e te)(hl:PO X lo tl)(hu:PO X hi th):PE X (.Subscript e (.Slice lo hi none p2) pos) (tSl r te tl th):=by
 intro pins s σ H Q I h
 refine Subscript_ (thn (he pins s σ H _ I h) fun v s1 ⟨x,H1,I1,r1,q1⟩=>?_)
 refine wpAny_Slice (thn (hl pins s1 σ H1 _ I1 q1) fun vl s2 ⟨l,H2,I2,pl,q2⟩=>thn (hu pins s2 σ H2 _ I2 q2) fun vu s3 ⟨u,H3,I3,pu,q3⟩=>?_)
 rw[evalPart_none]
 refine wpAny_pure ?_
 have I4:Inv X pins σ H3 {s3 with heap:=s3.heap.push {cls:=.type "slice",data:=.fields #[vl,vu,.none] } }:=I3.kept (t':=s3.toks) fun b ob q=>Heap.get?_push_of_some _ q
 obtain⟨T,id,hT,ht,hg⟩:=hr pins {s3 with heap:=s3.heap.push {cls:=.type "slice",data:=.fields #[vl,vu,.none] } } σ H3 x v vl vu l u s3.heap.objs.size Q I4 r1 (Heap.IsSliceOf.new ..) pl pu q3
 show wpAny (model X.prog X.w) X.A (subscriptTail e (.Slice lo hi none p2) v (.ref s3.heap.objs.size)) (EP X pins σ Q) X.xe {s3 with heap:=s3.heap.push {cls:=.type "slice",data:=.fields #[vl,vu,.none] } }
 exact tail_any (ops:=[.ref s3.heap.objs.size,v]) ht hT hg (by with_unfolding_all rfl)
def cutV(xs:List V)(lo hi:Option Int):List V:=(xs.drop (HT.sIx xs.length 0 lo)).take (HT.sIx xs.length xs.length hi-HT.sIx xs.length 0 lo)
theorem kH(xs:List V)(lo hi:Option Int):(cutV xs lo hi).length≤xs.length:=by
 unfold cutV
 rw[List.length_take,List.length_drop]
 omega
def rSlT(K:PySem.W.Frag):V→Option Int→Option Int→Hp→VK→Prop:=fun x lo hi H Q=>∃a xs,x=.ref a∧SqT K H a xs ∧
 ¬(HT.sIx xs.length 0 lo=0∧HT.sIx xs.length xs.length hi=xs.length)∧∀p,H p=none→Q (.ref p) (upd H p (.tup (cutV xs lo hi)))
theorem AL:SlR X (rSlT X.K):=by
 intro pins s σ H x v vl vu lo hi sl Q I rx hs pl pu h
 obtain⟨a,xs,rfl,hx,hw,q⟩:=h
 cases rx
 obtain⟨its,r,ht,hz⟩:=I.tuple hx
 have hlen:its.toArray.size=xs.length:=by rw[List.size_toArray];exact r.length.symm
 refine⟨"tuple",_,PyProof.Rows.slot_tuple_getitem.lookup,ht.typeIs,?_⟩
 refine HT.getItem_tuple_cut ht hs pl pu (by rw[hlen];exact hw) ?_ (by rw[hlen];exact hz)
 rw[hlen]
 refine⟨.ref s.heap.objs.size,_,I.laid (t':=s.toks) (o:=.tup (cutV xs lo hi)) (fun b ob q=>Heap.get?_push_of_some _ q) (Nat.le_refl _) ?_,rfl,q _ (I.hok.fresh (Nat.le_refl _))⟩
 exact⟨Nat.le_trans (kH xs lo hi) hz,_,(r.drop (HT.sIx xs.length 0 lo)).take (HT.sIx xs.length xs.length hi-HT.sIx xs.length 0 lo),IsTup.new _ _⟩
end
def ixN(n:Nat)(i:Int):Option Nat:=if 0≤i then(if i<n then some i.toNat else none)else if -(n:Int)≤i then some (i+n).toNat else none
def atI{α:Type}(xs:List α)(i:Int):Option α:=(ixN xs.length i).bind fun j=>xs[j]?
theorem tP{n:Nat}{i:Int}{j:Nat}(h:ixN n i=some j):seqIndex? i n=some j∧j<n∧-(n:Int)≤i∧i<n:=by
 unfold ixN at h
 by_cases h0:0≤i
 ·
  rw[if_pos h0]at h
  by_cases h1:i<n
  ·
   rw[if_pos h1]at h
   have e:i.toNat=j:=Option.some.inj h
   exact⟨by rw[seqIndex_of h0 h1,e],by omega,by omega,h1⟩
  ·
   rw[if_neg h1]at h;cases h
 ·
  rw[if_neg h0]at h
  by_cases h1 : -(n:Int)≤i
  ·
   rw[if_pos h1]at h
   have e:(i+n).toNat=j:=Option.some.inj h
   exact⟨by rw[seqIndex_neg (by omega) h1,e],by omega,h1,by omega⟩
  ·
   rw[if_neg h1]at h;cases h
theorem oX{α:Type}{xs:List α}{i:Int}{v:α}(h:atI xs i=some v):∃j,seqIndex? i xs.length=some j∧xs[j]?=some v∧j<xs.length∧-(xs.length:Int)≤i∧i<xs.length:=by
 unfold atI at h
 cases e:ixN xs.length i with
 |none=>rw[e]at h;cases h
 | some j =>
  rw[e]at h
  obtain⟨h1,h2,h3,h4⟩:=tP e
  exact⟨j,h1,h,h2,h3,h4⟩
theorem dD{α:Type}{xs:List α}{j:Nat}{v:α}(h:xs[j]?=some v):atI xs (j:Int)=some v:=by
 have hj:j<xs.length:=(List.getElem?_eq_some_iff.mp h).1
 have e:ixN xs.length (j:Int)=some j:=by
  unfold ixN
  rw[if_pos (by omega),if_pos (by omega)];simp
 unfold atI;rw[e];exact h
def oY(b:Expr):Prop:=∀o i,subscripted b false o i=operate [o,i] (getItem o i)
def IxR(X:Cx)(r:R2):Prop :=
 ∀(value slice:Expr)(pins:List (Addr×Obj))(s:Shared)(σ:St)(H:Hp)(x y:V)(v u:Value)(Q:VK),Inv X pins σ H s→RelV x v→RelV y u→r x y H Q →
  subscripted slice false v u=operate [v,u] (getItem v u)→wpAny (model X.prog X.w) X.A (subscriptTail value slice v u) (EP X pins σ Q) X.xe s
def MtR(X:Cx)(id:String)(r:V→List V→Hp→VK→Prop):Prop :=
 ∀(pins:List (Addr×Obj))(s:Shared)(σ:St)(H:Hp)(x:V)(xs:List V)(v:Value)(us:List Value)(Q:VK),Inv X pins σ H s→RelV x v→Vals xs us→r x xs H Q →
  wpAny (model X.prog X.w) X.A (call (.builtin id) (v::us)) (EP X pins σ Q) X.xe s
section
variable{X:Cx}{a b:Expr}{ta tb:TE}{pos:Pos}
theorem Cd{r:R2}(hr:IxR X r)(ha:PE X a ta)(hb:PE X b tb)(hs:oY b):PE X (.Subscript a b pos) (tOp r ta tb):=by
 intro pins s σ H Q I h
 exact Subscript_ (binT ha hb I h fun v u s2 x y H2 I2 rx ry q=>hr a b pins s2 σ H2 x y v u Q I2 rx ry q (hs _ _))
def rIxL(K:PySem.W.Frag):R2:=fun x y H Q=>∃p xs i v,x=.ref p∧y=.int i∧SqL K H p xs∧atI xs i=some v∧Q v H
def rIxT(K:PySem.W.Frag):R2:=fun x y H Q=>∃p xs i v,x=.ref p∧y=.int i∧SqT K H p xs∧atI xs i=some v∧Q v H
def rIxS:R2:=fun x y H Q=>∃z i c,x=.str z∧y=.int i∧z.length≤sizeLine∧atI z.cps.toList i=some c∧Q (.str ⟨#[c]⟩) H
theorem tQ:IxR X (rIxL X.K):=by
 intro value slice pins s σ H x y v u Q I rx ry h hs
 obtain⟨p,xs,i,z,rfl,rfl,hq,he,q⟩:=h
 cases rx
 obtain⟨t,rfl⟩:=ry
 obtain⟨its,r,pl,hz⟩:=I.list hq
 obtain⟨j,h1,h2,h3,h4,h5⟩:=oX he
 obtain⟨w,ew,rw'⟩:=r.get h2
 have hl:=r.length
 have hn:=kG
 have fin:EP X pins σ Q w s:=⟨z,H,I,rw',q⟩
 by_cases h0:0≤i
 ·
  have hj:i.toNat=j:=by
   rw[seqIndex_of h0 h5]at h1
   exact Option.some.inj h1
  exact item_listR pl.isList h0 (by omega) (by rw[hj];simpa using ew) fin hs
 ·
  have hj:(i+(its.toArray.size:Int)).toNat=j:=by
   rw[seqIndex_neg (by omega) h4]at h1
   rw[List.size_toArray,← hl]
   exact Option.some.inj h1
  exact subscriptTail_builtinR (x:=w) pl.isList.typeIs slot_list_getitem.lookup
   (wpAny_getItem_list_neg (Q:=fun r s'=>r=w∧EP X pins σ Q r s') pl.isList (by omega) (by rw[List.size_toArray]<;>omega) (by omega) (by rw[hj];simpa using ew) ⟨rfl,fin⟩) hs
theorem AM:IxR X (rIxT X.K):=by
 intro value slice pins s σ H x y v u Q I rx ry h hs
 obtain⟨p,xs,i,z,rfl,rfl,hq,he,q⟩:=h
 cases rx
 obtain⟨t,rfl⟩:=ry
 obtain⟨its,r,pl,hz⟩:=I.tuple hq
 obtain⟨j,h1,h2,h3,h4,h5⟩:=oX he
 obtain⟨w,ew,rw'⟩:=r.get h2
 have hl:=r.length
 have hn:=kG
 have fin:EP X pins σ Q w s:=⟨z,H,I,rw',q⟩
 exact subscriptTail_builtinR (x:=w) pl.typeIs slot_tuple_getitem.lookup
  (getItem_tuple (j:=j) (Q:=fun r s'=>r=w∧EP X pins σ Q r s') pl (by omega) (by omega) (by rw[List.size_toArray,← hl];exact h1) (by simpa using ew) ⟨rfl,fin⟩) hs
theorem AN:IxR X rIxS:=by
 intro value slice pins s σ H x y v u Q I rx ry h hs
 obtain⟨z,i,c,rfl,rfl,hz,he,q⟩:=h
 obtain⟨t,rfl⟩:=rx
 obtain⟨t',rfl⟩:=ry
 obtain⟨j,h1,h2,h3,h4,h5⟩:=oX he
 have hl:z.cps.toList.length=z.length:=by simp[Str.length]
 rw[hl]at h1 h4 h5
 have hn:=kG
 exact tail_any (typeIs_str s z t) slot_str_getitem.lookup (getItem_str (c:=c) (by
  have e1:decide (i < -(2^63:Int))=false:=decide_eq_false (by omega)
  have e2:decide (i≥2^63)=false:=decide_eq_false (by omega)
  rw[e1,e2,Bool.or_false]) (by rw[h1];simpa using h2) ⟨.str ⟨#[c]⟩,H,I.tok _,⟨_,rfl⟩,q⟩) hs
theorem rN(its:List Value)(n j:Nat)(u:Value):Obj.mapSeq (·.setIfInBounds j u) {cls:=.type "list",data:=.seq its.toArray n}={cls:=.type "list",data:=.seq (its.set j u).toArray n}:=by
 simp[Obj.mapSeq]
theorem Inv.lst{pins:List (Addr×Obj)}{σ:St}{H:Hp}{s:Shared}{p:Addr}{xs:List V}(I:Inv X pins σ H s)(h:H p=some (.lst xs)) :
  ∃(its:List Value)(n:Nat),Vals xs its∧s.heap.get? p=some {cls:=.type "list",data:=.seq its.toArray n}∧xs.length≤sizeLine:=by
 obtain⟨z,its,n,r,e⟩:=I.hok p _ h
 exact⟨its,n,r,e,z⟩
theorem Inv.lstUpd{pins:List (Addr×Obj)}{σ:St}{H:Hp}{s:Shared}{p:Addr}{xs ys:List V}{its its':List Value}{n n':Nat}{f:Obj→Obj}(I:Inv X pins σ H s)(h:H p=some (.lst xs))
  (ho:s.heap.get? p=some {cls:=.type "list",data:=.seq its.toArray n}) (hf:f {cls:=.type "list",data:=.seq its.toArray n}={cls:=.type "list",data:=.seq its'.toArray n' }) (r:Vals ys its') (hz:ys.length≤sizeLine) (t:Nat) :
  Inv X pins σ (upd H p (.lst ys)) {s with heap:=s.heap.update p f,toks:=t}:=by
 have e:(s.heap.update p f).get? p=some {cls:=.type "list",data:=.seq its'.toArray n' }:=by
  rw[Heap.get?_update_self f ho (by rw[hf]<;>rfl),hf]
 refine I.write (x:=p) (e:=p) (by rw[h];trivial) (.inl rfl) (fun b u hb q=>(Heap.get?_update_other _ _ (Ne.symm hb)).trans q) ⟨_,e⟩ ?_
 exact⟨hz,its',n',r,e⟩
def Ce:V→V→V→Hp→(Hp→Prop)→Prop:=fun o i v H Q=>∃p xs k j,o=.ref p∧i=.int k∧H p=some (.lst xs)∧ixN xs.length k=some j∧Q (upd H p (.lst (xs.set j v)))
theorem vT:PSet X Ce:=by
 intro pins s σ H o i v ov iv u Q I ro ri rv h
 obtain⟨p,xs,k,j,rfl,rfl,hp,hj,q⟩:=h
 cases ro
 obtain⟨t,rfl⟩:=ri
 obtain⟨its,n,r,ho,hz⟩:=I.lst hp
 obtain⟨h1,h2,h3,h4⟩:=tP hj
 have hl:=r.length
 have hn:=kG
 have I':Inv X pins σ (upd H p (.lst (xs.set j v))) {s with heap:=s.heap.update p (Obj.mapSeq (·.setIfInBounds j u)) } :=
  I.lstUpd hp ho (rN its n j u) (r.set rv j) (by rw[List.length_set];exact hz) s.toks
 by_cases h0:0≤k
 ·
  have hk:k.toNat=j:=by
   rw[seqIndex_of h0 h4]at h1
   exact Option.some.inj h1
  exact PySem.W.ki_setAt ho h0 (by omega) (by rw[List.size_toArray,← hl];exact h4) (by rw[hk];exact⟨_,I',q⟩)
 ·
  have hk:(k+(its.toArray.size:Int)).toNat=j:=by
   rw[seqIndex_neg (by omega) h3]at h1
   rw[List.size_toArray,← hl]
   exact Option.some.inj h1
  exact PySem.W.ki_setBack ho (by omega) (by rw[List.size_toArray,← hl];exact h3) (by omega) (by rw[hk];exact⟨_,I',q⟩)
theorem nC(lo hi:Option Int)(n:Nat):(sliceBounds lo hi none n).1=((HT.sIx n 0 lo:Nat):Int)∧(sliceBounds lo hi none n).2.1=((HT.sIx n n hi:Nat):Int)∧(sliceBounds lo hi none n).2.2=1:=by
 refine⟨?_,?_,rfl⟩
 ·
  cases lo with
  |none=>simp[sliceBounds,HT.sIx]
  | some i =>
   simp only[sliceBounds,HT.sIx,Option.getD_none,show(1:Int) > 0 by decide,if_true]
   by_cases h:i<0
   ·
    simp only[h,if_true]<;>omega
   ·
    simp only[h,if_false]<;>omega
 ·
  cases hi with
  |none=>simp[sliceBounds,HT.sIx]
  | some i =>
   simp only[sliceBounds,HT.sIx,Option.getD_none,show(1:Int) > 0 by decide,if_true]
   by_cases h:i<0
   ·
    simp only[h,if_true]<;>omega
   ·
    simp only[h,if_false]<;>omega
theorem mD(its:List Value)(lo hi:Option Int):slicePick its.toArray lo hi none=((its.drop (HT.sIx its.length 0 lo)).take (HT.sIx its.length its.length hi-HT.sIx its.length 0 lo)).toArray:=by
 obtain⟨h1,h2,h3⟩:=nC lo hi its.toArray.size
 unfold slicePick
 rw[h1,h2,h3]
 simp only[sliceRange_one,pick_run,List.size_toArray]<;>rfl
def rSlL(K:PySem.W.Frag):V→Option Int→Option Int→Hp→VK→Prop:=fun x lo hi H Q=>∃a xs,x=.ref a∧SqL K H a xs∧∀p,H p=none→Q (.ref p) (upd H p (.lst (cutV xs lo hi)))
theorem yn:SlR X (rSlL X.K):=by
 intro pins s σ H x v vl vu lo hi sl Q I rx hs pl pu h
 obtain⟨a,xs,rfl,hx,q⟩:=h
 cases rx
 obtain⟨its,r,ht,hz⟩:=I.list hx
 have hlen:=r.length
 refine⟨"list",_,slot_list_getitem.lookup,ht.isList.typeIs,?_⟩
 refine wpAny_getItem_list_slice ht.isList hs pl pu .none (by simp) ?_ (by rw[List.size_toArray]<;>omega)
 rw[mD,← hlen]
 refine⟨.ref s.heap.objs.size,_,I.laid (t':=s.toks) (o:=.lst (cutV xs lo hi)) (fun b ob q=>Heap.get?_push_of_some _ q) (Nat.le_refl _) ?_,rfl,q _ (I.hok.fresh (Nat.le_refl _))⟩
 exact⟨Nat.le_trans (kH xs lo hi) hz,_,0,(r.drop (HT.sIx xs.length 0 lo)).take (HT.sIx xs.length xs.length hi-HT.sIx xs.length 0 lo),Heap.get?_push_size _ rfl⟩
theorem nD:fT X (.builtin "len") (fun xs H Q=>∃ p ys,xs=[.ref p]∧(SqL X.K H p ys∨SqT X.K H p ys)∧Q (.int ys.length) H):=by
 intro pins s σ H xs us Q I r h
 obtain⟨p,ys,rfl,hq,q⟩:=h
 obtain⟨u,rfl,rx⟩:=mB r
 cases rx
 have hn:=kG
 rcases hq with hq|hq
 ·
  obtain⟨its,r',pl,hz⟩:=I.list hq
  have hlen:=r'.length
  exact Calls.call_len_list pl.isList (by simp only[List.size_toArray]<;>omega) ⟨.int ys.length,H,I.tok _,⟨s.toks+1,by rw[List.size_toArray,hlen]⟩,q⟩
 ·
  obtain⟨its,r',pl,hz⟩:=I.tuple hq
  have hlen:=r'.length
  exact len_tuple pl (by simp only[List.size_toArray]<;>omega) ⟨.int ys.length,H,I.tok _,⟨s.toks+1,by rw[List.size_toArray,hlen]⟩,q⟩
theorem nE:fT X (.builtin "len") (fun xs H Q=>∃ z,xs=[.str z]∧z.length≤sizeLine∧Q (.int z.length) H):=by
 intro pins s σ H xs us Q I r h
 obtain⟨z,rfl,hz,q⟩:=h
 obtain⟨u,rfl,t,rfl⟩:=mB r
 have hn:=kG
 exact len_str (by omega) ⟨.int z.length,H,I.tok _,⟨_,rfl⟩,q⟩
theorem fT.or{f:Value}{r r':List V→Hp→VK→Prop}(h:fT X f r)(h':fT X f r'):fT X f (fun xs H Q=>r xs H Q∨r' xs H Q):=by
 intro pins s σ H xs us Q I rs q
 rcases q with q|q
 ·
  exact h pins s σ H xs us Q I rs q
 ·
  exact h' pins s σ H xs us Q I rs q
theorem nF:fT X (.type "list") (fun xs H Q=>∃ p ys,xs=[.ref p]∧(SqL X.K H p ys∨SqT X.K H p ys)∧∀ l,H l=none→Q (.ref l) (upd H l (.lst ys))):=by
 intro pins s σ H xs us Q I r h
 obtain⟨p,ys,rfl,hq,q⟩:=h
 obtain⟨u,rfl,rx⟩:=mB r
 cases rx
 have fin:∀(its:List Value),Vals ys its→ys.length≤sizeLine→∀(h':Heap)(c':Nat),(∀b o',s.heap.get? b=some o'→h'.get? b=some o') →
   h'.get? s.heap.objs.size=some {cls:=.type "list",dict:=none,data:=.seq its.toArray c',slots:=#[] }→EP X pins σ Q (.ref s.heap.objs.size) {s with heap:=h' }:=fun its r' hz h' c' kp e =>
  ⟨.ref s.heap.objs.size,_,I.laid (t':=s.toks) kp (Nat.le_refl _) (show b9 X.prog X.w _ h' _ (.lst ys)from⟨hz,its,c',r',e⟩),rfl,q _ (I.hok.fresh (Nat.le_refl _))⟩
 rcases hq with hq|hq
 ·
  obtain⟨its,r',pl,hz⟩:=I.list hq
  have hlen:=r'.length
  obtain⟨o,ho,hc,n,hd⟩:=pl.isList
  exact call_list_seq p (.inl rfl) ho hc hd (fun h' c' kp e=>fin its r' hz h' c' kp e) (by simp only[List.size_toArray]<;>omega)
 ·
  obtain⟨its,r',pl,hz⟩:=I.tuple hq
  have hlen:=r'.length
  obtain⟨o,ho,hc,n,hd⟩:=pl
  exact call_list_seq p (.inr rfl) ho hc hd (fun h' c' kp e=>fin its r' hz h' c' kp e) (by simp only[List.size_toArray]<;>omega)
theorem mE:fT X (.type "tuple") (fun xs H Q=>∃ p ys,xs=[.ref p]∧((SqL X.K H p ys∧∀ l,H l=none→Q (.ref l) (upd H l (.tup ys)))∨(SqT X.K H p ys∧Q (.ref p) H))):=by
 intro pins s σ H xs us Q I r h
 obtain⟨p,ys,rfl,h⟩:=h
 obtain⟨u,rfl,rx⟩:=mB r
 cases rx
 rcases h with⟨hq,q⟩|⟨hq,q⟩
 ·
  obtain⟨its,r',pl,hz⟩:=I.list hq
  have hlen:=r'.length
  refine call_tuple_list pl.isList (fun h' kp=>?_) (by simp only[List.size_toArray]<;>omega)
  have I1:Inv X pins σ H {s with heap:=h' }:=I.kept (t':=s.toks) kp
  have I2:Inv X pins σ (upd H h'.objs.size (.tup ys)) {s with heap:=h'.push {cls:=.type "tuple",data:=.seq its.toArray} } :=
   I1.laid (t':=s.toks) (fun b o e=>Heap.get?_push_of_some _ e) (Nat.le_refl _) (show b9 X.prog X.w _ _ _ (.tup ys)from⟨hz,its,r',IsTup.new _ _⟩)
  exact⟨.ref h'.objs.size,_,I2,rfl,q _ (I1.hok.fresh (Nat.le_refl _))⟩
 ·
  obtain⟨its,r',pl,hz⟩:=I.tuple hq
  exact call_tuple_same pl ⟨.ref p,H,I,rfl,q⟩
def tyV(K:PySem.W.Frag)(T:String)(x:V)(H:Hp):Prop:=match x with
 |.str _=>T="str"
 |.int _=>T="int"
 | .ref p=>(T="list"∧∃ xs,SqL K H p xs)∨(T="tuple"∧∃ o,K.lookup p=some o∧o.cls=.type "tuple"∧o.dict=none) ∨
   (T="dict"∧((∃ kvs,H p=some (.dK kvs))∨∃ kvs,H p=some (.dT kvs)))∨(T="set"∧∃ S n,H p=some (.set S n))
 |_=>False
theorem AO{pins:List (Addr×Obj)}{σ:St}{H:Hp}{s:Shared}{T:String}{x:V}{v:Value}(I:Inv X pins σ H s)(r:RelV x v)(ty:tyV X.K T x H) :
  s.TypeIs v T∧∀a,v=.ref a→∃ob,s.heap.get? a=some ob∧ob.dict=none:=by
 cases x with
 | str z =>
  obtain⟨t,rfl⟩:=r
  cases(show T="str" from ty)
  exact⟨typeIs_str s z t,fun _ e=>nomatch e⟩
 | int i =>
  obtain⟨t,rfl⟩:=r
  cases(show T="int" from ty)
  exact⟨typeIs_int s i t,fun _ e=>nomatch e⟩
 | ref p =>
  cases r
  rcases ty with⟨rfl,xs,hq⟩|⟨rfl,o,hk,hc,hd⟩|⟨rfl,hk⟩|⟨rfl,S,n,hk⟩
  ·
   obtain⟨its,_,pl,_⟩:=I.list hq
   refine⟨pl.isList.typeIs,fun a e=>?_⟩
   cases e
   obtain⟨o,n,e,c,hd,_⟩:=pl
   exact⟨o,e,hd⟩
  ·
   refine⟨⟨o,I.kIn p o hk,hc⟩,fun a e=>?_⟩
   cases e
   exact⟨o,I.kIn _ o hk,hd⟩
  ·
   have z:∃o,s.heap.get? p=some o∧o.ExactDict:=by
    rcases hk with⟨kvs,hk⟩|⟨kvs,hk⟩
    ·
     obtain⟨_,_,_,_,o,_,_,e,ex,_⟩:=I.hok p _ hk
     exact⟨o,e,ex⟩
    ·
     obtain⟨_,_,_,_,o,_,_,e,ex,_⟩:=I.hok p _ hk
     exact⟨o,e,ex⟩
   obtain⟨o,e,ex⟩:=z
   refine⟨⟨o,e,ex.1⟩,fun a e2=>?_⟩
   cases e2
   exact⟨o,e,ex.2.1⟩
  ·
   obtain⟨o,_,_,_,e,ex,_⟩:=I.hok p _ hk
   refine⟨⟨o,e,ex.1⟩,fun a e2=>?_⟩
   cases e2
   exact⟨o,e,ex.2.1⟩
 |_=>exact False.elim ty
def tBM(K:PySem.W.Frag)(T:String)(r:V→List V→Hp→VK→Prop)(to:TE)(t:TA):TE:=fun σ H Q=>to σ H fun x H1=>tyV K T x H1∧t σ H1 fun xs H2=>r x xs H2 Q
variable{o e:Expr}{es:List Expr}{to:TE}{t:TA}{name:Str}{apos cpos:Pos}{T id:String}{r:V→List V→Hp→VK→Prop}
theorem Cf(pa:PlainAttrs T)(slot:Slot T name id) (hty:typeOf (.builtin id)=pure (.type "method_descriptor")) (hm:MtR X id r) (ho:PE X o to) (ha:PA X (e::es) t)
  (hbase:attributeBase o name X.env (eval o X.env)=eval o X.env:=by rfl)
  (hfew:((backTo cpos (starEach (e::es) X.env)).all (fun x=>!x.1) && (backToKw cpos (keywordEach [] X.env)).all (fun x=>x.1.isSome)
   && decide ((e::es).length+([]:List Keyword).length+(if([]:List Keyword).isEmpty then 0 else 1)<30))=true:=by rfl)
  (hline:(apos.endLine == cpos.line)=true:=by rfl) (hs:starEach (e::es) X.env=(false,eval e X.env)::starEach es X.env:=by rfl) (hplain:(backTo cpos (starEach es X.env)).any (·.1)=false:=by rfl) :
  PE X (.Call (.Attribute o name apos) (e::es) [] cpos) (tBM X.K T r to t):=by
 intro pins s σ H Q I h
 refine wpAny_Call_method_late hbase hfew hline rfl (thn (ho pins s σ H _ I h) fun v s1 ⟨x,H1,I1,r1,ty,q1⟩=>?_)
 obtain⟨h1,h2⟩:=AO I1 r1 ty
 refine⟨T,id,pa,slot,hty,h1,h2,?_⟩
 have hA:=ha cpos pins s1 σ H1 _ I1 q1
 rw[hs]at hA ⊢
 refine Calls.callWith_builtin (by show(false ||(backTo cpos (starEach es X.env)).any (·.1))=false;rw[hplain]<;>rfl) (Calls.evalArgs_plain ?_)
 exact thn hA fun us s2 ⟨vs,H2,I2,r2,q2⟩=>hm pins s2 σ H2 x vs v us Q I2 r1 r2 q2
/- xs.append(e),list.index on a module's tuple .. are MtR facts of 06m -/
end
def MtM(X:Cx)(id:String)(r:V→List V→Hp→VK→Prop):Prop :=
 ∀(pins:List (Addr×Obj))(s:Shared)(σ:St)(H:Hp)(x:V)(xs:List V)(v:Value)(us:List Value)(Q:VK),Inv X pins σ H s→RelV x v→Vals xs us→r x xs H Q →
  wpAny (model X.prog X.w) X.A (call (.builtin id) (v::us)) (EP X pins σ Q) X.xe s
theorem Vals.one:∀{x:V}{us:List Value},Vals [x] us→∃u,us=[u]∧RelV x u
 |_,_,.cons r .nil=>⟨_,rfl,r⟩
theorem Vals.rep{xs:List V}{us:List Value}(h:Vals xs us):∀k:Nat,Vals (List.replicate k xs).flatten (List.replicate k us).flatten
 |0=>.nil
 | k+1=>by
  rw[List.replicate_succ,List.replicate_succ,List.flatten_cons,List.flatten_cons]
  exact Vals.append h (Vals.rep h k)
theorem kI(its:List Value):∀(k:Nat)(acc:List Value),
  List.foldl (fun x1 x2=>x1++x2) acc.toArray (List.replicate k its.toArray)=(acc++(List.replicate k its).flatten).toArray
 |0,acc=>by simp
 | k+1,acc=>by
  have e:acc.toArray++its.toArray=(acc++its).toArray:=by simp
  have e2:(acc++its)++(List.replicate k its).flatten=acc++(List.replicate (k+1) its).flatten:=by
   rw[List.replicate_succ,List.flatten_cons,List.append_assoc]
  rw[← e2,← kI its k (acc++its),← e,List.replicate_succ,List.foldl_cons]
section
variable{X:Cx}{pins:List (Addr×Obj)}{σ:St}{H:Hp}{s:Shared}{l:Addr}{xs ys:List V}
theorem Inv.lset{its its':List Value}{n:Nat}{f:Array Value→Array Value}{t':Nat}(I:Inv X pins σ H s)(hH:H l=some (.lst xs))
  (e:s.heap.get? l=some {cls:=.type "list",data:=.seq its.toArray n}) (hf:f its.toArray=its'.toArray) (hv:Vals ys its') (hz:ys.length≤sizeLine) :
  Inv X pins σ (upd H l (.lst ys)) {s with heap:=s.heap.update l (Obj.mapSeq f),toks:=t' }:=by
 have q:=PySem.IsL.update e f
 rw[hf]at q
 refine I.write (x:=l) (e:=l) (by rw[hH];exact trivial) (.inl rfl) (fun b' u hb hu=>(Heap.get?_update_other s.heap (Obj.mapSeq f) (Ne.symm hb)).trans hu) ⟨_,q⟩ ?_
 exact⟨hz,its',_,hv,q⟩
theorem Inv.lnew{its:List Value}{t':Nat}(I:Inv X pins σ H s)(hv:Vals ys its)(hz:ys.length≤sizeLine) :
  Inv X pins σ (upd H s.heap.objs.size (.lst ys)) {s with heap:=s.heap.push {cls:=.type "list",data:=.seq its.toArray},toks:=t' } :=
 I.laid (fun _ _ q=>Heap.get?_push_of_some _ q) (Nat.le_refl _) ⟨hz,its,0,hv,Heap.get?_push_size _ rfl⟩
theorem Inv.fresh(I:Inv X pins σ H s):H s.heap.objs.size=none:=I.hok.fresh (Nat.le_refl _)
theorem Inv.lstM(I:Inv X pins σ H s)(hH:H l=some (.lst xs)):xs.length≤sizeLine∧∃(its:List Value)(n:Nat),Vals xs its∧xs.length=its.length∧s.heap.get? l=some {cls:=.type "list",data:=.seq its.toArray n}:=by
 obtain⟨z,its,n,r,e⟩:=I.hok l _ hH
 exact⟨z,its,n,r,r.length,e⟩
theorem qq{n:Nat}(h:n≤sizeLine):Builtin.List.listTooLong n=false:=by
 unfold Builtin.List.listTooLong
 exact decide_eq_false (by omega)
end
section
variable{X:Cx}
def yo:V→List V→Hp→VK→Prop:=fun x vs H Q=>∃l xs y,x=.ref l∧vs=[y]∧H l=some (.lst xs)∧xs.length<sizeLine∧Q .non (upd H l (.lst (xs++[y])))
theorem nG:MtM X "list.append" yo:=by
 intro pins s σ H x vs v us Q I rx rv h
 obtain⟨l,xs,y,rfl,rfl,hH,hz,q⟩:=h
 cases rx
 obtain⟨u,rfl,ru⟩:=rv.one
 obtain⟨z,its,n,r,hl,e⟩:=I.lstM hH
 refine call_meets F.slot_list_append ⟨_,e,rfl⟩ F.entry_list_append (F.args_list_append_2 _ _) (PySem.list_append l its.toArray n u (by rw[List.size_toArray];omega)) ⟨e,?_⟩
 refine⟨.non,_,I.lset (its':=its++[u]) hH e (by simp) (r.append (.cons ru .nil)) ?_,rfl,q⟩
 rw[List.length_append,List.length_singleton]
 omega
def rRep:R2:=fun x y H Q=>∃l k xs,x=.ref l∧y=.int k∧H l=some (.lst xs)∧-(2^63)≤k∧k<2^63∧xs.length*k.toNat≤sizeLine ∧
 ∀p,H p=none→Q (.ref p) (upd H p (.lst (List.replicate k.toNat xs).flatten))
theorem tR{α:Type}(xs:List α)(k:Nat):(List.replicate k xs).flatten.length=k*xs.length:=by
 induction k with
 |zero=>simp
 |succ k ih=>rw[List.replicate_succ,List.flatten_cons,List.length_append,ih,Nat.succ_mul,Nat.add_comm]
theorem AQ:OpR X (binaryOp .Mult) rRep:=by
 intro pins s σ H x y v u Q I rx ry h
 obtain⟨l,k,xs,rfl,rfl,hH,h1,h2,hz,q⟩:=h
 cases rx
 obtain⟨t,rfl⟩:=ry
 obtain⟨z,its,n,r,hl,e⟩:=I.lstM hH
 have hlen:its.toArray.size*k.toNat≤sizeLine:=by rw[List.size_toArray,← hl];exact hz
 have hcap:¬its.toArray.size*k.toNat > (2^63-1) / 8:=by
  have:(sizeLine:Nat)≤(2^63-1) / 8:=by decide
  omega
 have hfit:¬(!Builtin.List.listFitsIndex k)=true:=by
  rw[fitsIndex_both h1 h2]
  exact Bool.false_ne_true
 have hlong:¬Builtin.List.listTooLong (its.toArray.size*k.toNat)=true:=by
  rw[qq hlen]
  exact Bool.false_ne_true
 have hnew:List.foldl (fun x1 x2=>x1++x2) #[] (List.replicate (if its.toArray.isEmpty=true then 0 else k.toNat) its.toArray)=(List.replicate k.toNat its).flatten.toArray:=by
  have f0:∀m:Nat,List.foldl (fun x1 x2=>x1++x2) #[] (List.replicate m its.toArray)=(List.replicate m its).flatten.toArray:=fun m=>by
   have:=kI its m []
   rw[List.nil_append]at this
   exact this
  rw[f0]
  cases its with
  |nil=>simp
  |cons a r'=>rw[if_neg (by simp)]
 refine wpAny_binaryOp_repeat_ref (T:="list") (U:="int") (by decide) ⟨_,e,rfl⟩ (fun s'=>typeIs_int s' k t) noFill_list_mul F.fills_int_mul F.slot_int_rmul repeat_list F.slot_int_index.lookup
  (call_meets F.slot_int_rmul (typeIs_int s k t) F.entry_int_rmul (F.args_int_rmul_2 _ _) (int___rmul___int_list k t l its.toArray n)
   ⟨e,rfl,⟨_,e,rfl⟩,call_meets F.slot_list_mul ⟨_,e,rfl⟩ F.entry_list_mul (F.args_list_mul_2 _ _) (AutoListH.list___mul___list_int_3 l its.toArray n k t hfit hcap hlong) ⟨e,?_⟩⟩)
 rw[hnew]
 exact⟨.ref _,_,I.lnew (t':=s.toks) (r.rep k.toNat) (by rw[tR,Nat.mul_comm];exact hz),rfl,q _ I.fresh⟩
end
end L2
namespace Att
open PySem PySem.W PySem.Calls PyProof.Rows
theorem kJ{P:Params}{h:Heap}:∀(ns:List Int)(vs:List Value),WellAll P h vs (ns.map WData.int)→IntsAre vs ns:=by
 intro ns
 induction ns with
 | nil =>
  intro vs w
  rw[List.map_nil]at w
  cases w
  exact .nil
 | cons n ns ih =>
  intro vs w
  rw[List.map_cons]at w
  cases w with
  | cons a b =>
   cases a
   exact .cons _ _ (ih _ b)
theorem tS{l:OpenLaw}{n:Nat}(hn:l.most=some n){P:Params}{h:Heap}{args:List WData}{vals:List Value}
  (hpre:l.row.toRowW.claim.pre args=true) (hwl:WellAll P h vals args) :
  ∃ a vs ns,vals=[Value.ref a]∧args=[WData.list (ns.map WData.int)]∧h.get? a=some {cls:=.type "list",data:=.seq vs.toArray}∧IntsAre vs ns∧ns.length≤n:=by
 have hsh:WShape.hasAll [] args [.list .int]=true:=(pre_splitW hpre).1
 have hc:l.pre.holds [] {args:=args}=true:=(pre_splitW hpre).2
 obtain⟨d,r,rfl,h1,h2⟩:=hasAllW_cons hsh
 obtain rfl:=hasAllW_nil h2
 obtain⟨xs,rfl,h3⟩:=hasW_list h1
 obtain⟨ns,rfl⟩:=items_int h3
 have hlen:ns.length≤n:=by
  unfold OpenLaw.pre at hc
  have h4:(WTm.not (.lt (.lit (.int (n:Int))) (.len (.arg 0)))).holds [] {args:=[.list (ns.map .int)] }=true:=by
   have h4:=(holds_andW hc).1
   rw[hn]at h4
   exact h4
  have h5:=condW_of h4 (w_not (w_lt w_lit (w_len_list (w_arg rfl))))
  rw[List.length_map]at h5
  refine Nat.le_of_not_lt fun q=>?_
  have q':(n:Int)<((ns.length:Nat):Int):=by omega
  first
   |(rw[decide_eq_true q']at h5;exact absurd h5 (by decide))
   |(simp at h5;omega)
 cases hwl with
 | cons w1 w2 =>
  cases w2
  cases w1 with
  |list ho hall=>exact⟨_,_,ns,rfl,rfl,ho,kJ ns _ hall,hlen⟩
theorem tT(l:OpenLaw)(args:List WData):l.row.toRowW.claim.post args (.bool true) args=true :=
 postW_of (r:=l.row.toRowW) (X:=(true == true))
  (show WShape.has [] (.bool true) .bool=true by first|rfl|decide|simp[WShape.has,WShape.arms,WShape.armsAll])
  (show(WTm.eq .res (.lit (.bool true))).value [] {args:=args,res:=some (.bool true),after:=args}=some (.bool (true == true))from w_eq_bool (w_res rfl) w_lit) rfl
theorem attach_call{l:OpenLaw}{n:Nat}{q:Program}{loose:List Str}{XP:(Str→Option Value)→Heap→Prop}{YP:World→Heap→Prop}{d:DefRec}
  (hn:l.most=some n) (hdf:d.params.defaults=[])
  (call:∀(w:World)(s₀ s₁:Shared)(mg mb:Str→Option Value)(fa:Addr)(o:Obj)(pm cd doc:Value)(a:Addr)(vs:List Value)(ns:List Int),
   Ground q loose [] XP w s₀ mg mb s₁.heap→YP w s₁.heap →
   s₁.heap.get? fa=some o→o.data=.func (docDef d.name d.params d.body d.scope pm cd doc)→s₁.heap.CodeRec cd d.name→mg d.name=some (.ref fa) →
   s₁.heap.get? a=some {cls:=.type "list",data:=.seq vs.toArray}→IntsAre vs ns→ns.length≤n→s₁.gens=#[] →
   codeAny (model l.prog w) callerA (.call (.ref fa) ⟨[.ref a],[]⟩) (fun r s'=>r=.ok (.ret (.bool true))∧OldK s₁.heap s'.heap∧s'.os=s₁.os∧AllBare s'.gens) s₁) :
  WalkO q loose XP YP l.row.toRowW d [] (fun f vs=>PySem.call f vs):=by
 intro w s₀ s₁ mg mb G Y fa o pm cd doc dV kV ho hd hcd hD hmg hg args vals as hpre hlay hrd hwl hlo
 obtain rfl:dV=.none:=Dflts.none hD hdf
 obtain rfl:kV=.none:=Dflts.noKw hD
 obtain⟨a,vs,ns,rfl,rfl,hobj,hints,hlen⟩:=tS hn hpre hwl
 refine enter_call (codeAny_mono (call w s₀ s₁ mg mb fa o pm cd doc a vs ns G Y ho (fd_plain hd) hcd hmg hobj hints hlen hg) fun r s' hq=>?_)
 obtain⟨rfl,h2,h3,h4⟩:=hq
 exact⟨.inl ⟨.bool true,.bool true,[],rfl,fun _=>rfl,.bool true,tT l _,fun _=>⟨List.Pairwise.nil,fun _ hm=>(nomatch hm)⟩⟩,h2,h3,h4⟩
section
def CW(h:Heap)(L d:Addr):List (Addr×Obj):=(List.range h.objs.size).filterMap fun a=>if a=L∨a=d then none else(h.get? a).map fun o=>(a,o)
end
end Att
namespace L2
open PySem PySem.Spec PyProof.Rows
theorem nH:∀{vs:List Value}{ns:List Int},IntsAre vs ns→Vals (ns.map V.int) vs
 |_,_,.nil=>.nil
 |_,_,.cons n t h=>.cons ⟨t,rfl⟩ (nH h)
def Only(H:Hp):Prop:=∀b,H b=none∨(∃o xs,H b=some (.frz o (.lst xs)))∨∃q,H b=some (.tbl q)
def cT(K:PySem.W.Frag):List (Addr×Str):=lamNames.filterMap fun x=>(PySem.W.tabIn K x).map fun p=>(p.2,lamQ x)
def tabsOk(K:PySem.W.Frag):Bool:=decide ((cT K).map (·.1)).Nodup && (cT K).all fun p=>(K.lookup p.1).isNone
theorem tU{K:PySem.W.Frag}{P:Addr}{q:Str}(h:(P,q)∈cT K):∃x∈lamNames,∃c,PySem.W.tabIn K x=some (c,P)∧q=lamQ x:=by
 obtain⟨x,hx,e⟩:=List.mem_filterMap.mp h
 cases z:PySem.W.tabIn K x with
 |none=>rw[z]at e;cases e
 |some p=>rw[z]at e;cases e;exact⟨x,hx,p.1,z,rfl⟩
theorem hV{α β:Type}[BEq α][LawfulBEq α]:∀{l:List (α×β)}{a:α}{b:β},l.lookup a=some b→(a,b)∈l
 |[],_,_,h=>nomatch h
 | (x,y)::r,a,b,h=>by
  rw[List.lookup_cons]at h
  cases hb:a == x with
  |true=>rw[hb]at h;cases h;rw[eq_of_beq hb];exact .head _
  |false=>rw[hb]at h;exact .tail _ (hV h)
theorem fX{α β:Type}[BEq α][LawfulBEq α]:∀{l:List (α×β)}{a:α}{b:β},(l.map (·.1)).Nodup→(a,b)∈l→l.lookup a=some b
 |[],_,_,_,h=>nomatch h
 | (x,y)::r,a,b,nd,h=>by
  rw[List.map_cons,List.nodup_cons]at nd
  rw[List.lookup_cons]
  rcases List.mem_cons.mp h with e|h
  ·
   cases e;simp
  ·
   have:a≠x:=fun z=>nd.1 (z ▸ List.mem_map_of_mem (f:=(·.1)) h)
   rw[show(a == x)=false from beq_false_of_ne this]
   exact fX nd.2 h
theorem rO{K:PySem.W.Frag}{x:Str}{c P:Addr}(h:PySem.W.tabIn K x=some (c,P)):K.lookup c≠none:=by
 unfold PySem.W.tabIn at h
 split at h
 ·
  split at h
  ·
   split at h
   ·
    split at h
    ·
     rename_i hco
     split at h
     ·
      cases h;intro z;rw[hco]at z;cases z
     ·
      cases h
    ·
     cases h
   ·
    cases h
  ·
   cases h
 ·
  cases h
theorem vU{P:Program}{w:World}{K:PySem.W.Frag}{mg mb:Str→Option Value}{CX:CXT}{k:Nat}{fa a:Addr}{fd:FuncData}{x:Str}{sp:Sp}{s₁:Shared}{vs:List Value}{ns:List Int}
  (KX:K.In s₁.heap) (hns:s₁.heap.Ns mainGlobals mg) (hb:s₁.heap.Ns builtinsNs mb) (hbb:∀ x:Str,x≠"__name__"→mb x=bootBuiltins x) (hlim:s₁.heap.NoLimit) (hsys:∃ mm,s₁.heap.Ns sysModules mm) (hbm:Ar mg s₁.heap) (hto:tabsOk K=true)
  (htb:∀x∈lamNames,∀c P,PySem.W.tabIn K x=some (c,P)→PySem.W.CodeHd s₁.heap c P∧s₁.heap.get? P=some (PySem.W.tabObj #[])) (hg:s₁.gens=#[])
  (ha:s₁.heap.get? a=some {cls:=.type "list",data:=.seq vs.toArray}) (hi:IntsAre vs ns) (hl:ns.length≤sizeLine) (hr:Room k callerA)
  (F:∀base:Heap,K.In base→base.Ns mainGlobals mg→FnOk P w K mg base CX k fa fd [x] sp) (hbind:∀(s:Shared)(u:Value),BindsTo s fd ⟨[u],[]⟩ [(x,u)])
  (hsp:∀H:Hp,Only H→SqL K H a (ns.map V.int)→sp [.ref a] H (fun v _=>v=.bl true) fun _ _ _=>False)
  (hCX:∀H e s',CX [] H s₁ (fun _ _ _=>False) e s'→False) :
  codeAny (model P w) callerA (.call (.ref fa) ⟨[.ref a],[]⟩) (fun r s'=>r=.ok (.ret (.bool true))∧OldK s₁.heap s'.heap∧s'.os=s₁.os∧AllBare s'.gens) s₁:=by
 have rv:=nH hi
 have lenV:=hi.length
 obtain⟨nd,kn⟩:=Bool.and_eq_true_iff.mp hto
 have nd:=of_decide_eq_true nd
 have tabAt:∀{b:Addr}{q:Str},(cT K).lookup b=some q→PySem.isCodeTable s₁.heap b∧s₁.heap.get? b=some (PySem.W.tabObj #[])∧K.lookup b=none:=fun {b q} e=>by
  have hm:(b,q)∈cT K:=hV e
  obtain⟨x,hx,c,e1,_⟩:=tU hm
  obtain⟨h1,h2⟩:=htb x hx c b e1
  refine⟨(h1.tab h2).isCodeTable,h2,?_⟩
  have:=List.all_eq_true.mp kn (b,q) hm
  simpa using this
 have core:∀H:Hp,Only H→SqL K H a (ns.map V.int)→HOk P w H s₁.heap→(∀b,H b≠none→b=a∨∃q,H b=some (.tbl q)∧(cT K).lookup b=some q)→(∀b,H b≠none→K.lookup b=none)→Tbs K H →
   codeAny (model P w) callerA (.call (.ref fa) ⟨[.ref a],[]⟩) (fun r s'=>r=.ok (.ret (.bool true))∧OldK s₁.heap s'.heap∧s'.os=s₁.os∧AllBare s'.gens) s₁:=by
  intro H hO hS hok hA hK hT
  have base_of:∀{b:Addr}{o:Obj},s₁.heap.get? b=some o→H b=none→(hidT s₁.heap H).get? b=some o:=fun e n=>vI e n
  have noB:∀{b:Addr}{o:Obj},s₁.heap.get? b=some o→(∀us n,o.data≠.seq us n)→(∀us,o.data≠.fields us)→H b=none:=fun {b o} e d1 d2=>by
   cases q:H b with
   |none=>rfl
   | some u =>
    rcases hA b (by rw[q];simp)with e' | ⟨z,_,e'⟩
    ·
     subst e'
     rw[ha]at e;cases e
     exact absurd rfl (d1 _ _)
    ·
     rw[(tabAt e').2.1]at e;cases e
     exact absurd rfl (d2 _)
  have noA:∀{b:Addr}{o:Obj}{es:Array DictEntry}{ep:Nat},s₁.heap.get? b=some o→o.data=.dict es ep→H b=none:=fun {b o es ep} e d =>
   noB e (fun us n z=>by rw[d]at z;cases z) fun us z=>by rw[d]at z;cases z
  have nsK:∀{b:Addr}{m:Str→Option Value},s₁.heap.Ns b m→(hidT s₁.heap H).Ns b m:=fun {b m} ⟨o,es,ep,e,d,r⟩=>⟨o,es,ep,base_of e (noA e d),d,r⟩
  have hKb:K.In (hidT s₁.heap H):=fun b o e=>base_of (KX b o e) (by
   cases q:H b with
   |none=>rfl
   |some u=>rw[hK b (by rw[q];simp)]at e;cases e)
  have hM:Mod K mg (hidT s₁.heap H):=⟨hKb,nsK hns,⟨mb,nsK hb,hbb⟩,let ⟨mc,h1,h2⟩:=hlim;⟨mc,nsK h1,h2⟩,let ⟨mm,h1⟩:=hsys;⟨mm,nsK h1⟩,by
   obtain⟨bm,ob,b1,b2,b3,b4,b5,b6⟩:=hbm
   exact⟨bm,ob,b1,b2,base_of b3 (noB b3 (fun us n z=>by rw[b6]at z;cases z) fun us z=>by rw[b6]at z;cases z),b4,b5,b6⟩,fun x hx c P e=>by
   obtain⟨⟨o,vs,file,tf,flags,tg,inF,text,tt,e1,r⟩,_⟩:=htb x hx c P e
   exact⟨o,vs,file,tf,flags,tg,inF,text,tt,base_of e1 (by
    cases q:H c with
    |none=>rfl
    |some u=>exact absurd (hK c (by rw[q];simp)) (rO e)),r⟩⟩
  have e0:Env0 P w K mg (hidT s₁.heap H) callerA [] s₁ H:=⟨rfl,hM,fun b o e=>yb e,Nat.le_of_eq (sV _ _),trivial,fun b hb=>absurd (show b∈([]:List Addr)from hb) (by simp),hok,.of_eq hg,hT⟩
  refine codeAny_mono ((F _ hKb (nsK hns)).run callerA [] s₁ H ⟨[.ref a],[]⟩ [.ref a] [.ref a] _ _ hr e0 (hbind s₁ (.ref a)) (.cons rfl .nil) (hsp H hO hS)) fun r s' h=>?_
  cases r with
  |error e=>exact(hCX H e s' h).elim
  | ok fl =>
   cases fl with
   |next=>exact False.elim h
   |brk=>exact False.elim h
   |cont=>exact False.elim h
   | ret u =>
    obtain⟨v,H',os,bare,un,hok',r',q⟩:=h
    have q':v=.bl true:=q
    subst q'
    obtain rfl:u=Value.bool true:=r'
    have fin:∀b o,s₁.heap.get? b=some o→s'.heap.get? b=some o∨(PySem.isCodeTable s₁.heap b∧o=PySem.W.tabObj #[]∧∃ps,s'.heap.get? b=some (PySem.W.tabObj ps)):=fun b o e=>by
     cases q:H b with
     |none=>exact .inl (un.keep b o e q (by intro z;exact absurd (show b∈([]:List Addr)from z) (by simp)) (by simp))
     | some u =>
      rcases hO b with z|⟨ob,xs,z⟩|⟨t,z⟩
      ·
       rw[q]at z;cases z
      ·
       have z2:=un.frzs b ob _ z
       obtain⟨e1,_⟩:=hok b _ z
       obtain⟨e2,_⟩:=hok' b _ z2
       rw[e]at e1;cases e1
       exact .inl e2
      ·
       rcases hA b (by rw[q];simp)with e' | ⟨t2,_,e'⟩
       ·
        subst e'
        obtain⟨ps,e1,_⟩:=hok b _ z
        rw[ha]at e1;cases e1
       ·
        obtain⟨ps,e2,_⟩:=hok' b _ (un.tbls b _ z)
        obtain⟨t1,t2,_⟩:=tabAt e'
        rw[e]at t2;cases t2
        exact .inr ⟨t1,rfl,ps,e2⟩
    refine⟨rfl,⟨fun b o e=>?_,fun b o e=>?_⟩,os,bare⟩
    ·
     rcases fin b o e with z|⟨t,rfl,ps,z⟩
     ·
      exact .inl z
     ·
      exact .inr (.inl ⟨t,rfl,#[],ps,rfl,by rw[Array.empty_append];exact z⟩)
    ·
     rcases fin b o e with z|⟨t,_,ps,z⟩
     ·
      exact⟨o,z⟩
     ·
      exact⟨_,z⟩
 have tbsOf:∀{H:Hp},(∀b q,(cT K).lookup b=some q→H b=some (.tbl q))→Tbs K H:=fun {H} h x hx c P e=>h P _ (fX nd (List.mem_filterMap.mpr ⟨x,hx,by rw[e];rfl⟩))
 have okT:∀{H:Hp}{b:Addr}{q:Str},(cT K).lookup b=some q→b9 P w H s₁.heap b (.tbl q):=fun {H b q} e=>⟨#[],(tabAt e).2.1,trivial,fun pos cv z=>by simp[codeAmong]at z⟩
 have na:∀q,(cT K).lookup a≠some q:=fun q z=>by
  have:=(tabAt z).2.1
  rw[ha]at this;cases this
 cases hk:K.lookup a with
 | some o =>
  have e:=KX a o hk
  rw[ha]at e
  cases e
  refine core (fun b=>((cT K).lookup b).map .tbl) (fun b=>?_) (.inr ⟨_,vs.toArray,_,hk,rfl,rfl,rfl,by rw[List.size_toArray,lenV];exact hl,by simpa using rv⟩) (fun b u z=>?_) (fun b z=>?_) (fun b z=>?_) (tbsOf fun b q e=>by show Option.map _ _=_;rw[e];rfl)
  ·
   show Option.map HO.tbl ((cT K).lookup b)=none∨_
   cases q:(cT K).lookup b with
   |none=>exact .inl rfl
   |some t=>exact .inr (.inr ⟨t,by show Option.map _ _=_;rw[q];rfl⟩)
  ·
   have z':Option.map HO.tbl ((cT K).lookup b)=some u:=z
   cases q:(cT K).lookup b with
   |none=>rw[q]at z';cases z'
   |some t=>rw[q]at z';cases z';exact okT q
  ·
   have z':Option.map HO.tbl ((cT K).lookup b)≠none:=z
   cases q:(cT K).lookup b with
   |none=>rw[q]at z';exact absurd rfl z'
   |some t=>exact .inr ⟨t,rfl,rfl⟩
  ·
   have z':Option.map HO.tbl ((cT K).lookup b)≠none:=z
   cases q:(cT K).lookup b with
   |none=>rw[q]at z';exact absurd rfl z'
   |some t=>exact(tabAt q).2.2
 | none =>
  have at_a:∀ b,(if b=a then some (HO.frz {cls:=.type "list",data:=.seq vs.toArray} (.lst (ns.map V.int)))else((cT K).lookup b).map .tbl)≠none→b=a∨∃ q,(cT K).lookup b=some q:=fun b z=>by
   by_cases hb:b=a
   ·
    exact .inl hb
   ·
    rw[if_neg hb]at z
    cases q:(cT K).lookup b with
    |none=>rw[q]at z;exact absurd rfl z
    |some t=>exact .inr ⟨t,rfl⟩
  have tabA:∀ b q,(cT K).lookup b=some q→(if b=a then some (HO.frz {cls:=.type "list",data:=.seq vs.toArray} (.lst (ns.map V.int)))else((cT K).lookup b).map .tbl)=some (.tbl q):=fun b q e=>by
   rw[if_neg (fun (z:b=a)=>na q (by rw[← z];exact e)),e];rfl
  refine core (fun b=>if b=a then some (.frz {cls:=.type "list",data:=.seq vs.toArray} (.lst (ns.map V.int)))else((cT K).lookup b).map .tbl) (fun b=>?_) (.inl (.inr ⟨{cls:=.type "list",data:=.seq vs.toArray},if_pos rfl⟩)) (fun b u z=>?_) (fun b z=>?_) (fun b z=>?_) (tbsOf fun b q e=>tabA b q e)
  ·
   by_cases hb:b=a
   ·
    exact .inr (.inl ⟨_,_,if_pos hb⟩)
   ·
    cases q:(cT K).lookup b with
    |none=>exact .inl (by show ite _ _ _=_;rw[if_neg hb,q];rfl)
    |some t=>exact .inr (.inr ⟨t,tabA b t q⟩)
  ·
   by_cases hb:b=a
   ·
    have z':=(if_pos hb).symm.trans z
    cases z'
    subst hb
    exact⟨ha,by rw[List.length_map];exact hl,vs,_,rv,ha⟩
   ·
    have z':=(if_neg hb).symm.trans z
    cases q:(cT K).lookup b with
    |none=>rw[q]at z';cases z'
    |some t=>rw[q]at z';cases z';exact okT q
  ·
   rcases at_a b z with e|⟨q,e⟩
   ·
    exact .inl e
   ·
    exact .inr ⟨q,tabA b q e,e⟩
  ·
   rcases at_a b z with e|⟨q,e⟩
   ·
    rw[e];exact hk
   ·
    exact(tabAt e).2.2
theorem walk_of{l:PySem.W.OpenLaw}{n k:Nat}{q:Program}{loose:List Str}{XP:(Str→Option Value)→Heap→Prop}{YP:World→Heap→Prop}{d:DefRec}{K:Params→PySem.W.Frag}{CX:World→CXT}{sp:World→Sp}{x:Str}
  (hn:l.most=some n) (hq:importsNone q=true) (hn2:n≤sizeLine) (hdf:d.params.defaults=[]) (hr:Room k callerA)
  (hY:∀(w:World)(h:Heap),YP w h→(K w.params).In h) (hto:∀w:World,tabsOk (K w.params)=true) (hrc:∀(w:World),∀x∈lamNames,PySem.W.tabIn (K w.params) x=none∨((recsOf q).find? fun e=>e.name == x).isSome=true)
  (F:∀(w:World)(mg:Str→Option Value)(fa:Addr)(h:Heap),(K w.params).In h→h.Ns mainGlobals mg→mg d.name=some (.ref fa) →
   ∃fd:FuncData,(∀(s:Shared)(u:Value),BindsTo s fd ⟨[u],[]⟩ [(x,u)]) ∧
    ∀base:Heap,(K w.params).In base→base.Ns mainGlobals mg→FnOk l.prog w (K w.params) mg base (CX w) k fa fd [x] (sp w))
  (hsp:∀(w:World)(H:Hp)(a:Addr)(ns:List Int),ns.length≤n→Only H→SqL (K w.params) H a (ns.map V.int)→sp w [.ref a] H (fun v _=>v=.bl true) fun _ _ _=>False)
  (hCX:∀(w:World)(H:Hp)(s:Shared)(e:Value)(s':Shared),CX w [] H s (fun _ _ _=>False) e s'→False) :
  PySem.W.WalkO q loose XP YP l.row.toRowW d [] (fun f vs=>PySem.call f vs):=by
 refine Att.attach_call hn hdf fun w s₀ s₁ mg mb fa o pm cd doc a vs ns G Y ho hd hcd hmg hobj hints hlen hg=>?_
 have KX:=hY w _ Y
 obtain⟨fd,hb,hF⟩:=F w mg fa _ KX G.T.g hmg
 exact vU KX G.T.g G.T.b G.T.builtins G.T.nolimit (let ⟨mm,h1,_⟩:=(G.T.seer hq).mods;⟨mm,h1⟩) (let ⟨bm,ob,b1,b2,b3,b4,b5,b6⟩:=G.T.bmain;⟨bm,ob,b1,b2,b3,b4,b5,b6⟩) (hto w) (fun y hy c P e=>by
  rcases hrc w y hy with z|z
  ·
   rw[z]at e;cases e
  ·
   obtain⟨d',hd'⟩:=Option.isSome_iff_exists.mp z
   exact PySem.W.tab_of G.T KX hd' e) hg hobj hints (Nat.le_trans hlen hn2) hr hF hb (fun H hO hS=>hsp w H a ns hlen hO hS) fun H e s'=>hCX w H s₁ e s'
def fY(s:Stmt):Arguments:=match s with
 |.FunctionDef _ a _ _ _ _ _ _ _ _=>a
 |_=>{posonlyargs:=[],args:=[],vararg:=none,kwonlyargs:=[],kw_defaults:=[],kwarg:=none,defaults:=[] }
def bV(s:Stmt):List Stmt:=match s with
 |.FunctionDef _ _ b _ _ _ _ _ _ _=>b
 |_=>[]
def aq(s:Stmt):Scope:=match s with
 |.FunctionDef _ _ _ _ _ _ sc _ _ _=>sc
 |_=>{kind:=.function,names:=[],isGenerator:=false,isCoroutine:=false}
abbrev CX0:CXT:=fun _ _ _ _ _ _=>False
abbrev E0:XK:=fun _ _ _=>False
theorem yp{X:Cx}:qo CX0 X E0:=fun _ _ _ _ _ _ _ h=>h.elim
structure Fun (K:PySem.W.Frag) (x qual:Str) (st:Stmt) (f:Addr) (fd:FuncData):Prop where
 ex:∃(oc:Value)(od:Option Addr)(kV doc pm:Value)(an:Option Addr)(cdv ct:Value)(osl:Array (Option Value)),
  fd=PySem.W.fnOf x qual (fY st) (bV st) (aq st) .none kV doc pm an cdv ct∧K.lookup f=some ⟨oc,od,.func fd,osl⟩∧PySem.W.codeIn K cdv qual=true
 kp:PySem.W.keepIn K (.ref f)=true
section
variable{P:Program}{w:World}{K:PySem.W.Frag}{mg:Str→Option Value}{base:Heap}
theorem Fun.ok{x qual:Str}{st:Stmt}{f:Addr}{fd:FuncData}{N ps:List Str}{k:Nat}{sp:Sp}(F:Fun K x qual st f fd)(S:aI N ps (aq st))(len:∀vs H Q E,sp vs H Q E→vs.length=ps.length)
  (hbody:∀(cdv:Value)(A:Around)(outer:List Env)(s:Shared)(H:Hp)(vs:List V)(Q:VK)(E:XK),Room k (A.deeper (envOfC qual (aq st) s.heap.objs.size f cdv))→sp vs H Q E →
   ∃t,PSs (cxOf CX0 P w K mg base N qual (aq st) f cdv A outer s H E).nox (bV st) t∧t {nx:=fun _ H'=>Q .non H',rt:=Q} (iF N vs) H):FnOk P w K mg base CX0 (k+1) f fd ps sp:=by
 obtain⟨oc,od,kV,doc,pm,an,cdv,ct,osl,rfl,lk,hcd⟩:=F.ex
 refine yj lk hcd S len fun A outer s H vs Q E hr hsp=>?_
 obtain⟨t,h,q⟩:=hbody cdv A outer s H vs Q E hr hsp
 exact⟨t,h.nox,q⟩
theorem Fun.binds{x qual:Str}{st:Stmt}{f:Addr}{fd:FuncData}{ps:List Str}(F:Fun K x qual st f fd)
  (h:∀(kV doc pm:Value)(an:Option Addr)(cdv ct:Value)(us:List Value),us.length=ps.length→bindArgs (PySem.W.fnOf x qual (fY st) (bV st) (aq st) .none kV doc pm an cdv ct) ⟨us,[]⟩=pure (ps.zip us)):iE K fd ps []:=by
 obtain⟨oc,od,kV,doc,pm,an,cdv,ct,osl,rfl,lk,hcd⟩:=F.ex
 exact .all (h kV doc pm an cdv ct)
theorem jW{x qual:Str}{st:Stmt}{f:Addr}{oc:Value}{od an:Option Addr}{osl:Array (Option Value)}{kV doc pm cdv ct:Value}(l:K.lookup f=some ⟨oc,od,.func (PySem.W.fnOf x qual (fY st) (bV st) (aq st) .none kV doc pm an cdv ct),osl⟩)
  (c:PySem.W.codeIn K cdv qual=true) (k:PySem.W.keepIn K (.ref f)=true):Fun K x qual st f (PySem.W.fnOf x qual (fY st) (bV st) (aq st) .none kV doc pm an cdv ct):=⟨⟨oc,od,kV,doc,pm,an,cdv,ct,osl,rfl,l,c⟩,k⟩
end
section
variable{X:Cx}
theorem pv(i:Nat){x:Str}{pos:Pos}(hN:X.N[i]?=some x:=by rfl)(hv:Vis X.env.scope x:=by first | exact Or.inl rfl | exact Or.inr (Or.inl rfl) | exact Or.inr (Or.inr rfl)) (hd:(x == ("__debug__" : Str))=false:=by decide)
  (hcd:(x == ("__classdict__" : Str))=false:=by decide):PE X (.Name x pos) (tVar i):=dh hN hv hd hcd
end
def Same(H H':Hp):Prop:=∀b o,H b=some o→H' b=some o
theorem Same.free{H H':Hp}(e:Same H H'){l:Addr}(h:H' l=Option.none):H l=Option.none:=by
 cases q:H l with
 |none=>rfl
 | some o =>
  rw[e l o q]at h
  cases h
end L2
set_option maxHeartbeats 0
namespace L2
open PySem PySem.Spec
open Sem (wp)
theorem gX:Slot "function" "__getattribute__" "object.__getattribute__" :=
 .of (owner:="object") (n:="__getattribute__") (by rw[typeLookup_type,builtinLookup_eq_fast]; kernel_rfl) (by decide +kernel) (by decide +kernel) (by decide +kernel)
  (by first|exact .inl (by decide +kernel)|exact .inr (by decide +kernel)) (by rw[isSubtype_type];kernel_rfl)
theorem oZ:entryFor table "object.__getattribute__"=some Builtin.«object.__getattribute__»:=by
 first | exact F.entry_object_getattribute | exact entryFor_alias (id':="object.__getattribute__") (by kernel_rfl) (by first | rfl | decide +kernel) (by decide +kernel) (by kernel_rfl) | kernel_rfl
theorem rP(a b:Value):argsOk "object.__getattribute__" ⟨[a,b],[]⟩:=by
 first|exact F.args_object_getattribute_2 a b|(unfold argsOk;kernel_rfl)
theorem o4:typeLookup (.type "function") "__class__"=pure (some (.builtin "object.__class__")):=by rw[typeLookup_type,builtinLookup_eq_fast]; kernel_rfl
theorem iG:isSubtype (.type "function") (.type (".".intercalate ("object.__class__".cutAt '.').dropLast))=pure true:=by
 rw[F.owner_object_class,isSubtype_type];kernel_rfl
section
variable{prog:Program}{w:World}{A:Around}{E:Value→Shared→Prop}{h:Heap}{g:Array GenState}{d:Drawn}{t:Nat}{os:OsState}{a:Addr}{o:Obj}
theorem nI{R:Result→Shared→Prop}(hx:h.get? a=some o) (hc:o.cls=.type "function") (hq:R (.ok (.ret (.type "function"))) ⟨h,g,d,t,os⟩) :
  codeAny (model prog w) A (.call (.builtin "getset_descriptor.__get__") ⟨[.builtin "object.__class__",.ref a,.type "function"],[]⟩) R ⟨h,g,d,t,os⟩:=by
 have hT:(⟨h,g,d,t,os⟩:Shared).TypeIs (.ref a) "function":=⟨_,hx,hc⟩
 have hT5:(⟨h,g,d,t,os⟩:Shared).TypeIs (.builtin "object.__class__") "getset_descriptor":=F.typeOf_object_class
 have f8:=iG
 refine codeAny_call_builtin F.slot_gs_get.plain F.entry_gs_get (F.slot_gs_get.check _ _ _ _ _ _ _ _ hT5 (F.args_gs_get _ _ _) ?_)
 repeat (any_goals (first|assumption|wp_step))
 refine⟨Code.quiet_builtin _ (by decide +kernel),codeAny_builtin F.entry_object_class ?_⟩
 repeat (any_goals (first|assumption|wp_step))
theorem lN{tk:Tok}{Q:PySem.Fin→Shared→Prop}(hx:h.get? a=some o) (hc:o.cls=.type "function") (hq:Q (.done (.ret (.type "function"))) ⟨h,g,d,t,os⟩) :
  wpAny (model prog w) A (Builtin.«object.__getattribute__» ⟨[.ref a,.str "__class__" tk],[]⟩) Q E ⟨h,g,d,t,os⟩:=by
 have hT:(⟨h,g,d,t,os⟩:Shared).TypeIs (.ref a) "function":=⟨_,hx,hc⟩
 have hT5:(⟨h,g,d,t,os⟩:Shared).TypeIs (.builtin "object.__class__") "getset_descriptor":=F.typeOf_object_class
 have f4:=o4
 have f5:=F.typeOf_object_class
 have f6:=F.slot_gs_get.lookup
 have f7:=F.slot_gs_set.lookup
 repeat (any_goals (first|assumption|wp_step))
 refine nI hx hc ?_
 repeat (any_goals (first|assumption|wp_step))
theorem mF{tk:Tok}{R:Result→Shared→Prop}(hx:h.get? a=some o) (hc:o.cls=.type "function") (hq:R (.ok (.ret (.type "function"))) ⟨h,g,d,t,os⟩) :
  codeAny (model prog w) A (.call (.builtin "object.__getattribute__") ⟨[.ref a,.str "__class__" tk],[]⟩) R ⟨h,g,d,t,os⟩ :=
 codeAny_call_builtin gX.plain oZ (gX.check _ _ _ _ _ _ _ _ (show(⟨h,g,d,t,os⟩:Shared).TypeIs (.ref a) "function" from⟨_,hx,hc⟩) (rP _ _) (lN hx hc hq))
theorem o5{tk:Tok}{Q:Value→Shared→Prop}(hx:h.get? a=some o) (hc:o.cls=.type "function") (hq:Q (.type "function") ⟨h,g,d,t,os⟩):wpAny (model prog w) A (getAttrBy (.ref a) (.str "__class__" tk) false) Q E ⟨h,g,d,t,os⟩:=by
 have hT:(⟨h,g,d,t,os⟩:Shared).TypeIs (.ref a) "function":=⟨_,hx,hc⟩
 have f2:=gX.lookup
 have f3:=gX.bind (.ref a)
 repeat (any_goals (first|assumption|wp_step))
 refine mF hx hc ?_
 repeat (any_goals (first|assumption|wp_step))
theorem mG{Q:Option Value→Shared→Prop}(hx:h.get? a=some o) (hc:o.cls=.type "function") (hq:Q (some (.type "function")) ⟨h,g,d,t+1,os⟩):wpAny (model prog w) A (getAttr? (.ref a) "__class__") Q E ⟨h,g,d,t,os⟩:=by
 unfold getAttr? getAttrBy?
 repeat (any_goals (first|assumption|with_reducible apply o5 hx hc|wp_step))
end
theorem tV{K:PySem.W.Frag}{a:Addr}:PySem.W.KitX K (.ref a) (.type "function") (PySem.W.KitAt a "function"):=PySem.W.kitx_of PySem.W.kitAt_ty (fun {_ _ _ _ _ s} p k=>by obtain⟨h,g,d,t,os⟩:=s; obtain⟨o,h1,h2⟩:=p; exact mG h1 h2 k)
end L2
namespace L2
open PySem PySem.Spec PyProof.Rows
inductive D where
 |non|bl (b:Bool)|int (i:Int)|str (x:Str)|tup (xs:List D)|lst (xs:List D)|dct (n:Nat)|exc (c:Str) (ns:List Str) (xs:List D)|fn (x:Str) (d:D)
def SqZ(K:PySem.W.Frag)(H:Hp)(a:Addr)(xs:List V):Prop :=
 (∃o,H a=some (.frz o (.lst xs))) ∨
  ∃(o:Obj)(its:Array Value)(n:Nat),K.lookup a=some o∧o.cls=.type "list"∧o.dict=none∧o.data=.seq its n∧its.size≤sizeLine∧Vals xs its.toList
theorem SqZ.l{K:PySem.W.Frag}{H:Hp}{a:Addr}{xs:List V}(h:SqZ K H a xs):SqL K H a xs:=by
 rcases h with⟨o,h⟩|h
 ·
  exact .inl (.inr ⟨o,h⟩)
 ·
  exact .inr h
def vV:HO→Prop
 |.frz _ u=>vV u
 |.ins _ _ _=>False
 |_=>True
def fZ(K:PySem.W.Frag)(c:Str)(C:Addr):Bool:=match PySem.W.clsIn K C,PySem.W.nsIn K mainGlobals "LoadError" with
 | some cd,some (some (.ref L))=>cd.name == c && cd.hasDict && cd.mro == [.ref C,.ref L,.type "ValueError",.type "Exception",.type "BaseException",.type "object"] && (PySem.W.clsIn K L).any (fun k=>k.name == ("LoadError" : Str)) &&
  PySem.W.findIn K (.ref C) "__getattribute__" == some (some (.builtin "BaseException.__getattribute__")) && PySem.W.findIn K (.ref C) "__getattr__" == some none && PySem.W.findIn K (.ref C) "__class__" == some (some (.builtin "object.__class__")) &&
  PySem.W.findIn K (.ref C) "__setattr__" == some (some (.builtin "object.__setattr__")) && PySem.W.typeIn K (.ref C) == some (.type "type") && PySem.W.nsIn K mainGlobals c == some (some (.ref C))
 |_,_=>false
def tX:List Stmt→Option (Arguments×Expr×Scope×Pos)
 |[]=>none
 | st::r=>match tX r with
  |some l=>some l
  | none=>match st with
   | .Expr (.Call _ args _ _) _=>(match args.getLast? with
    |some (.Lambda p b sc pos)=>some (p,b,sc,pos)
    |_=>none)
   | .Return (some (.Call _ _ kws _)) _=>(match kws.getLast? with
    |some ⟨_,.Lambda p b sc pos,_⟩=>some (p,b,sc,pos)
    |_=>none)
   |_=>none
def rQ(K:PySem.W.Frag)(x:Str):Option (Arguments×Expr×Scope×Pos):=match PySem.W.nsIn K mainGlobals x with
 | some (some (.ref f))=>(match K.lookup f with
  | some ⟨_,_,.func fd,_⟩=>(match fd.body with
   |.stmts b=>tX b
   |_=>none)
  |_=>none)
 |_=>none
def XF(H:Hp)(dx:Option Addr)(ns:List Str)(vs:List V):Prop:=(ns=[]∧vs=[]∧dx=none)∨∃d od,dx=some d∧H d=some (.frz od (.xd (ns.zip vs)))∧ns.length=vs.length
mutual
inductive Rep (K:PySem.W.Frag) (H:Hp):V→D→Prop where
 |non:Rep K H .non .non
 |bl (b:Bool):Rep K H (.bl b) (.bl b)
 |int (i:Int):Rep K H (.int i) (.int i)
 |str (x:Str):Rep K H (.str x) (.str x)
 |tup {a:Addr} {vs:List V} {ds:List D} (h:SqT K H a vs) (r:Reps K H vs ds):Rep K H (.ref a) (.tup ds)
 |lst {a:Addr} {vs:List V} {ds:List D} (h:SqZ K H a vs) (r:Reps K H vs ds):Rep K H (.ref a) (.lst ds)
 |dct {a:Addr} {o:Obj} {kvs:List (Key×V)} (h:H a=some (.frz o (.dK kvs))):Rep K H (.ref a) (.dct kvs.length)
 |exc {a:Addr} {o:Obj} {u:HO} {c:Str} {C:Addr} {ns:List Str} {vs:List V} {ds:List D} (h:H a=some (.frz o u)) (hv:vV u) (hc:o.cls=.ref C) (hn:PySem.W.notCls o=true) (hs:fZ K c C=true) (hq:∀f∈ns,PySem.W.findIn K (.ref C) f=some none) (hf:XF H o.dict ns vs) (r:Reps K H vs ds):Rep K H (.ref a) (.exc c ns ds)
 | fn {f c c':Addr} {oc oq:Obj} {x y:Str} {pr:Arguments} {bd:Expr} {sc:Scope} {pos:Pos} {pm ctv u:Value} {v:V} {d:D} (hl:rQ K x=some (pr,bd,sc,pos)) (hf:H f=some (.frz (PySem.W.kla_obj "<lambda>" (lamQ x) pr bd sc [(y,c)] pm c' ctv) (.own f)))
  (hq:H c'=some (.frz oq (.own c'))) (hc:hU oq (lamQ x)) (hz:H c=some (.frz oc (.own c))) (hd:oc.data=.cell (some u)) (hv:RelV v u) (hm:(y,NameKind.free)∈sc.names) (r:Rep K H v d):Rep K H (.ref f) (.fn x d)
inductive Reps (K:PySem.W.Frag) (H:Hp):List V→List D→Prop where
 |nil:Reps K H [] []
 |cons {v:V} {d:D} {vs:List V} {ds:List D} (h:Rep K H v d) (t:Reps K H vs ds):Reps K H (v::vs) (d::ds)
end
def Pers:HO→Prop
 |.tup _=>True
 |.frz _ _=>True
 |.tbl _=>True
 |_=>False
def Pres(H H':Hp):Prop:=∀b o,Pers o→H b=some o→H' b=some o
theorem SqT.pres{K:PySem.W.Frag}{H H':Hp}{a:Addr}{xs:List V}(p:Pres H H')(h:SqT K H a xs):SqT K H' a xs:=by
 rcases h with(h|⟨o,h⟩)|h
 ·
  exact .inl (.inl (p _ _ True.intro h))
 ·
  exact .inl (.inr ⟨o,p _ _ True.intro h⟩)
 ·
  exact .inr h
theorem SqZ.pres{K:PySem.W.Frag}{H H':Hp}{a:Addr}{xs:List V}(p:Pres H H')(h:SqZ K H a xs):SqZ K H' a xs:=by
 rcases h with⟨o,h⟩|h
 ·
  exact .inl ⟨o,p _ _ True.intro h⟩
 ·
  exact .inr h
theorem XF.pres{H H':Hp}(p:Pres H H'){dx:Option Addr}{ns:List Str}{vs:List V}(h:XF H dx ns vs):XF H' dx ns vs:=by
 rcases h with h|⟨d,od,e,h,l⟩
 ·
  exact .inl h
 ·
  exact .inr ⟨d,od,e,p _ _ True.intro h,l⟩
mutual
theorem Rep.pres{K:PySem.W.Frag}{H H':Hp}(p:Pres H H'):∀{v:V}{d:D},Rep K H v d→Rep K H' v d
 |_,_,.non=>.non
 |_,_,.bl b=>.bl b
 |_,_,.int i=>.int i
 |_,_,.str x=>.str x
 |_,_,.tup h r=>.tup (h.pres p) (Reps.pres p r)
 |_,_,.lst h r=>.lst (h.pres p) (Reps.pres p r)
 |_,_,.dct h=>.dct (p _ _ True.intro h)
 |_,_,.exc h hv hc hn hs hq hf r=>.exc (p _ _ True.intro h) hv hc hn hs hq (hf.pres p) (Reps.pres p r)
 |_,_,.fn hl hf hq hc hz hd hv hm r=>.fn hl (p _ _ True.intro hf) (p _ _ True.intro hq) hc (p _ _ True.intro hz) hd hv hm (Rep.pres p r)
theorem Reps.pres{K:PySem.W.Frag}{H H':Hp}(p:Pres H H'):∀{vs:List V}{ds:List D},Reps K H vs ds→Reps K H' vs ds
 |_,_,.nil=>.nil
 |_,_,.cons h t=>.cons (Rep.pres p h) (Reps.pres p t)
end
theorem Reps.length{K:PySem.W.Frag}{H:Hp}:∀{vs:List V}{ds:List D},Reps K H vs ds→vs.length=ds.length
 |_,_,.nil=>rfl
 |_,_,.cons _ t=>by simp[Reps.length t]
theorem Reps.get{K:PySem.W.Frag}{H:Hp}:∀{vs:List V}{ds:List D}{i:Nat}{d:D},Reps K H vs ds→ds[i]?=some d→∃v,vs[i]?=some v∧Rep K H v d
 |_,_,_,_,.nil,e=>by simp at e
 |_,_,0,_,.cons h _,e=>by simp at e;subst e;exact⟨_,rfl,h⟩
 | _,_,i+1,d,.cons _ t,e=>by
  obtain⟨v,h1,h2⟩:=Reps.get (i:=i) (d:=d) t (by simpa using e)
  exact⟨v,by simpa using h1,h2⟩
theorem Reps.set{K:PySem.W.Frag}{H:Hp}{v:V}{d:D}(r:Rep K H v d):∀{vs:List V}{ds:List D}(i:Nat),Reps K H vs ds→Reps K H (vs.set i v) (ds.set i d)
 |_,_,_,.nil=>.nil
 |_,_,0,.cons _ t=>.cons r t
 |_,_,i+1,.cons h t=>.cons h (Reps.set r i t)
theorem Reps.append{K:PySem.W.Frag}{H:Hp}:∀{vs us:List V}{ds es:List D},Reps K H vs ds→Reps K H us es→Reps K H (vs++us) (ds++es)
 |_,_,_,_,.nil,s=>s
 |_,_,_,_,.cons h t,s=>.cons h (Reps.append t s)
theorem Reps.take{K:PySem.W.Frag}{H:Hp}:∀{vs:List V}{ds:List D}(n:Nat),Reps K H vs ds→Reps K H (vs.take n) (ds.take n)
 |_,_,0,_=>.nil
 |_,_,_+1,.nil=>.nil
 |_,_,n+1,.cons h t=>.cons h (Reps.take n t)
theorem Reps.drop{K:PySem.W.Frag}{H:Hp}:∀{vs:List V}{ds:List D}(n:Nat),Reps K H vs ds→Reps K H (vs.drop n) (ds.drop n)
 |_,_,0,r=>r
 |_,_,_+1,.nil=>.nil
 |_,_,n+1,.cons _ t=>Reps.drop n t
inductive L where
 |un|d (x:D)|own (a:Addr) (xs:List D)|bx (k:Option Addr) (ls:List L)|dic (a:Addr) (kvs:List (Key×D))
abbrev Ev:=List L
mutual
def aP:L→List Addr
 |.un=>[]
 |.d _=>[]
 |.own a _=>[a]
 |.bx k ls=>k.toList++cU ls
 |.dic a _=>[a]
def cU:List L→List Addr
 |[]=>[]
 |l::ls=>aP l++cU ls
end
def owns(ρ:Ev):List Addr:=ρ.flatMap aP
theorem dE:∀ls:List L,cU ls=owns ls
 |[]=>rfl
 |l::ls=>by rw[cU,dE ls];rfl
mutual
def aN(K:PySem.W.Frag)(H:Hp)(s:Option V):L→Prop
 |.un=>True
 |.d x=>∃v,s=some v∧Rep K H v x
 |.own a xs=>s=some (.ref a)∧∃vs,H a=some (.lst vs)∧Reps K H vs xs
 |.bx none ls=>∃a vs,s=some (.ref a)∧SqT K H a vs∧bE K H vs ls
 |.bx (some a) ls=>s=some (.ref a)∧∃vs,H a=some (.lst vs)∧bE K H vs ls
 |.dic a kvs=>s=some (.ref a)∧∃vs,H a=some (.dK vs)∧Paired (fun (p:Key×V) (q:Key×D)=>p.1=q.1∧Rep K H p.2 q.2) vs kvs
def bE(K:PySem.W.Frag)(H:Hp)(vs:List V):List L→Prop
 |[]=>vs=[]
 |l::ls=>∃v us,vs=v::us∧aN K H (some v) l∧bE K H us ls
end
mutual
theorem aN.pres{K:PySem.W.Frag}{H H':Hp}(p:Pres H H'):∀{s:Option V}(l:L),(∀a∈aP l,H' a=H a)→aN K H s l→aN K H' s l
 |_,.un,_,_=>by simp only[aN]
 | _,.d x,_,h=>by
  simp only[aN]at h ⊢
  obtain⟨v,e,r⟩:=h
  exact⟨v,e,r.pres p⟩
 | _,.own a xs,q,h=>by
  simp only[aN]at h ⊢
  obtain⟨e,vs,ha,r⟩:=h
  exact⟨e,vs,(q a (by simp[aP])).trans ha,r.pres p⟩
 | _,.bx none ls,q,h=>by
  simp only[aN]at h ⊢
  obtain⟨a,vs,e,ha,r⟩:=h
  exact⟨a,vs,e,ha.pres p,bE.pres p ls (fun b hb=>q b (by simp[aP,hb])) r⟩
 | _,.bx (some a) ls,q,h=>by
  simp only[aN]at h ⊢
  obtain⟨e,vs,ha,r⟩:=h
  exact⟨e,vs,(q a (by simp[aP])).trans ha,bE.pres p ls (fun b hb=>q b (by simp[aP,hb])) r⟩
 | _,.dic a kvs,q,h=>by
  simp only[aN]at h ⊢
  obtain⟨e,vs,ha,r⟩:=h
  exact⟨e,vs,(q a (by simp[aP])).trans ha,Paired.mapP r fun _ _ z=>⟨z.1,z.2.pres p⟩⟩
theorem bE.pres{K:PySem.W.Frag}{H H':Hp}(p:Pres H H'):∀{vs:List V}(ls:List L),(∀a∈cU ls,H' a=H a)→bE K H vs ls→bE K H' vs ls
 |_,[],_,h=>by simpa only[bE]using h
 | _,l::ls,q,h=>by
  simp only[bE]at h ⊢
  obtain⟨v,us,e,h1,h2⟩:=h
  exact⟨v,us,e,aN.pres p l (fun b hb=>q b (by simp[cU,hb])) h1,bE.pres p ls (fun b hb=>q b (by simp[cU,hb])) h2⟩
end
def OMut:HO→Prop
 |.lst _=>True
 |.dK _=>True
 |_=>False
theorem OMut.no{o:HO}(h:OMut o)(p:Pers o):False:=by cases o<;>first|exact h|exact p
mutual
theorem aN.lstAt{K:PySem.W.Frag}{H:Hp}:∀{s:Option V}(l:L),aN K H s l→∀a∈aP l,∃o,H a=some o∧OMut o
 |_,.un,_,a,ha=>by simp[aP]at ha
 |_,.d x,_,a,ha=>by simp[aP]at ha
 | _,.own b xs,h,a,ha=>by
  simp only[aN]at h
  have e:a=b:=by simpa[aP]using ha
  subst e
  obtain⟨_,vs,q,_⟩:=h
  exact⟨_,q,True.intro⟩
 | _,.bx none ls,h,a,ha=>by
  simp only[aN]at h
  obtain⟨b,vs,e,_,r⟩:=h
  exact bE.lstAt ls r a (by simpa[aP]using ha)
 | _,.bx (some b) ls,h,a,ha=>by
  simp only[aN]at h
  obtain⟨e,vs,q,r⟩:=h
  rcases(by simpa[aP]using ha:a=b∨a∈cU ls)with z|z
  ·
   subst z;exact⟨_,q,True.intro⟩
  ·
   exact bE.lstAt ls r a z
 | _,.dic b xs,h,a,ha=>by
  simp only[aN]at h
  have e:a=b:=by simpa[aP]using ha
  subst e
  obtain⟨_,vs,q,_⟩:=h
  exact⟨_,q,True.intro⟩
theorem bE.lstAt{K:PySem.W.Frag}{H:Hp}:∀{vs:List V}(ls:List L),bE K H vs ls→∀a∈cU ls,∃o,H a=some o∧OMut o
 |_,[],_,a,ha=>by simp[cU]at ha
 | _,l::ls,h,a,ha=>by
  simp only[bE]at h
  obtain⟨v,us,e,h1,h2⟩:=h
  rcases(by simpa[cU]using ha:a∈aP l∨a∈cU ls)with z|z
  ·
   exact aN.lstAt l h1 a z
  ·
   exact bE.lstAt ls h2 a z
end
structure REnv (K:PySem.W.Frag) (Pr H:Hp) (σ:St) (ρ:Ev):Prop where
 sub:∀b o,Pr b=some o→H b=some o
 nd:(owns ρ).Nodup
 off:∀a∈owns ρ,Pr a=none
 sl:Paired (aN K H) σ ρ
theorem d5{ρ:Ev}{a:Addr}:a∈owns ρ↔∃l∈ρ,a∈aP l:=by
 unfold owns
 rw[List.mem_flatMap]
theorem yq{ρ:Ev}{a:Addr}{xs:List D}(h:L.own a xs∈ρ):a∈owns ρ:=d5.mpr ⟨_,h,by simp[aP]⟩
theorem ar(a b:Ev):owns (a++b)=owns a++owns b:=List.flatMap_append
theorem Paired.mem2{α β:Type}{F:α→β→Prop}:∀{l1:List α}{l2:List β}{b:β},Paired F l1 l2→b∈l2→∃a,a∈l1∧F a b
 |_,_,_,.nil,h=>by simp at h
 | _,_,_,.cons r t,h=>by
  rcases List.mem_cons.mp h with rfl|h
  ·
   exact⟨_,List.mem_cons_self,r⟩
  ·
   obtain⟨a,h1,h2⟩:=Paired.mem2 t h
   exact⟨a,List.mem_cons_of_mem _ h1,h2⟩
theorem Paired.app{α β:Type}{F:α→β→Prop}:∀{a c:List α}{b d:List β},Paired F a b→Paired F c d→Paired F (a++c) (b++d)
 |_,_,_,_,.nil,s=>s
 |_,_,_,_,.cons r t,s=>.cons r (Paired.app t s)
theorem Paired.unapp{α β:Type}{F:α→β→Prop}:∀{a c:List α}{b d:List β},a.length=b.length→Paired F (a++c) (b++d)→Paired F a b∧Paired F c d
 |[],_,[],_,_,s=>⟨.nil,s⟩
 | x::a,_,y::b,_,hl,.cons r t=>by
  obtain⟨p,q⟩:=Paired.unapp (a:=a) (b:=b) (by simpa using hl) t
  exact⟨.cons r p,q⟩
 |[],_,_::_,_,hl,_=>by simp at hl
 |_::_,_,[],_,hl,_=>by simp at hl
theorem Paired.get2{α β:Type}{F:α→β→Prop}:∀{l1:List α}{l2:List β}{i:Nat}{b:β},Paired F l1 l2→l2[i]?=some b→∃a,l1[i]?=some a∧F a b
 |_,_,_,_,.nil,e=>by simp at e
 |_,_,0,_,.cons h _,e=>by simp at e;subst e;exact⟨_,rfl,h⟩
 | _,_,i+1,d,.cons _ t,e=>by
  obtain⟨v,h1,h2⟩:=Paired.get2 (i:=i) (b:=d) t (by simpa using e)
  exact⟨v,by simpa using h1,h2⟩
theorem Paired.set2{α β:Type}{F:α→β→Prop}{a:α}{b:β}(r:F a b):∀{l1:List α}{l2:List β}(i:Nat),Paired F l1 l2→Paired F (l1.set i a) (l2.set i b)
 |_,_,_,.nil=>.nil
 |_,_,0,.cons _ t=>.cons r t
 |_,_,i+1,.cons h t=>.cons h (Paired.set2 r i t)
theorem Paired.impMem{α β:Type}{F G:α→β→Prop}:∀{l1:List α}{l2:List β},Paired F l1 l2→(∀b∈l2,∀a,F a b→G a b)→Paired G l1 l2
 |_,_,.nil,_=>.nil
 |_,_,.cons r t,h=>.cons (h _ List.mem_cons_self _ r) (Paired.impMem t fun b hb=>h b (List.mem_cons_of_mem _ hb))
theorem Paired.set_r{α β:Type}{F:α→β→Prop}{b:β}:∀{l1:List α}{l2:List β}(i:Nat),Paired F l1 l2→(∀a,l1[i]?=some a→F a b)→Paired F l1 (l2.set i b)
 |_,_,_,.nil,_=>.nil
 |_,_,0,.cons _ t,h=>.cons (h _ rfl) t
 |_,_,i+1,.cons q t,h=>.cons q (Paired.set_r i t fun a e=>h a (by simpa using e))
section
variable{K:PySem.W.Frag}{Pr H H':Hp}{σ τ w σ':St}{ρ μ lam ρ':Ev}
theorem REnv.len(E:REnv K Pr H σ ρ):σ.length=ρ.length:=Paired.length E.sl
def aZ(H:Hp)(ρ:Ev):Hp:=fun b=>if b∈owns ρ then none else H b
theorem REnv.at_own(E:REnv K Pr H σ ρ){a:Addr}(h:a∈owns ρ):∃o,H a=some o∧OMut o:=by
 obtain⟨l,hx,ha⟩:=d5.mp h
 obtain⟨s,_,q⟩:=Paired.mem2 E.sl hx
 exact q.lstAt l a ha
theorem REnv.wide(E:REnv K Pr H σ ρ):REnv K (aZ H ρ) H σ ρ :=
 ⟨fun b o e=>by unfold aZ at e;split at e;cases e;exact e,E.nd,fun a h=>by unfold aZ;rw[if_pos h],E.sl⟩
theorem REnv.drop(E:REnv K Pr H (τ++σ) (lam++ρ))(hl:τ.length=lam.length):REnv K Pr H σ ρ :=
 ⟨E.sub,(List.nodup_append.mp (ar lam ρ ▸ E.nd)).2.1,fun a h=>E.off a (by rw[ar];exact List.mem_append_right _ h),(Paired.unapp hl E.sl).2⟩
theorem REnv.left(E:REnv K Pr H (τ++σ) (lam++ρ))(hl:τ.length=lam.length):REnv K Pr H τ lam :=
 ⟨E.sub,(List.nodup_append.mp (ar lam ρ ▸ E.nd)).1,fun a h=>E.off a (by rw[ar];exact List.mem_append_left _ h),(Paired.unapp hl E.sl).1⟩
theorem mH{H H':Hp}{ρ:Ev}{σ:St}{Pr:Hp}(E:REnv K Pr H σ ρ)(h:∀b o,aZ H ρ b=some o→H' b=some o):Pres H H':=fun b o p e=>by
 refine h b o ?_
 unfold aZ
 rw[if_neg,e]
 intro hm
 obtain⟨u,e',m⟩:=E.at_own hm
 rw[e]at e'
 cases e'
 exact m.no p
theorem REnv.step(E:REnv K Pr H (τ++σ) (lam++ρ))(hl:τ.length=lam.length)(E':REnv K (aZ H ρ) H' (w++σ') (μ++ρ'))(hw:w.length=μ.length):REnv K Pr H' (w++(τ++σ')) (μ++(lam++ρ')):=by
 have Eσ:=E.drop hl
 have p:Pres H H':=mH Eσ E'.sub
 have dis:∀a∈owns lam,a∉owns ρ:=fun a h1 h2=>(List.nodup_append.mp (ar lam ρ ▸ E.nd)).2.2 a h1 a h2 rfl
 have at':∀a∈owns lam,aZ H ρ a=H a:=fun a h=>by unfold aZ;rw[if_neg (dis a h)]
 have some':∀a∈owns lam,∃o,H a=some o∧OMut o:=fun a h=>E.at_own (by rw[ar];exact List.mem_append_left _ h)
 have out:∀a∈owns lam,a∉owns (μ++ρ'):=fun a h h2=>by
  have z:=E'.off a h2
  rw[at' a h]at z
  obtain⟨vs,e,_⟩:=some' a h
  rw[e]at z
  cases z
 have s1:=(Paired.unapp hw E'.sl)
 have s2:=(Paired.unapp hl E.sl).1
 refine⟨fun b o e=>?_,?_,fun a ha=>?_,Paired.app s1.1 (Paired.app ?_ s1.2)⟩
 ·
  refine E'.sub b o ?_
  unfold aZ
  rw[if_neg,E.sub b o e]
  intro hm
  have z:=Eσ.off b hm
  rw[e]at z
  cases z
 ·
  have n1:=E'.nd
  rw[ar]at n1
  rw[ar,ar]
  obtain⟨q1,q2,q3⟩:=List.nodup_append.mp n1
  refine List.nodup_append.mpr ⟨q1,List.nodup_append.mpr ⟨(List.nodup_append.mp (ar lam ρ ▸ E.nd)).1,q2,fun a ha b hb=>?_⟩,fun a ha b hb=>?_⟩
  ·
   rintro rfl
   exact out a ha (by rw[ar];exact List.mem_append_right _ hb)
  ·
   rcases List.mem_append.mp hb with hb|hb
   ·
    rintro rfl
    exact out a hb (by rw[ar];exact List.mem_append_left _ ha)
   ·
    exact q3 a ha b hb
 ·
  rw[ar,ar]at ha
  have key:a∈owns (μ++ρ')→Pr a=none:=fun h=>by
   have z:=E'.off a h
   unfold aZ at z
   by_cases hm:a∈owns ρ
   ·
    exact Eσ.off a hm
   ·
    rw[if_neg hm]at z
    cases q:Pr a with
    |none=>rfl
    |some o=>rw[E.sub a o q]at z;cases z
  rcases List.mem_append.mp ha with h|h
  ·
   exact key (by rw[ar];exact List.mem_append_left _ h)
  ·
   rcases List.mem_append.mp h with h|h
   ·
    exact E.off a (by rw[ar];exact List.mem_append_left _ h)
   ·
    exact key (by rw[ar];exact List.mem_append_right _ h)
 ·
  have:∀l∈lam,∀s,aN K H s l→aN K H' s l:=fun l hlm s h=>h.pres p l fun a e=>by
   have ha:a∈owns lam:=d5.mpr ⟨l,hlm,e⟩
   obtain⟨vs,e,_⟩:=some' a ha
   rw[E'.sub a _ ((at' a ha).trans e),e]
  exact Paired.impMem s2 this
end
end L2
namespace L2
open PySem PySem.Spec PyProof.Rows PySem.W
structure XStd (K:Frag) (c:Str) (C L:Addr) (cd:ClassData):Prop where
 cls:clsIn K C=some cd
 load:nsIn K mainGlobals "LoadError"=some (some (.ref L))
 name:cd.name=c
 dct:cd.hasDict=true
 mro:cd.mro=[.ref C,.ref L,.type "ValueError",.type "Exception",.type "BaseException",.type "object"]
 lname:∃ k,clsIn K L=some k∧k.name=("LoadError" : Str)
 ga:findIn K (.ref C) "__getattribute__"=some (some (.builtin "BaseException.__getattribute__"))
 gx:findIn K (.ref C) "__getattr__"=some none
 gc:findIn K (.ref C) "__class__"=some (some (.builtin "object.__class__"))
 sa:findIn K (.ref C) "__setattr__"=some (some (.builtin "object.__setattr__"))
 ty:typeIn K (.ref C)=some (.type "type")
 own:nsIn K mainGlobals c=some (some (.ref C))
theorem cV{K:Frag}{c:Str}{C:Addr}(h:fZ K c C=true):∃L cd,XStd K c C L cd:=by
 unfold fZ at h
 split at h
 ·
  rename_i cd L e1 e2
  simp only[Bool.and_eq_true,beq_iff_eq]at h
  obtain⟨⟨⟨⟨⟨⟨⟨⟨⟨h1,h2⟩,h3⟩,h4⟩,h5⟩,h6⟩,h7⟩,h8⟩,h9⟩,h10⟩:=h
  obtain⟨k,hk,hn⟩:=any_some h4
  exact⟨L,cd,e1,e2,h1,h2,h3,⟨k,hk,beq_iff_eq.mp hn⟩,h5,h6,h7,h8,h9,h10⟩
 ·
  cases h
section
variable{K:Frag}{c:Str}{C L:Addr}{cd:ClassData}
theorem XStd.mroIn(S:XStd K c C L cd)(b:Value):PySem.W.mroIn K C b=some (([.ref C,.ref L,.type "ValueError",.type "Exception",.type "BaseException",.type "object"]:List Value).contains b):=by
 unfold PySem.W.mroIn
 rw[S.cls,Option.bind_some,S.mro]
 rfl
theorem kK(C L:Addr)(T:String):(([.ref C,.ref L,.type "ValueError",.type "Exception",.type "BaseException",.type "object"]:List Value).contains (.type T))=(["ValueError","Exception","BaseException","object"]:List String).contains T:=by
 simp only[List.contains_cons,List.contains_nil,Bool.or_false]
 have e:∀a:Addr,(Value.type T == Value.ref a)=false:=fun _=>rfl
 have f:∀U:String,(Value.type T == Value.type U)=(T == U):=fun U=>by
  by_cases q:T=U
  ·
   subst q;simp
  ·
   rw[beq_eq_false_iff_ne.mpr q,beq_eq_false_iff_ne]
   intro z;injection z with z;exact q z
 rw[e,e,f,f,f,f];rfl
theorem qr(C L D:Addr):(([.ref C,.ref L,.type "ValueError",.type "Exception",.type "BaseException",.type "object"]:List Value).contains (.ref D))=(D == C ||D == L):=by
 simp only[List.contains_cons,List.contains_nil,Bool.or_false]
 have e:∀T:String,(Value.ref D == Value.type T)=false:=fun _=>rfl
 have f:∀a:Addr,(Value.ref D == Value.ref a)=(D == a):=fun U=>by
  by_cases q:D=U
  ·
   subst q;simp
  ·
   rw[beq_eq_false_iff_ne.mpr q,beq_eq_false_iff_ne]
   intro z;injection z with z;exact q z
 rw[e,e,e,e,f,f,Bool.or_false,Bool.or_false,Bool.or_false,Bool.or_false]
theorem XStd.has(S:XStd K c C L cd){T:String} (h:(["ValueError","Exception","BaseException","object"]:List String).contains T=true):PySem.W.mroIn K C (.type T)=some true:=by
 rw[S.mroIn,kK,h]
theorem XStd.isT(S:XStd K c C L cd){M:Model}{h:Heap}(X:K.In h)(T:String):Looks M h (isSubtype (.ref C) (.type T)) ((["ValueError","Exception","BaseException","object"]:List String).contains T):=looks_mroIn X (by rw[S.mroIn,kK])
end
section
variable{prog:Program}{w:World}{A:Around}{E:Value→Shared→Prop}{s:Shared}{K:Frag}{c:Str}{x C L:Addr}{cd:ClassData}{ox:Obj}{od:Option Obj}{name:Str}
theorem rR{tk:Tok}{v:Value}{Q:Fin→Shared→Prop}(X:K.In s.heap)(I:InstAt s.heap x ox C od)(hf:findObj K C od name=some (.value v))(hq:Q (.done (.ret v)) s) :
  wpAny (model prog w) A (Builtin.«object.__getattribute__» ⟨[.ref x,.str name tk],[]⟩) Q E s:=by
 obtain⟨hh,g,d,t,os⟩:=s
 have L0:=I.type (M:=model prog w)
 have L1:=looks_find (M:=model prog w) X I hf
 unfold Builtin.«object.__getattribute__»
 refine wpAny_bind (wpAny_pure (wpAny_bind (wpAny_pure ?_)))
 exact wpAny_bind (L0.at (wpAny_bind (L1.at (wpAny_pure hq))))
theorem nJ{tk:Tok}{Q:Fin→Shared→Prop}(S:XStd K c C L cd)(X:K.In s.heap)(I:InstAt s.heap x ox C od) (hf:findObj K C od "__class__"=some (.bind (.builtin "getset_descriptor.__get__") (.builtin "object.__class__"))) (hq:Q (.done (.ret (.ref C))) s) :
  wpAny (model prog w) A (Builtin.«object.__getattribute__» ⟨[.ref x,.str "__class__" tk],[]⟩) Q E s:=by
 obtain⟨hh,g,d,t,os⟩:=s
 have L0:=I.type (M:=model prog w)
 have L1:=looks_find (M:=model prog w) X I hf
 unfold Builtin.«object.__getattribute__»
 refine wpAny_bind (wpAny_pure (wpAny_bind (wpAny_pure ?_)))
 refine wpAny_bind (L0.at (wpAny_bind (L1.at ?_)))
 show wpAny _ _ (holding [Value.builtin "object.__class__"] (call (.builtin "getset_descriptor.__get__") [.builtin "object.__class__",.ref x,.ref C]) >>= ret) _ _ _
 refine wpAny_bind (wpAny_holding (wpAny_call ?_))
 exact class_get (s:=⟨hh,g,d,t,os⟩) (ox:=ox) (od:=od) X I (S.has (by decide)) (wpAny_pure hq)
theorem tY{tk:Tok}{v:Value}{fill expr:Bool}{Q:Value→Shared→Prop}(S:XStd K c C L cd)(X:K.In s.heap)(I:InstAt s.heap x ox C od)
  (he:∀(A':Around)(Q':Fin→Shared→Prop),Q' (.done (.ret v)) s→wpAny (model prog w) A' (Builtin.«object.__getattribute__» ⟨[.ref x,.str name tk],[]⟩) Q' (fun _ _=>False) s) (hh:handedIn v=true) (hq:Q v s) :
  wpAny (model prog w) A (getAttrBy (.ref x) (.str name tk) fill expr) Q E s:=by
 have FB:=F.excAttr_ValueError
 have L0:=I.type (M:=model prog w)
 have L1:=looks_findIn (M:=model prog w) X S.ga
 have L2:=looks_findIn (M:=model prog w) X S.gx
 unfold getAttrBy
 refine wpAny_holding (wpAny_bind (L0.here (wpAny_bind (L1.here ?_))))
 have hx2:(Value.builtin "BaseException.__getattribute__" == Value.builtin "object.__getattribute__")=false:=by decide +kernel
 dsimp only
 rw[hx2,Bool.and_false,if_neg (by decide)]
 unfold getAttrByItsOwn
 refine wpAny_bind ((looks_hook (mc:=.ref C) X (r:=none) S.gx).here ?_)
 refine wpAny_bind (wpAny_attempt (wpAny_holding ?_))
 have hx0:(expr && onTheHeap (Value.builtin "BaseException.__getattribute__"))=false:=by cases expr <;> rfl
 unfold callGetattribute boundAndCalled
 rw[hx0,if_neg (by decide),FB.ga.bind]
 refine wpAny_bind (wpAny_pure (wpAny_call ?_))
 have hi:Looks (model prog w) s.heap (isInstance (.ref x) (.type "BaseException")) true:=L0.andThen (S.isT X _)
 have hkd:builtinKind "BaseException.__getattribute__"=some .slot:=by decide +kernel
 have hsp:splitId "BaseException.__getattribute__"=some ("BaseException","__getattribute__"):=by decide +kernel
 refine codeAny_call_builtin FB.ga.plain F.entry_bexc_ga (@check_slot (model prog w) _ _ s "BaseException.__getattribute__" "BaseException" "__getattribute__" (.ref x) [.str name tk] [] _ hkd hsp hi (F.args_bexc_ga (.ref x) (.str name tk)) ?_)
 refine wpAny_mono (he _ _ ?_) (fun _ _ z=>z) fun _ _ z=>z.elim
 show wpAny _ _ (handedOut v) _ _ _
 rw[handedOut_of hh]
 exact wpAny_pure hq
end
theorem yr(K:Frag):specialIn K (.builtin "object.__class__") "__get__"=some (some (.builtin "getset_descriptor.__get__")):=(by decide +kernel:specialIn [] (.builtin "object.__class__") "__get__"=some (some (.builtin "getset_descriptor.__get__")))
theorem tZ(K:Frag):takesIn K (.builtin "object.__class__")=some true:=(by decide +kernel:takesIn [] (.builtin "object.__class__")=some true)
section
variable{prog:Program}{w:World}{A:Around}{E:Value→Shared→Prop}{s:Shared}{K:Frag}{c:Str}{x C L:Addr}{cd:ClassData}{ox:Obj}{od:Option Obj}{name:Str}
theorem XStd.fclass(S:XStd K c C L cd)(od:Option Obj):findObj K C od "__class__"=some (.bind (.builtin "getset_descriptor.__get__") (.builtin "object.__class__")):=by
 unfold findObj
 rw[S.cls,Option.bind_some,S.gc,Option.bind_some]
 simp[yr,tZ]
theorem o6{Q:Option Value→Shared→Prop}(S:XStd K c C L cd)(X:K.In s.heap)(I:InstAt s.heap x ox C od)(hq:Q (some (.ref C)) {s with toks:=s.toks+1}) :
  wpAny (model prog w) A (getAttr? (.ref x) "__class__") Q E s:=by
 obtain⟨hh,g,d,t,os⟩:=s
 unfold getAttr? getAttrBy?
 refine wpAny_bind (wpAny_mkText (wpAny_bind (wpAny_attempt ?_)))
 exact tY (s:=⟨hh,g,d,t+1,os⟩) (ox:=ox) (od:=od) S X I (fun A' Q' q=>nJ (s:=⟨hh,g,d,t+1,os⟩) S X I (S.fclass od) q) rfl (wpAny_pure hq)
theorem t4{v:Value}{expr:Bool}{Q:Value→Shared→Prop}(S:XStd K c C L cd)(X:K.In s.heap)(I:InstAt s.heap x ox C od)(hf:findObj K C od name=some (.value v))(hv:handedIn v=true)(hq:Q v {s with toks:=s.toks+1}) :
  wpAny (model prog w) A (getAttr (.ref x) name expr) Q E s:=by
 obtain⟨hh,g,d,t,os⟩:=s
 unfold getAttr
 refine wpAny_bind (wpAny_mkText ?_)
 exact tY (s:=⟨hh,g,d,t+1,os⟩) (ox:=ox) (od:=od) S X I (fun A' Q' q=>rR (s:=⟨hh,g,d,t+1,os⟩) X I hf q) hv hq
theorem qt(S:XStd K c C L cd):KitX K (.ref x) (.ref C) (fun h=>∃ox od,InstAt h x ox C od) where
 ty:=fun _ _ _ ⟨_,_,I⟩=>I.type
 it:=fun _ _ X _=>by
  have hc:=S.cls
  unfold clsIn at hc
  split at hc
  ·
   rename_i ho
   intro A' Q' E' s' k q
   unfold isType loadHead
   exact wpAny_bind (wpAny_loadPart (k _ _ (X _ _ ho)) (wpAny_pure q))
  ·
   cases hc
 ne:=fun h tp dd its n sl X htp=>by
  refine Bool.eq_false_iff.mpr fun q=>?_
  have e:C=tp:=Value.ref.inj (beq_iff_eq.mp q)
  subst e
  have hc:=S.cls
  unfold clsIn at hc
  split at hc
  ·
   rename_i ho
   have z:=(X _ _ ho).symm.trans htp
   cases z
  ·
   cases hc
 ca:=fun X ⟨_,_,I⟩ k=>o6 S X I k
theorem XStd.fown(S:XStd K c C L cd){o:Obj}{v:Value}(hn:findIn K (.ref C) name=some none)(hl:lookIn name o=some (some v)):findObj K C (some o) name=some (.value v):=by
 unfold findObj
 rw[S.cls,Option.bind_some,hn,Option.bind_some]
 simp[PySem.W.ownOf,S.dct,hl]
end
theorem kM{K:Frag}{C:Addr}{cd:ClassData}(h:clsIn K C=some cd):∃oc odc sl,K.lookup C=some ⟨oc,odc,.cls cd,sl⟩:=by
 unfold clsIn at h
 split at h
 ·
  rename_i ho;cases h;exact⟨_,_,_,ho⟩
 ·
  cases h
section
variable{prog:Program}{w:World}{A:Around}{E:Value→Shared→Prop}{s:Shared}{K:Frag}{c:Str}{x C L:Addr}{cd:ClassData}{ox:Obj}{od:Option Obj}{name:Str}
theorem Cg{vs:Array Value}{text:Value}{Q:Value→Shared→Prop}(S:XStd K c C L cd)(X:K.In s.heap)(I:InstAt s.heap x ox C od)(hd:ox.data=.fields vs)(hz:0<vs.size)
  (hq:∀ t,Q .none {s with heap:=(s.heap.push {cls:=.type "tuple",data:=.seq #[text] }).update x (Obj.mapFields (·.setIfInBounds 0 (.ref s.heap.objs.size))),toks:=t}) :
  wpAny (model prog w) A (call (.builtin "ValueError.__init__") [.ref x,text]) Q E s:=by
 have FB:=F.excBase_ValueError
 have hi:Looks (model prog w) s.heap (isInstance (.ref x) (.type "ValueError")) true:=I.type.andThen (S.isT X _)
 have hx:=I.at_
 obtain⟨hh,g,d,t,os⟩:=s
 have hx1:=Heap.get?_push_of_some (h:=hh) {cls:=.type "tuple",data:=.seq #[text] } hx
 have h0:vs[0]?=some vs[0]:=Array.getElem?_eq_getElem hz
 have hst:=FB.noStar
 refine wpAny_call (codeAny_call_builtin FB.init.plain FB.initEntry ?_)
 simp only[checkBuiltinCall,FB.initKind,FB.initSplit,FB.initRow]
 refine wpAny_bind (hi.here ?_)
 simp only[Bool.not_true,Bool.false_eq_true,if_false]
 have hcl:=I.cls
 obtain⟨oc,odc,sl,hK⟩:=kM S.cls
 have hC:hh.get? C=some ⟨oc,odc,.cls cd,sl⟩:=X _ _ hK
 repeat (first|(with_reducible refine wpAny_loadPart_at hx ?_;rw[hcl])|with_reducible refine wpAny_loadPart_at hC ?_|with_reducible refine(S.isT X _).here ?_|wp_step)
 rw[hd]
 refine wpAny_pure ?_
 rw[h0]
 refine wpAny_pure (wpAny_bind (wpAny_setField hx1 hd hz ?_))
 have done:∀t',wpAny (model prog w) A.in1 (ret Value.none) (fun fin s'=>match fin with
   | Fin.done f=>(match (Except.ok f:Result)with
    |.ok (.ret v)=>Q v s'
    |.ok _=>False
    |.error e=>E e s')
   | Fin.again c'=>c'.quiet=true∧codeAny (model prog w) A c' (fun r s'=>match r with
    |.ok (.ret v)=>Q v s'
    |.ok _=>False
    |.error e=>E e s') s') (fun e s'=>E e s') ⟨(hh.push {cls:=.type "tuple",data:=.seq #[text] }).update x (Obj.mapFields (·.setIfInBounds 0 (.ref hh.objs.size))),g,d,t',os⟩:=fun t'=>wpAny_pure (hq t')
 split
 ·
  exact wpAny_letGo (done _)
 ·
  exact wpAny_pure (done _)
theorem nK{v:Value}{Q:Unit→Shared→Prop}(S:XStd K c C L cd)(X:K.In s.heap)(I:InstAt s.heap x ox C od)(hna:findIn K (.ref C) name=some none)
  (h:∀(A':Around)(R:Fin→Shared→Prop),(∀s',Q () s'→R (.done (.ret .none)) s')→wpAny (model prog w) A' (Builtin.ObjectAttr.storeInOwnDict (.ref x) (.ref C) (.str name s.toks) name v false) R (fun _ _=>False) {s with toks:=s.toks+1}) :
  wpAny (model prog w) A (setAttr (.ref x) name v) Q E s:=by
 have SF:=PySem.F.store_ValueError
 obtain⟨hh,g,d,t,os⟩:=s
 have L0:=I.type (M:=model prog w)
 have L1:=looks_findIn (M:=model prog w) X S.sa
 have L2:=looks_findIn (M:=model prog w) X hna
 have Lm:Looks (model prog w) hh (mroOf (.ref C)) cd.mro:=(looks_clsIn X S.cls).andThen .now
 have hi:Looks (model prog w) hh (isInstance (.ref x) (.type "object")) true:=L0.andThen (S.isT X _)
 unfold setAttr callSpecial? specialOf
 refine wpAny_bind (wpAny_mkText (wpAny_bind (wpAny_bind (wpAny_bind (L0.at (L1.at ?_))))))
 dsimp only
 refine wpAny_holding (wpAny_bind ?_)
 rw[SF.slot.bind]
 refine wpAny_pure (wpAny_bind (wpAny_call ?_))
 refine codeAny_call_builtin SF.slot.plain SF.entry (@check_slot (model prog w) _ _ ⟨hh,g,d,t+1,os⟩ "object.__setattr__" "object" "__setattr__" (.ref x) [.str name t,v] [] _ SF.kind SF.split hi (SF.args (.ref x) (.str name t) v) ?_)
 show wpAny _ _ (Builtin.«object.__setattr__» ⟨[.ref x,.str name t,v],[]⟩) _ _ _
 rw[osa_eq,refuse_eq]
 refine wpAny_bind (wpAny_bind (L0.at (wpAny_bind (Lm.at ?_))))
 rw[S.mro,refuseLoop_ref,refuseLoop_ref,SF.passes]
 refine wpAny_pure (wpAny_bind (L0.at (wpAny_bind (L2.at (wpAny_bind (wpAny_pure ?_))))))
 dsimp only
 refine wpAny_mono (h _ _ fun s' q=>?_) (fun _ _ z=>z) fun _ _ z=>z.elim
 exact wpAny_pure (wpAny_pure q)
theorem vW{v:Value}{Q:Unit→Shared→Prop}(S:XStd K c C L cd)(X:K.In s.heap)(I:InstAt s.heap x ox C od)(hdn:ox.dict=none)(hna:findIn K (.ref C) name=some none)
  (hq:∀h' tk,h'.get? x=some {ox with dict:=some s.heap.objs.size}→h'.Ns1 s.heap.objs.size (fun y=>if y=name then some v else none)→(∀b o,b≠x→s.heap.get? b=some o→h'.get? b=some o)→Q () {s with heap:=h',toks:=tk}) :
  wpAny (model prog w) A (setAttr (.ref x) name v) Q E s:=by
 refine nK S X I hna fun A' R k=>?_
 obtain⟨hh,g,d,t,os⟩:=s
 have hx:=I.at_
 have hcl:=I.cls
 have hno:=I.no
 have Lc:=looks_clsIn (M:=model prog w) X S.cls
 have hxs:x≠hh.objs.size:=Nat.ne_of_lt (Heap.lt_size hx)
 unfold Builtin.ObjectAttr.storeInOwnDict
 refine wpAny_bind (wpAny_pure ?_)
 rw[if_neg (by show ¬ ((Value.ref C == Value.type "module")=true); exact fun z=>by cases z)]
 refine wpAny_bind ?_
 show wpAny _ _ (instanceDict x true) _ _ _
 unfold instanceDict
 refine wpAny_bind (wpAny_loadPart_at hx ?_)
 rw[hcl]
 dsimp only
 refine wpAny_bind (Lc.at ?_)
 rw[S.dct]
 simp only[Bool.not_true,Bool.false_eq_true,if_false]
 rw[hdn]
 dsimp only
 rw[if_neg (by simp[typeHasDict])]
 have go:∀(Q':Option Addr→Shared→Prop),(∀ h1,h1.get? x=some {ox with dict:=some hh.objs.size}→h1.get? hh.objs.size=some {cls:=.type "dict",data:=.dict #[] }→(∀ b o,b≠x→hh.get? b=some o→h1.get? b=some o)→Q' (some hh.objs.size) ⟨h1,g,d,t+1,os⟩) →
   wpAny (model prog w) A' (do
    let d ← alloc {cls:=.type "dict",data:=.dict #[] }
    update x fun o=>{o with dict:=some d}
    dictMade (.ref C) x d) Q' (fun _ _=>False) ⟨hh,g,d,t+1,os⟩:=fun Q' q=>by
  have hx1:(hh.push {cls:=.type "dict",data:=.dict #[] }).get? x=some ox:=Heap.get?_push_of_some _ hx
  refine wpAny_bind (wpAny_alloc' ?_)
  refine wpAny_bind (wpAny_update' hx1 ?_)
  refine wpAny_pure (q _ ?_ ?_ fun b o hb e=>?_)
  ·
   refine Heap.get?_update_self _ hx1 ?_
   have fr:=(Heap.get?_some_iff.mp hx).2
   obtain⟨c0,d0,dt,s0⟩:=ox
   cases dt<;>first|rfl|exact fr
  ·
   exact(Heap.get?_update_ne _ _ _ _ hxs.symm).trans (Heap.get?_push_at rfl rfl)
  ·
   exact(Heap.get?_update_ne _ _ _ _ hb).trans (Heap.get?_push_of_some _ e)
 have fin:∀ h1,h1.get? x=some {ox with dict:=some hh.objs.size}→h1.get? hh.objs.size=some {cls:=.type "dict",data:=.dict #[] }→(∀ b o,b≠x→hh.get? b=some o→h1.get? b=some o) →
   wpAny (model prog w) A' (Builtin.ObjectAttr.storeInDict hh.objs.size (.str name t) name v) R (fun _ _=>False) ⟨h1,g,d,t+1,os⟩:=fun h1 e1 e2 e3=>by
  have n0:h1.Ns hh.objs.size (fun _=>none):=⟨_,#[],_,e2,rfl,fun e he=>absurd he (by simp),fun _=>rfl⟩
  unfold Builtin.ObjectAttr.storeInDict Builtin.ObjectAttr.newKeyGuard
  refine wpAny_bind (wpAny_pure (wpAny_bind (wpAny_nsSet1 (Heap.Ns1.of_empty n0) fun h2 n2 hs=>?_)))
  obtain⟨oD,esD,epD,hoD,hdD,hcD⟩:=n2.count (Within.cons name v Within.nil)
  refine wpAny_bind (wpAny_lookBehind hoD (by rw[hdD];exact pastItsLine_dict (Nat.le_trans hcD (by rw[List.length_cons,List.length_nil,sizeLine_eq];omega))) ?_)
  refine wpAny_pure (k _ (hq h2 _ ((hs.2 x hxs).trans e1) n2 fun b o hb e=>(hs.2 b (Nat.ne_of_lt (Heap.lt_size e))).trans (e3 b o hb e)))
 split
 ·
  rename_i q
  rw[notCls,q]at hno
  cases hno
 ·
  exact go _ fin
theorem vX{v:Value}{Q:Unit→Shared→Prop}{dx:Addr}{mA:Str→Option Value}{ns:List Str}(S:XStd K c C L cd)(X:K.In s.heap)(I:InstAt s.heap x ox C od)(hdx:ox.dict=some dx)(hN:s.heap.Ns1 dx mA)(hw:PySem.Within mA ns)(hz:ns.length≤1000)(hna:findIn K (.ref C) name=some none)
  (hq:∀h' tk,h'.Ns1 dx (fun y=>if y=name then some v else mA y)→Heap.SameBut dx s.heap h'→Q () {s with heap:=h',toks:=tk}) :
  wpAny (model prog w) A (setAttr (.ref x) name v) Q E s:=by
 refine nK S X I hna fun A' R k=>?_
 obtain⟨hh,g,d,t,os⟩:=s
 have hx:=I.at_
 have hcl:=I.cls
 have Lc:=looks_clsIn (M:=model prog w) X S.cls
 unfold Builtin.ObjectAttr.storeInOwnDict
 refine wpAny_bind (wpAny_pure ?_)
 rw[if_neg (by show ¬ ((Value.ref C == Value.type "module")=true); exact fun z=>by cases z)]
 refine wpAny_bind ?_
 show wpAny _ _ (instanceDict x true) _ _ _
 unfold instanceDict
 refine wpAny_bind (wpAny_loadPart_at hx ?_)
 rw[hcl]
 dsimp only
 refine wpAny_bind (Lc.at ?_)
 rw[S.dct]
 simp only[Bool.not_true,Bool.false_eq_true,if_false]
 rw[hdx]
 refine wpAny_pure ?_
 show wpAny _ _ (Builtin.ObjectAttr.storeInDict dx (.str name t) name v) _ _ _
 unfold Builtin.ObjectAttr.storeInDict Builtin.ObjectAttr.newKeyGuard
 refine wpAny_bind (wpAny_pure (wpAny_bind (wpAny_nsSet1 hN fun h2 n2 hs=>?_)))
 obtain⟨oD,esD,epD,hoD,hdD,hcD⟩:=n2.count (Within.cons name v hw)
 refine wpAny_bind (wpAny_lookBehind hoD (by rw[hdD];exact pastItsLine_dict (Nat.le_trans hcD (by rw[List.length_cons,sizeLine_eq];omega))) ?_)
 exact wpAny_pure (k _ (hq h2 _ n2 hs))
end
end L2
namespace L2
open PySem PySem.Spec PyProof.Rows
section
variable{X:Cx}{pins:List (Addr×Obj)}{σ:St}{H:Hp}{s:Shared}
theorem Inv.reword{a:Addr}{u w:HO}(I:Inv X pins σ H s)(h:H a=some u)(hu:¬Pers u)(hw:∀y,u≠.own y)(nw:b9 X.prog X.w H s.heap a w)(hw2:∀C dx fs,w≠.ins C dx fs):Inv X pins σ (upd H a w) s:=by
 have ne:∀b,H b=none→b≠a:=fun b n e=>by subst e;rw[h]at n;cases n
 have nt:∀b xs,H b=some (.tup xs)→b≠a:=fun b xs n e=>by subst e;rw[h]at n;cases n;exact hu True.intro
 have nf:∀b o z,H b=some (.frz o z)→b≠a:=fun b o z n e=>by subst e;rw[h]at n;cases n;exact hu True.intro
 have no:∀b z,H b=some (.own z)→b≠a:=fun b z n e=>by subst e;rw[h]at n;cases n;exact hw _ rfl
 refine⟨I.ok,I.os,I.bare,⟨I.base.keep,I.base.slot,fun b ob e n hx=>?_,I.base.there,fun b xs e=>?_,fun b ob z e=>?_,fun b ps e=>?_⟩,I.loc,I.cell,?_,fun x c e=>?_,fun p hp=>?_,fun b z e=>?_,I.len⟩
 ·
  have q:=I.base.free b ob e n hx
  rw[aj (ne b q)];exact q
 ·
  have q:=I.base.tups b xs e
  rw[aj (nt b xs q)];exact q
 ·
  have q:=I.base.frzs b ob z e
  rw[aj (nf b ob z q)];exact q
 ·
  have q:=I.base.tbls b ps e
  rw[aj (fun z=>by subst z;rw[h]at q;cases q;exact hu True.intro)];exact q
 ·
  rw[aj (ne _ I.free)];exact I.free
 ·
  rcases I.freeC x c e with z|⟨hf,o,z⟩
  ·
   exact .inl (by rw[aj (ne _ z)];exact z)
  ·
   exact .inr ⟨hf,o,by rw[aj (nf _ _ _ z)];exact z⟩
 ·
  obtain⟨e,n,r⟩:=I.pin p hp
  exact⟨e,by rw[aj (ne _ n)];exact n,r⟩
 ·
  by_cases hb:b=a
  ·
   subst hb
   rw[aC]at e
   cases e
   exact nw.stay (fun c v _ q=>q) (fun c q=>by rw[aj (no c _ q)];exact q) (fun c xs q=>by rw[aj (nt c xs q)];exact q) fun c ob _ _ q=>by rw[aj (nf c ob _ q)];exact q
  ·
   rw[aj hb]at e
   exact(I.hok b z e).stay (fun c v _ q=>q) (fun c q=>by rw[aj (no c _ q)];exact q) (fun c xs q=>by rw[aj (nt c xs q)];exact q) fun c ob _ _ q=>by rw[aj (nf c ob _ q)];exact q
theorem Inv.freezeL{a:Addr}{xs:List V}(I:Inv X pins σ H s)(h:H a=some (.lst xs)):∃o,Inv X pins σ (upd H a (.frz o (.lst xs))) s:=by
 obtain⟨z,its,n,r,e⟩:=id (I.hok a _ h)
 exact⟨_,I.reword h (fun q=>q) (fun _ q=>nomatch q) ⟨e,z,its,n,r,e⟩ (fun _ _ _ q=>nomatch q)⟩
theorem Inv.freezeD{a:Addr}{xs:List (Key×V)}(I:Inv X pins σ H s)(h:H a=some (.dK xs)):∃o,Inv X pins σ (upd H a (.frz o (.dK xs))) s:=by
 obtain⟨z,y,vs,r,o,es,ep,e,c⟩:=id (I.hok a _ h)
 exact⟨_,I.reword h (fun q=>q) (fun _ q=>nomatch q) ⟨e,z,y,vs,r,o,es,ep,e,c⟩ (fun _ _ _ q=>nomatch q)⟩
end
section
variable{K:PySem.W.Frag}{Pr H:Hp}{σ:St}{ρ:Ev}
theorem REnv.new(E:REnv K Pr H σ ρ){p:Addr}{o:HO}(h:H p=none):REnv K Pr (upd H p o) σ ρ:=by
 have k:∀b u,H b=some u→upd H p o b=some u:=fun b u e=>by rw[aj (aL e h)];exact e
 exact⟨fun b u e=>k b u (E.sub b u e),E.nd,E.off,Paired.impMem E.sl fun l hl s q=>q.pres (fun b u _ e=>k b u e) l fun a e=>by
  obtain⟨vs,e,_⟩:=E.at_own (d5.mpr ⟨l,hl,e⟩)
  rw[k _ _ e,e]⟩
theorem Reps.new{vs:List V}{ds:List D}(r:Reps K H vs ds){p:Addr}{o:HO}(h:H p=none):Reps K (upd H p o) vs ds:=r.pres fun b u _ e=>by rw[aj (aL e h)];exact e
theorem Rep.new{v:V}{d:D}(r:Rep K H v d){p:Addr}{o:HO}(h:H p=none):Rep K (upd H p o) v d:=r.pres fun b u _ e=>by rw[aj (aL e h)];exact e
theorem jX:owns (.un::ρ)=owns ρ:=rfl
theorem aO{a:Addr}{xs:List D}:owns (.own a xs::ρ)=a::owns ρ:=rfl
theorem REnv.cons_d(E:REnv K Pr H σ ρ){v:V}{x:D}(r:Rep K H v x):REnv K Pr H (some v::σ) (.d x::ρ):=⟨E.sub,E.nd,E.off,.cons ⟨v,rfl,r⟩ E.sl⟩
theorem REnv.cons_un(E:REnv K Pr H σ ρ){v:Option V}:REnv K Pr H (v::σ) (.un::ρ):=⟨E.sub,E.nd,E.off,.cons True.intro E.sl⟩
theorem REnv.cons_own(E:REnv K Pr H σ ρ){p:Addr}{vs:List V}{xs:List D}(h:H p=none)(r:Reps K H vs xs):REnv K Pr (upd H p (.lst vs)) (some (.ref p)::σ) (.own p xs::ρ):=by
 have E':=E.new (o:=.lst vs) h
 refine⟨E'.sub,?_,fun a ha=>?_,.cons ⟨rfl,vs,aC,r.new h⟩ E'.sl⟩
 ·
  rw[aO]
  refine List.nodup_cons.mpr ⟨fun hm=>?_,E.nd⟩
  obtain⟨us,e,_⟩:=E.at_own hm
  rw[h]at e;cases e
 ·
  rw[aO]at ha
  rcases List.mem_cons.mp ha with rfl|ha
  ·
   cases q:Pr a with
   |none=>rfl
   |some u=>rw[E.sub a u q]at h;cases h
  ·
   exact E.off a ha
theorem REnv.cons_tup(E:REnv K Pr H σ ρ){p:Addr}{vs:List V}{xs:List D}(h:H p=none)(r:Reps K H vs xs):REnv K Pr (upd H p (.tup vs)) (some (.ref p)::σ) (.d (.tup xs)::ρ) :=
 (E.new h).cons_d (.tup (SqT.of aC) (r.new h))
theorem REnv.freeze(E:REnv K Pr H σ (.own a xs::ρ)){vs:List V}(h:H a=some (.lst vs))(o:Obj):REnv K Pr (upd H a (.frz o (.lst vs))) σ (.d (.lst xs)::ρ):=by
 have pa:Pr a=none:=E.off a (by rw[aO];exact List.mem_cons_self)
 have nd:=E.nd
 rw[aO]at nd
 obtain⟨hn,nd⟩:=List.nodup_cons.mp nd
 have p:Pres H (upd H a (.frz o (.lst vs))):=fun b u pu e=>by
  rw[aj];exact e
  rintro rfl
  rw[h]at e;cases e;exact pu
 refine⟨fun b u e=>?_,nd,fun b hb=>E.off b (by rw[aO];exact List.mem_cons_of_mem _ hb),?_⟩
 ·
  rw[aj];exact E.sub b u e
  rintro rfl
  rw[pa]at e;cases e
 ·
  have sl:=E.sl
  cases sl with
  | cons q t =>
   obtain⟨e,us,e2,r⟩:=q
   rw[h]at e2;cases e2
   refine .cons ⟨.ref a,e,.lst (.inl ⟨o,aC⟩) (r.pres p)⟩ (Paired.impMem t fun l hl s z=>z.pres p l fun b hbm=>?_)
   rw[aj]
   rintro rfl
   exact hn (d5.mpr ⟨l,hl,hbm⟩)
theorem ay(l:L)(ρ:Ev):owns (l::ρ)=aP l++owns ρ:=rfl
theorem jY{a:Addr}{xs ys:List D}:∀{ρ:Ev}{i:Nat},ρ[i]?=some (.own a xs)→owns (ρ.set i (.own a ys))=owns ρ
 |[],_,h=>by simp at h
 |_::_,0,h=>by simp at h;subst h;rfl
 | l::ρ,i+1,h=>by
  have ih:=jY (i:=i) (ρ:=ρ) (ys:=ys) (by simpa using h)
  show owns (l::ρ.set i (.own a ys))=owns (l::ρ)
  rw[ay,ay,ih]
theorem dC{k:L}:∀{ρ:Ev}{i:Nat}{l:L},ρ[i]?=some k→aP l=[]→(owns ρ).Perm (aP k++owns (ρ.set i l))
 |[],_,_,h,_=>by simp at h
 | _::ρ,0,l,h,hl=>by
  simp at h;subst h
  show(owns (_::ρ)).Perm (_++owns (l::ρ))
  rw[ay,ay,hl]
  exact List.Perm.refl _
 | m::ρ,i+1,l,h,hl=>by
  have ih:=dC (i:=i) (ρ:=ρ) (l:=l) (by simpa using h) hl
  show(owns (m::ρ)).Perm (aP k++owns (m::ρ.set i l))
  rw[ay,ay]
  refine(List.Perm.append_left _ ih).trans ?_
  rw[← List.append_assoc,← List.append_assoc]
  exact List.Perm.append_right _ List.perm_append_comm
theorem t5{a:Addr}{xs:List D}{ρ:Ev}{i:Nat}{l:L}(h:ρ[i]?=some (.own a xs))(hl:aP l=[]):(owns ρ).Perm (a::owns (ρ.set i l)):=dC h hl
theorem qu{ρ:Ev}{i:Nat}(l:L)(h:ρ[i]?=some .un):(owns (ρ.set i l)).Perm (aP l++owns ρ):=by
 have hi:i<ρ.length:=(List.getElem?_eq_some_iff.mp h).1
 have pm:=dC (ρ:=ρ.set i l) (i:=i) (k:=l) (l:=.un) (by simp[hi]) rfl
 rw[List.set_set]at pm
 have e2:ρ.set i .un=ρ:=by
  have:=List.set_getElem_self (as:=ρ) (i:=i) hi
  have e3:ρ[i]=.un:=(List.getElem?_eq_some_iff.mp h).2
  rw[e3]at this;exact this
 rw[e2]at pm
 exact pm
theorem REnv.outL(E:REnv K Pr H σ ρ){i:Nat}{k:L}{s:Option V}(h:ρ[i]?=some k)(hs:σ[i]?=some s):REnv K Pr H (s::σ) (k::ρ.set i .un):=by
 have pm:=dC (l:=.un) h rfl
 obtain⟨s',hs',q⟩:=Paired.get2 E.sl h
 rw[hs]at hs'
 cases hs'
 refine⟨E.sub,?_,fun b hb=>E.off b (pm.mem_iff.mpr (by rw[ay]at hb;exact hb)),.cons q (Paired.set_r i E.sl fun _ _=>by simp only[aN])⟩
 rw[ay];exact pm.nodup_iff.mp E.nd
theorem REnv.out(E:REnv K Pr H σ ρ){i:Nat}{a:Addr}{xs:List D}(h:ρ[i]?=some (.own a xs)):REnv K Pr H (some (.ref a)::σ) (.own a xs::ρ.set i .un):=by
 have pm:=t5 (l:=.un) h rfl
 obtain⟨s,hs,q⟩:=Paired.get2 E.sl h
 refine⟨E.sub,?_,fun b hb=>E.off b (pm.mem_iff.mpr (by rw[aO]at hb;exact hb)),.cons ?_ (Paired.set_r i E.sl fun _ _=>by simp only[aN])⟩
 ·
  rw[aO];exact pm.nodup_iff.mp E.nd
 ·
  obtain⟨_,r⟩:=q
  exact⟨rfl,r⟩
theorem REnv.back{v:Option V}{l:L}(E:REnv K Pr H (v::σ) (l::ρ)){i:Nat}(h:ρ[i]?=some .un)(hs:σ[i]?=some v):REnv K Pr H σ (ρ.set i l):=by
 have sl:=E.sl
 cases sl with
 | cons q t =>
  have e1:ρ.set i l=(ρ.set i l):=rfl
  refine⟨E.sub,?_,fun b hb=>?_,Paired.set_r i t fun a e=>by rw[hs]at e;cases e;exact q⟩
  ·
   exact(qu l h).nodup_iff.mpr E.nd
  ·
   exact E.off b ((qu l h).mem_iff.mp hb)
theorem REnv.write(E:REnv K Pr H σ (.own a xs::ρ)){vs:List V}{ys:List D}(r:Reps K H vs ys):REnv K Pr (upd H a (.lst vs)) σ (.own a ys::ρ):=by
 have pa:Pr a=none:=E.off a (by rw[aO];exact List.mem_cons_self)
 have nd:=E.nd
 rw[aO]at nd
 obtain⟨hn,nd'⟩:=List.nodup_cons.mp nd
 obtain⟨us,ha,mu⟩:=E.at_own (a:=a) (by rw[aO];exact List.mem_cons_self)
 have p:Pres H (upd H a (.lst vs)):=fun b u pu e=>by
  rw[aj];exact e
  rintro rfl
  rw[ha]at e;cases e;exact mu.no pu
 refine⟨fun b u e=>?_,nd,fun b hb=>E.off b hb,?_⟩
 ·
  rw[aj];exact E.sub b u e
  rintro rfl
  rw[pa]at e;cases e
 ·
  have sl:=E.sl
  cases sl with
  | cons q t =>
   obtain⟨e,_⟩:=q
   refine .cons ⟨e,vs,aC,r.pres p⟩ (Paired.impMem t fun l hl s z=>z.pres p l fun b hbm=>?_)
   rw[aj]
   rintro rfl
   exact hn (d5.mpr ⟨l,hl,hbm⟩)
end
abbrev W(α:Type):=Ev→(α→Ev→Prop)→Prop
inductive Fl where
 |nx|bk|ct|rt (r:L)
def EL(X:Cx)(pins:List (Addr×Obj))(σ:St)(Pr:Hp)(post:L→Ev→Prop)(u:Value)(s':Shared):Prop :=
 ∃v H' r ρ',Inv X pins σ H' s'∧RelV v u∧REnv X.K Pr H' (some v::σ) (r::ρ')∧post r ρ'
def PL(X:Cx)(e:Expr)(t:W L):Prop :=
 ∀(pins:List (Addr×Obj))(s:Shared)(σ:St)(H Pr:Hp)(ρ:Ev)(post:L→Ev→Prop),Inv X pins σ H s→REnv X.K Pr H σ ρ→t ρ post→wpAny (model X.prog X.w) X.A (eval e X.env) (EL X pins σ Pr post) X.xe s
def EB(X:Cx)(pins:List (Addr×Obj))(σ:St)(Pr:Hp)(post:Bool→Ev→Prop)(b:Bool)(s':Shared):Prop :=
 ∃H' ρ',Inv X pins σ H' s'∧REnv X.K Pr H' σ ρ'∧post b ρ'
def PB(X:Cx)(e:Expr)(t:W Bool):Prop :=
 ∀(pins:List (Addr×Obj))(s:Shared)(σ:St)(H Pr:Hp)(ρ:Ev)(post:Bool→Ev→Prop),Inv X pins σ H s→REnv X.K Pr H σ ρ→t ρ post→wpAny (model X.prog X.w) X.A (isTrue e X.env (eval e X.env)) (EB X pins σ Pr post) X.xe s
def EA(X:Cx)(pins:List (Addr×Obj))(σ:St)(Pr:Hp)(bs:List (Option Nat))(post:List L→Ev→Prop)(us:List Value)(s':Shared):Prop :=
 ∃vs H' ls ρ',Inv X pins σ H' s'∧Vals vs us∧vs.length=ls.length∧vs.length=bs.length∧REnv X.K Pr H' (vs.map some++σ) (ls++ρ')∧(∀(k i:Nat),bs[k]?=some (some i)→ls[k]?=some L.un∧∃v,vs[k]?=some v∧σ[i]?=some (some v))∧post ls ρ'
def PAL(X:Cx)(es:List Expr)(bs:List (Option Nat))(t:W (List L)):Prop :=
 ∀(pos:Pos)(pins:List (Addr×Obj))(s:Shared)(σ:St)(H Pr:Hp)(ρ:Ev)(post:List L→Ev→Prop),Inv X pins σ H s→REnv X.K Pr H σ ρ→t ρ post →
  wpAny (model X.prog X.w) X.A (spliced (backTo pos (starEach es X.env))) (EA X pins σ Pr bs post) X.xe s
def SM(X:Cx)(pins:List (Addr×Obj))(Pr:Hp)(post:Fl→Ev→Prop)(f:Flow)(s':Shared):Prop :=
 match f with
 |.next=>∃σ' H' ρ',Inv X pins σ' H' s'∧REnv X.K Pr H' σ' ρ'∧post .nx ρ'
 |.brk=>∃σ' H' ρ',Inv X pins σ' H' s'∧REnv X.K Pr H' σ' ρ'∧post .bk ρ'
 |.cont=>∃σ' H' ρ',Inv X pins σ' H' s'∧REnv X.K Pr H' σ' ρ'∧post .ct ρ'
 |.ret u=>∃v σ' H' r ρ' τ,Inv X pins σ' H' s'∧RelV v u∧REnv X.K Pr H' (some v::τ) (r::ρ')∧post (.rt r) ρ'
def PM(X:Cx)(st:Stmt)(t:W Fl):Prop :=
 ∀(pins:List (Addr×Obj))(s:Shared)(σ:St)(H Pr:Hp)(ρ:Ev)(post:Fl→Ev→Prop),Inv X pins σ H s→REnv X.K Pr H σ ρ→t ρ post→wpAny (model X.prog X.w) X.A (exec st X.env) (SM X pins Pr post) X.xe s
def PMs(X:Cx)(st:List Stmt)(t:W Fl):Prop :=
 ∀(pins:List (Addr×Obj))(s:Shared)(σ:St)(H Pr:Hp)(ρ:Ev)(post:Fl→Ev→Prop),Inv X pins σ H s→REnv X.K Pr H σ ρ→t ρ post→wpAny (model X.prog X.w) X.A (execs st X.env) (SM X pins Pr post) X.xe s
section
variable{X:Cx}{e a b:Expr}{pos:Pos}{ta tb:W L}
theorem PL.of{t:TE}{u:W L}(h:PE X e t)(q:∀σ H Pr ρ post,REnv X.K Pr H σ ρ→u ρ post→t σ H fun v H'=>∃r ρ',REnv X.K Pr H' (some v::σ) (r::ρ')∧post r ρ'):PL X e u :=
 fun pins s σ H Pr ρ post I E hu=>thn (h pins s σ H _ I (q σ H Pr ρ post E hu)) fun u s1 ⟨v,H1,I1,r1,r,ρ',E1,p⟩=>⟨v,H1,r,ρ',I1,r1,E1,p⟩
mutual
def bo:L→Option D
 |.un=>none
 |.d x=>some x
 |.own _ xs=>some (.lst xs)
 |.bx none ls=>(bK ls).map .tup
 |.bx (some _) ls=>(bK ls).map .lst
 |.dic _ _=>none
def bK:List L→Option (List D)
 |[]=>some []
 | l::ls=>match bo l,bK ls with
  |some x,some xs=>some (x::xs)
  |_,_=>none
end
def dF:Option D→(D→Prop)→Prop
 |some x,k=>k x
 |none,_=>False
theorem rS{o:Option D}{k:D→Prop}(h:dF o k):∃x,o=some x∧k x:=by
 cases o with
 |some x=>exact⟨x,rfl,h⟩
 |none=>exact h.elim
def toDB(a:Option Addr)(ls:List L)(k:D→Prop):Prop:=dF (bo (.bx a ls)) k
def toD:L→(D→Prop)→Prop
 |.un,_=>False
 |.d x,k=>k x
 |.own _ xs,k=>k (.lst xs)
 |.bx a ls,k=>toDB a ls k
 |.dic _ _,_=>False
theorem t6{a:Option Addr}{ls:List L}{k:D→Prop}(h:toDB a ls k):∃x,bo (.bx a ls)=some x∧k x:=rS h
def eraK(ls:List L)(k:List D→Prop):Prop:=∃xs,bK ls=some xs∧k xs
theorem AR(ls:List L)(k:D→Prop):toDB none ls k=eraK ls fun xs=>k (.tup xs):=by
 unfold toDB eraK
 simp only[bo]
 cases bK ls with
 |none=>simp[dF]
 |some xs=>simp[dF]
theorem AS(a:Addr)(ls:List L)(k:D→Prop):toDB (some a) ls k=eraK ls fun xs=>k (.lst xs):=by
 unfold toDB eraK
 simp only[bo]
 cases bK ls with
 |none=>simp[dF]
 |some xs=>simp[dF]
theorem vY(k:List D→Prop):eraK [] k=k []:=by
 unfold eraK
 simp[bK]
theorem yt(l:L)(k:D→Prop):toD l k=∃x,bo l=some x∧k x:=by
 cases l with
 |un=>simp[toD,bo]
 |d x=>simp[toD,bo]
 |own a xs=>simp[toD,bo]
 | bx a ls =>
  show dF _ k=_
  cases bo (.bx a ls)with
  |none=>simp[dF]
  |some x=>simp[dF]
 |dic a kvs=>simp[toD,bo]
theorem t7(l:L)(ls:List L)(k:List D→Prop):eraK (l::ls) k=toD l fun x=>eraK ls fun xs=>k (x::xs):=by
 rw[yt]
 unfold eraK
 simp only[bK]
 cases bo l with
 |none=>simp
 | some x =>
  cases bK ls with
  |none=>simp
  |some xs=>simp
theorem cW{K:PySem.W.Frag}{H:Hp}:∀{vs:List V}{ls:List L},bE K H vs ls↔Paired (aN K H) (vs.map some) ls
 |[],[]=>⟨fun _=>.nil,fun _=>by simp only[bE]⟩
 | v::vs,l::ls=>by
  simp only[bE,List.map_cons]
  constructor
  ·
   rintro⟨w,us,e,h1,h2⟩
   cases e
   exact .cons h1 (cW.mp h2)
  ·
   intro h
   cases h with
   |cons q t=>exact⟨v,vs,rfl,q,cW.mpr t⟩
 | [],l::ls=>by
  simp only[bE,List.map_nil]
  constructor
  ·
   rintro⟨w,us,e,_⟩;cases e
  ·
   intro h;cases h
 | v::vs,[]=>by
  simp only[bE,List.map_cons]
  constructor
  ·
   intro h;cases h
  ·
   intro h;cases h
theorem o7{K:PySem.W.Frag}{H:Hp}:∀{vs:List V}{xs:List D},Paired (aN K H) (vs.map some) (xs.map .d)→Reps K H vs xs
 |[],[],_=>.nil
 | v::vs,x::xs,h=>by
  simp only[List.map_cons]at h
  cases h with
  | cons q t =>
   simp only[aN]at q
   obtain⟨w,e,r⟩:=q
   cases e
   exact .cons r (o7 t)
 |[],_::_,h=>by simp only[List.map_cons,List.map_nil]at h;cases h
 |_::_,[],h=>by simp only[List.map_cons,List.map_nil]at h;cases h
theorem bE.len{K:PySem.W.Frag}{H:Hp}{vs:List V}{ls:List L}(h:bE K H vs ls):vs.length=ls.length:=by
 have:=Paired.length (cW.mp h)
 simpa using this
theorem fu:∀{ls:List L}{xs:List D},bK ls=some xs→xs.length=ls.length
 |[],_,h=>by simp[bK]at h;subst h;rfl
 | l::ls,xs,h=>by
  simp only[bK]at h
  split at h
  ·
   rename_i x ys h1 h2
   cases h
   simp[fu h2]
  ·
   cases h
theorem REnv.openT{K:PySem.W.Frag}{Pr H:Hp}{σ:St}{ρ:Ev}{v:Option V}{ls:List L}(E:REnv K Pr H (v::σ) (.bx none ls::ρ)):∃a vs,v=some (.ref a)∧SqT K H a vs∧vs.length=ls.length∧REnv K Pr H (vs.map some++σ) (ls++ρ):=by
 have sl:=E.sl
 cases sl with
 | cons q t =>
  simp only[aN]at q
  obtain⟨a,vs,e,h,r⟩:=q
  have ow:owns (.bx none ls::ρ)=owns (ls++ρ):=by
   rw[ay,ar]
   simp only[aP,Option.toList,List.nil_append,dE]
  exact⟨a,vs,e,h,r.len,E.sub,by rw[← ow];exact E.nd,fun b hb=>E.off b (by rw[ow];exact hb),Paired.app (cW.mp r) t⟩
theorem REnv.openO{K:PySem.W.Frag}{Pr H:Hp}{σ:St}{ρ:Ev}{v:Option V}{a:Addr}{ls:List L}(E:REnv K Pr H (v::σ) (.bx (some a) ls::ρ)):∃vs,v=some (.ref a)∧H a=some (.lst vs)∧vs.length=ls.length∧a∉owns (ls++ρ)∧Pr a=none∧REnv K Pr H (vs.map some++σ) (ls++ρ):=by
 have sl:=E.sl
 cases sl with
 | cons q t =>
  simp only[aN]at q
  obtain⟨e,vs,h,r⟩:=q
  have ow:owns (.bx (some a) ls::ρ)=a::owns (ls++ρ):=by
   rw[ay,ar]
   simp only[aP,Option.toList,List.cons_append,List.nil_append,dE]
  have nd:=E.nd
  rw[ow]at nd
  obtain⟨n1,n2⟩:=List.nodup_cons.mp nd
  exact⟨vs,e,h,r.len,n1,E.off a (by rw[ow];exact List.mem_cons_self),E.sub,n2,fun b hb=>E.off b (by rw[ow];exact List.mem_cons_of_mem _ hb),Paired.app (cW.mp r) t⟩
theorem mI(xs:List D):owns (xs.map .d)=[]:=by
 induction xs with
 |nil=>rfl
 |cons x xs ih=>rw[List.map_cons,ay,ih];rfl
def jZ(H H':Hp)(S:List Addr):Prop:=Pres H H'∧(∀b,b∉S→H' b=H b)∧∀a∈S,∀vs,H a=some (.lst vs)→∃o,H' a=some (.frz o (.lst vs))
theorem jZ.refl(H:Hp):jZ H H []:=⟨fun _ _ _ e=>e,fun _ _=>rfl,fun _ h=>by simp at h⟩
mutual
theorem frzL:∀(l:L){pins:List (Addr×Obj)}{σ0:St}{s:Shared}{Pr H:Hp}{σ:St}{ρ:Ev}{v:Option V}{x:D},Inv X pins σ0 H s→REnv X.K Pr H (v::σ) (l::ρ)→bo l=some x→∃H',Inv X pins σ0 H' s∧REnv X.K Pr H' (v::σ) (.d x::ρ)∧jZ H H' (aP l)
 |.un,_,_,_,_,_,_,_,_,_,_,_,h=>by simp[bo]at h
 |.dic _ _,_,_,_,_,_,_,_,_,_,_,_,h=>by simp[bo]at h
 | .d y,_,_,_,_,_,_,_,_,_,I,E,h=>by
  simp only[bo,Option.some.injEq]at h
  subst h
  exact⟨_,I,E,jZ.refl _⟩
 | .own a xs,_,_,_,_,H,σ,ρ,v,_,I,E,h=>by
  simp only[bo,Option.some.injEq]at h
  subst h
  have sl:=E.sl
  cases sl with
  | cons q t =>
   simp only[aN]at q
   obtain⟨e0,vs,ha,r⟩:=q
   obtain⟨o,I'⟩:=I.freezeL ha
   refine⟨_,I',E.freeze ha o,fun b u pu eb=>?_,fun b hb=>?_,fun b hb vs' eb=>?_⟩
   ·
    rw[aj];exact eb
    rintro rfl
    rw[ha]at eb;cases eb;exact pu
   ·
    rw[aj]
    rintro rfl
    exact hb (by simp[aP])
   ·
    have e:b=a:=by simpa[aP]using hb
    subst e
    rw[ha]at eb;cases eb
    exact⟨o,aC⟩
 | .bx none ls,_,_,_,Pr,H,σ,ρ,v,x,I,E,h=>by
  simp only[bo,Option.map_eq_some_iff]at h
  obtain⟨xs,h,rfl⟩:=h
  obtain⟨a,vs,rfl,ha,hl,E1⟩:=E.openT
  obtain⟨H',I',E',F⟩:=yu ls hl I E1 h
  have hxl:=fu h
  obtain⟨s1,s2⟩:=Paired.unapp (by simp[hl,hxl]) E'.sl
  refine⟨H',I',(E'.drop (by simp[hl,hxl])).cons_d (.tup (ha.pres F.1) (o7 s1)),F.1,fun b hb=>F.2.1 b ?_,fun b hb=>F.2.2 b ?_⟩
  ·
   simpa[aP,dE]using hb
  ·
   simpa[aP,dE]using hb
 | .bx (some a) ls,_,_,_,Pr,H,σ,ρ,v,x,I,E,h=>by
  simp only[bo,Option.map_eq_some_iff]at h
  obtain⟨xs,h,rfl⟩:=h
  obtain⟨vs,rfl,ha,hl,hn,hp,E1⟩:=E.openO
  obtain⟨H',I',E',F⟩:=yu ls hl I E1 h
  have hxl:=fu h
  have hal:a∉owns ls:=fun z=>hn (by rw[ar];exact List.mem_append_left _ z)
  have haρ:a∉owns ρ:=fun z=>hn (by rw[ar];exact List.mem_append_right _ z)
  have ha':H' a=some (.lst vs):=(F.2.1 a hal).trans ha
  obtain⟨s1,s2⟩:=Paired.unapp (by simp[hl,hxl]) E'.sl
  have E2:=E'.drop (by simp[hl,hxl])
  have E3:REnv X.K Pr H' (some (.ref a)::σ) (.own a xs::ρ):=by
   refine⟨E2.sub,?_,fun b hb=>?_,.cons ?_ E2.sl⟩
   ·
    rw[aO];exact List.nodup_cons.mpr ⟨haρ,E2.nd⟩
   ·
    rw[aO]at hb
    rcases List.mem_cons.mp hb with z|z
    ·
     rw[z];exact hp
    ·
     exact E2.off b z
   ·
    unfold aN
    exact⟨rfl,vs,ha',o7 s1⟩
  obtain⟨o,I2⟩:=I'.freezeL ha'
  refine⟨_,I2,E3.freeze ha' o,fun b u pu e=>?_,fun b hb=>?_,fun b hb vs' eb=>?_⟩
  ·
   rw[aj];exact F.1 b u pu e
   rintro rfl
   rw[ha]at e;cases e;exact pu
  ·
   have hb':b≠a∧b∉owns ls:=by simpa[aP,dE,not_or]using hb
   rw[aj hb'.1]
   exact F.2.1 b hb'.2
  ·
   by_cases hba:b=a
   ·
    subst hba
    rw[ha]at eb;cases eb
    exact⟨o,aC⟩
   ·
    have hb':b∈owns ls:=by
     rcases(by simpa[aP,dE]using hb:b=a∨b∈owns ls)with z|z
     ·
      exact absurd z hba
     ·
      exact z
    rw[aj hba]
    exact F.2.2 b hb' vs' eb
theorem yu:∀(ls:List L){pins:List (Addr×Obj)}{σ0:St}{s:Shared}{Pr H:Hp}{σ:St}{ρ:Ev}{vs:List V}{xs:List D},vs.length=ls.length→Inv X pins σ0 H s→REnv X.K Pr H (vs.map some++σ) (ls++ρ)→bK ls=some xs→∃H',Inv X pins σ0 H' s∧REnv X.K Pr H' (vs.map some++σ) (xs.map .d++ρ)∧jZ H H' (owns ls)
 | [],_,_,_,_,_,_,_,vs,xs,hl,I,E,h=>by
  simp only[bK,Option.some.injEq]at h
  subst h
  cases vs with
  |nil=>exact⟨_,I,E,jZ.refl _⟩
  |cons _ _=>simp at hl
 | l::ls,_,_,_,Pr,H,σ,ρ,vs,xs,hl,I,E,h=>by
  simp only[bK]at h
  split at h
  rotate_left
  ·
   cases h
  rename_i x ys h1 h2
  cases h
  cases vs with
  |nil=>simp at hl
  | cons v vs =>
   have hl':vs.length=ls.length:=by simpa using hl
   obtain⟨H1,I1,E1,F1⟩:=frzL l I E h1
   have E2:REnv X.K (aZ H1 (ls++ρ)) H1 (vs.map some++σ) (ls++ρ):=(E1.drop (τ:=[some v]) (lam:=[.d x]) rfl).wide
   obtain⟨H2,I2,E3,F2⟩:=yu ls hl' I1 E2 h2
   have hyl:=fu h2
   have E4:REnv X.K Pr H2 (some v::(vs.map some++σ)) (.d x::(ys.map .d++ρ)):=by
    have z:=REnv.step (τ:=[some v]) (lam:=[.d x]) (w:=[]) (μ:=[]) (σ':=vs.map some++σ) (ρ':=ys.map .d++ρ) E1 rfl E3 rfl
    exact z
   refine⟨H2,I2,E4,fun b u pu e=>F2.1 b u pu (F1.1 b u pu e),fun b hb=>?_,fun b hb vs' eb=>?_⟩
   ·
    rw[ay]at hb
    rw[F2.2.1 b (fun z=>hb (List.mem_append_right _ z)),F1.2.1 b (fun z=>hb (List.mem_append_left _ z))]
   ·
    rw[ay]at hb
    rcases List.mem_append.mp hb with z|z
    ·
     obtain⟨o,eo⟩:=F1.2.2 b z vs' eb
     exact⟨o,F2.1 b _ True.intro eo⟩
    ·
     have hn:b∉aP l:=fun z'=>by
      have nd:=E.nd
      rw[List.cons_append,ay,ar]at nd
      exact(List.nodup_append.mp nd).2.2 b z' b (List.mem_append_left _ z) rfl
     exact F2.2.2 b z vs' ((F1.2.1 b hn).trans eb)
end
theorem EL.frz{pins:List (Addr×Obj)}{σ:St}{Pr:Hp}{post:D→Ev→Prop}{u:Value}{s':Shared}(h:EL X pins σ Pr (fun r ρ=>toD r fun x=>post x ρ) u s') :
  ∃v H' x ρ',Inv X pins σ H' s'∧RelV v u∧REnv X.K Pr H' (some v::σ) (.d x::ρ')∧post x ρ':=by
 obtain⟨v,H',r,ρ',I,rv,E,p⟩:=h
 cases r with
 |un=>exact p.elim
 |d x=>exact⟨v,H',x,ρ',I,rv,E,p⟩
 | own a xs =>
  obtain⟨H2,I2,E2,_⟩:=frzL (.own a xs) I E rfl
  exact⟨v,H2,.lst xs,ρ',I2,rv,E2,p⟩
 | bx a ls =>
  obtain⟨x,ex,p⟩:=t6 p
  obtain⟨H2,I2,E2,_⟩:=frzL (.bx a ls) I E ex
  exact⟨v,H2,x,ρ',I2,rv,E2,p⟩
 |dic a kvs=>exact p.elim
def wFrz(t:W L):W L:=fun ρ post=>t ρ fun r ρ1=>toD r fun x=>post (.d x) ρ1
theorem av{t:W L}(h:PL X e t):PL X e (wFrz t):=fun pins s σ H Pr ρ post I E ht =>
 thn (h pins s σ H Pr ρ _ I E ht) fun u s1 q=>by
  obtain⟨v,H',x,ρ',I',rv,E',p⟩:=EL.frz (post:=fun x ρ=>post (.d x) ρ) q
  exact⟨v,H',.d x,ρ',I',rv,E',p⟩
theorem REnv.head_d{K:PySem.W.Frag}{Pr H:Hp}{v:Option V}{σ:St}{x:D}{ρ:Ev}(E:REnv K Pr H (v::σ) (.d x::ρ)):∃w,v=some w∧Rep K H w x:=by
 have sl:=E.sl
 cases sl with
 |cons q t=>exact q
theorem REnv.tail{K:PySem.W.Frag}{Pr H:Hp}{v:Option V}{σ:St}{l:L}{ρ:Ev}(E:REnv K Pr H (v::σ) (l::ρ)):REnv K Pr H σ ρ:=REnv.drop (τ:=[v]) (lam:=[l]) E rfl
theorem two{pins:List (Addr×Obj)}{s:Shared}{σ:St}{H Pr:Hp}{ρ:Ev}{R:D→D→Ev→Prop}(ha:PL X a ta)(hb:PL X b tb)(I:Inv X pins σ H s)(E:REnv X.K Pr H σ ρ)
  (h:ta ρ fun x ρ1=>toD x fun dx=>tb ρ1 fun y ρ2=>toD y fun dy=>R dx dy ρ2) {α:Type} {Q:α→Shared→Prop} {f:Value→Value→Sem α}
  (hf:∀v u s2 x y H2 dx dy ρ2,Inv X pins σ H2 s2→RelV x v→RelV y u→REnv X.K Pr H2 (some y::some x::σ) (.d dy::.d dx::ρ2)→Rep X.K H2 x dx→Rep X.K H2 y dy→R dx dy ρ2→wpAny (model X.prog X.w) X.A (f v u) Q X.xe s2) :
  wpAny (model X.prog X.w) X.A (eval a X.env) (fun v s₁=>wpAny (model X.prog X.w) X.A (eval b X.env) (fun u s₂=>wpAny (model X.prog X.w) X.A (f v u) Q X.xe s₂) X.xe s₁) X.xe s:=by
 refine thn (ha pins s σ H Pr ρ _ I E h) fun v s1 q=>?_
 obtain⟨x,H1,dx,ρ1,I1,r1,E1,q1⟩:=EL.frz (post:=fun dx ρ1=>tb ρ1 fun y ρ2=>toD y fun dy=>R dx dy ρ2) q
 refine thn (hb pins s1 σ H1 _ ρ1 _ I1 E1.tail.wide q1) fun u s2 q=>?_
 obtain⟨y,H2,dy,ρ2,I2,r2,E2,q2⟩:=EL.frz (post:=fun dy ρ2=>R dx dy ρ2) q
 have E3:REnv X.K Pr H2 (some y::some x::σ) (.d dy::.d dx::ρ2):=REnv.step (τ:=[some x]) (lam:=[.d dx]) (w:=[some y]) (μ:=[.d dy]) E1 rfl E2 rfl
 obtain⟨_,e1,p1⟩:=E3.head_d
 obtain⟨_,e2,p2⟩:=E3.tail.head_d
 cases e1
 cases e2
 exact hf v u s2 x y H2 dx dy ρ2 I2 r1 r2 E3 p2 p1 q2
abbrev Op2:=D→D→(L→Prop)→Prop
def OpD(X:Cx)(f:Value→Value→Sem Value)(op:Op2):Prop :=
 ∀(pins:List (Addr×Obj))(s:Shared)(σ:St)(H Pr:Hp)(ρ:Ev)(x y:V)(v u:Value)(dx dy:D)(post:L→Prop),Inv X pins σ H s→RelV x v→RelV y u→REnv X.K Pr H σ ρ→Rep X.K H x dx→Rep X.K H y dy→op dx dy post →
  wpAny (model X.prog X.w) X.A (f v u) (fun w s'=>∃z H' r,Inv X pins σ H' s'∧RelV z w∧REnv X.K Pr H' (some z::σ) (r::ρ)∧post r) X.xe s
theorem OpD.of{f:Value→Value→Sem Value}{r:R2}{op:Op2}(h:OpR X f r)(q:∀σ H Pr ρ x y dx dy post,REnv X.K Pr H σ ρ→Rep X.K H x dx→Rep X.K H y dy→op dx dy post→r x y H fun z H'=>∃r,REnv X.K Pr H' (some z::σ) (r::ρ)∧post r):OpD X f op :=
 fun pins s σ H Pr ρ x y v u dx dy post I rx ry E px py ho=>thn (h pins s σ H x y v u _ I rx ry (q σ H Pr ρ x y dx dy post E px py ho)) fun w s' ⟨z,H',I',rz,r,E',p⟩=>⟨z,H',r,I',rz,E',p⟩
theorem OpD.or{f:Value→Value→Sem Value}{o1 o2:Op2}(h1:OpD X f o1)(h2:OpD X f o2):OpD X f (fun x y p=>o1 x y p∨o2 x y p) :=
 fun pins s σ H Pr ρ x y v u dx dy post I rx ry E px py ho=>ho.elim (h1 pins s σ H Pr ρ x y v u dx dy post I rx ry E px py) (h2 pins s σ H Pr ρ x y v u dx dy post I rx ry E px py)
theorem OpD.imp{f:Value→Value→Sem Value}{o1 o2:Op2}(h1:OpD X f o1)(h:∀x y p,o2 x y p→o1 x y p):OpD X f o2 :=
 fun pins s σ H Pr ρ x y v u dx dy post I rx ry E px py ho=>h1 pins s σ H Pr ρ x y v u dx dy post I rx ry E px py (h _ _ _ ho)
def wBin(op:Op2)(ta tb:W L):W L:=fun ρ post=>ta ρ fun x ρ1=>toD x fun dx=>tb ρ1 fun y ρ2=>toD y fun dy=>op dx dy fun r=>post r ρ2
theorem aD{op:Operator}{o:Op2}(ho:OpD X (binaryOp op) o)(ha:PL X a ta)(hb:PL X b tb):PL X (.BinOp a op b pos) (wBin o ta tb):=fun pins s σ H Pr ρ post I E h =>
 wpAny_BinOp (two (R:=fun dx dy ρ2=>o dx dy fun r=>post r ρ2) ha hb I E h fun v u s2 x y H2 dx dy ρ2 I2 r1 r2 E2 p1 p2 q =>
  thn (ho pins s2 σ H2 Pr ρ2 x y v u dx dy _ I2 r1 r2 E2.tail.tail p1 p2 q) fun w s3 ⟨z,H3,r,I3,rz,E3,p⟩=>⟨z,H3,r,ρ2,I3,rz,E3,p⟩)
theorem cX{op:CmpOp}{o:Op2}(ho:OpD X (compareOp op) o)(ha:PL X a ta)(hb:PL X b tb)(hm:behindInMarks op b=false):PL X (.Compare a [op] [b] pos) (wBin o ta tb):=fun pins s σ H Pr ρ post I E h =>
 wpAny_Compare1 (two (R:=fun dx dy ρ2=>o dx dy fun r=>post r ρ2) ha hb I E h fun v u s2 x y H2 dx dy ρ2 I2 r1 r2 E2 p1 p2 q =>
  thn (ho pins s2 σ H2 Pr ρ2 x y v u dx dy _ I2 r1 r2 E2.tail.tail p1 p2 q) fun w s3 ⟨z,H3,r,I3,rz,E3,p⟩=>⟨z,H3,r,ρ2,I3,rz,E3,p⟩) hm
def wC(x:D):W L:=fun ρ post=>post (.d x) ρ
theorem ah {i j pos}:PL X (.Constant (.int i) j pos) (wC (.int i)):=PL.of As fun σ H Pr ρ post E h=>⟨_,_,E.cons_d (.int i),h⟩
theorem eG {b j pos}:PL X (.Constant (.bool b) j pos) (wC (.bl b)):=PL.of B2 fun σ H Pr ρ post E h=>⟨_,_,E.cons_d (.bl b),h⟩
theorem bS {j pos}:PL X (.Constant .none j pos) (wC .non):=PL.of Au fun σ H Pr ρ post E h=>⟨_,_,E.cons_d .non,h⟩
theorem eU {x j pos}:PL X (.Constant (.str x) j pos) (wC (.str x)):=PL.of sX fun σ H Pr ρ post E h=>⟨_,_,E.cons_d (.str x),h⟩
def varW(o:Option L)(i:Nat)(ρ:Ev)(post:L→Ev→Prop):Prop:=match o with
 |some (.d x)=>post (.d x) ρ
 |some (.own _ xs)=>post (.d (.lst xs)) (ρ.set i (.d (.lst xs)))
 |some (.bx a ls)=>toDB a ls fun x=>post (.d x) (ρ.set i (.d x))
 |_=>False
def wVar(i:Nat):W L:=fun ρ post=>varW ρ[i]? i ρ post
theorem AU(x:D)(i:Nat)(ρ:Ev)(post:L→Ev→Prop):varW (some (.d x)) i ρ post=post (.d x) ρ:=(rfl)
theorem vZ(a:Addr)(xs:List D)(i:Nat)(ρ:Ev)(post:L→Ev→Prop):varW (some (.own a xs)) i ρ post=post (.d (.lst xs)) (ρ.set i (.d (.lst xs))):=(rfl)
theorem yv(a:Option Addr)(ls:List L)(i:Nat)(ρ:Ev)(post:L→Ev→Prop):varW (some (.bx a ls)) i ρ post=toDB a ls fun x=>post (.d x) (ρ.set i (.d x)):=(rfl)
theorem REnv.slot{K:PySem.W.Frag}{Pr H:Hp}{σ:St}{ρ:Ev}{i:Nat}{l:L}(E:REnv K Pr H σ ρ)(h:ρ[i]?=some l):∃s,σ[i]?=some s∧aN K H s l:=Paired.get2 E.sl h
theorem af(i:Nat){x:Str}{pos:Pos}(hN:X.N[i]?=some x:=by rfl)(hv:Vis X.env.scope x:=by first | exact Or.inl rfl | exact Or.inr (Or.inl rfl) | exact Or.inr (Or.inr rfl)) (hd:(x == ("__debug__" : Str))=false:=by decide)
  (hcd:(x == ("__classdict__" : Str))=false:=by decide):PL X (.Name x pos) (wVar i):=by
 intro pins s σ H Pr ρ post I E h
 unfold wVar varW at h
 cases q:ρ[i]? with
 |none=>rw[q]at h;exact h.elim
 | some l =>
  rw[q]at h
  obtain⟨sv,hs,sl⟩:=E.slot q
  cases l with
  |un=>exact h.elim
  |dic a kvs=>exact h.elim
  | d y =>
   obtain⟨v,rfl,r⟩:=sl
   exact thn (dh hN hv hd hcd pins s σ H (fun w H'=>w=v∧H'=H) I ⟨v,hs,rfl,rfl⟩) fun u s1 ⟨w,H1,I1,r1,e1,e2⟩=>by
    subst e1 e2
    exact⟨w,H1,_,ρ,I1,r1,E.cons_d r,h⟩
  | own a xs =>
   obtain⟨rfl,vs,ha,r⟩:=sl
   refine thn (dh hN hv hd hcd pins s σ H (fun w H'=>w=.ref a∧H'=H) I ⟨.ref a,hs,rfl,rfl⟩) fun u s1 ⟨w,H1,I1,r1,e1,e2⟩=>?_
   subst e1 e2
   obtain⟨o,I2⟩:=I1.freezeL ha
   have E2:=(E.out q).freeze ha o
   have hi:i<ρ.length:=(List.getElem?_eq_some_iff.mp q).1
   have E3:=E2.back (i:=i) (by simp[hi]) hs
   rw[List.set_set]at E3
   obtain⟨_,e,p⟩:=E2.head_d
   cases e
   exact⟨_,_,_,_,I2,r1,E3.cons_d p,h⟩
  | bx a ls =>
   obtain⟨y,ey,h⟩:=t6 h
   have hv':∃b,sv=some (.ref b):=by
    cases a with
    |none=>simp only[aN]at sl;obtain⟨b,_,e,_⟩:=sl;exact⟨b,e⟩
    |some b=>simp only[aN]at sl;exact⟨b,sl.1⟩
   obtain⟨b,rfl⟩:=hv'
   refine thn (dh hN hv hd hcd pins s σ H (fun w H'=>w=.ref b∧H'=H) I ⟨.ref b,hs,rfl,rfl⟩) fun u s1 ⟨w,H1,I1,r1,e1,e2⟩=>?_
   subst e1 e2
   obtain⟨H2,I2,E2,_⟩:=frzL (.bx a ls) I1 (E.outL q hs) ey
   have hi:i<ρ.length:=(List.getElem?_eq_some_iff.mp q).1
   have E3:=E2.back (i:=i) (by simp[hi]) hs
   rw[List.set_set]at E3
   obtain⟨_,e,p⟩:=E2.head_d
   cases e
   exact⟨_,_,_,_,I2,r1,E3.cons_d p,h⟩
def movW(o:Option L)(i:Nat)(ρ:Ev)(post:L→Ev→Prop):Prop:=match o with
 |some (.d x)=>post (.d x) ρ
 |some (.own a xs)=>post (.own a xs) (ρ.set i .un)
 |some (.bx a ls)=>post (.bx a ls) (ρ.set i .un)
 |_=>False
def t8(i:Nat):W L:=fun ρ post=>movW ρ[i]? i ρ post
theorem AV(x:D)(i:Nat)(ρ:Ev)(post:L→Ev→Prop):movW (some (.d x)) i ρ post=post (.d x) ρ:=(rfl)
theorem v5(a:Addr)(xs:List D)(i:Nat)(ρ:Ev)(post:L→Ev→Prop):movW (some (.own a xs)) i ρ post=post (.own a xs) (ρ.set i .un):=(rfl)
theorem yw(a:Option Addr)(ls:List L)(i:Nat)(ρ:Ev)(post:L→Ev→Prop):movW (some (.bx a ls)) i ρ post=post (.bx a ls) (ρ.set i .un):=(rfl)
theorem t9(i:Nat){x:Str}{pos:Pos}(hN:X.N[i]?=some x:=by rfl)(hv:Vis X.env.scope x:=by first | exact Or.inl rfl | exact Or.inr (Or.inl rfl) | exact Or.inr (Or.inr rfl)) (hd:(x == ("__debug__" : Str))=false:=by decide)
  (hcd:(x == ("__classdict__" : Str))=false:=by decide):PL X (.Name x pos) (t8 i):=by
 intro pins s σ H Pr ρ post I E h
 unfold t8 movW at h
 cases q:ρ[i]? with
 |none=>rw[q]at h;exact h.elim
 | some l =>
  rw[q]at h
  obtain⟨sv,hs,sl⟩:=E.slot q
  cases l with
  |un=>exact h.elim
  |dic a kvs=>exact h.elim
  | d y =>
   obtain⟨v,rfl,r⟩:=sl
   exact thn (dh hN hv hd hcd pins s σ H (fun w H'=>w=v∧H'=H) I ⟨v,hs,rfl,rfl⟩) fun u s1 ⟨w,H1,I1,r1,e1,e2⟩=>by
    subst e1 e2
    exact⟨w,H1,_,ρ,I1,r1,E.cons_d r,h⟩
  | own a xs =>
   obtain⟨rfl,vs,ha,r⟩:=sl
   refine thn (dh hN hv hd hcd pins s σ H (fun w H'=>w=.ref a∧H'=H) I ⟨.ref a,hs,rfl,rfl⟩) fun u s1 ⟨w,H1,I1,r1,e1,e2⟩=>?_
   subst e1 e2
   exact⟨_,_,_,_,I1,r1,E.out q,h⟩
  | bx a ls =>
   have hv':∃b,sv=some (.ref b):=by
    cases a with
    |none=>simp only[aN]at sl;obtain⟨b,_,e,_⟩:=sl;exact⟨b,e⟩
    |some b=>simp only[aN]at sl;exact⟨b,sl.1⟩
   obtain⟨b,rfl⟩:=hv'
   refine thn (dh hN hv hd hcd pins s σ H (fun w H'=>w=.ref b∧H'=H) I ⟨.ref b,hs,rfl,rfl⟩) fun u s1 ⟨w,H1,I1,r1,e1,e2⟩=>?_
   subst e1 e2
   exact⟨_,_,_,_,I1,r1,E.outL q hs,h⟩
theorem yx{x:Str}{v:V}{u:Value}{y:D}{pos:Pos}(hg:Gl X x)(hm:X.mg x=some u)(r:RelV v u)(hy:∀ H,Rep X.K H v y) (hd:(x == ("__debug__" : Str))=false:=by decide):PL X (.Name x pos) (wC y) :=
 PL.of (oS hg hm r hd) fun σ H Pr ρ post E h=>⟨_,_,E.cons_d (hy H),h⟩
def isBl:L→(Bool→Prop)→Prop
 |.d (.bl b),k=>k b
 |_,_=>False
def aB(t:W L):W Bool:=fun ρ post=>t ρ fun r ρ1=>isBl r fun b=>post b ρ1
theorem kN{r:L}{k:Bool→Prop}(h:isBl r k):∃b,r=.d (.bl b)∧k b:=by
 cases r with
 | d x=>cases x with
  |bl b=>exact⟨b,rfl,h⟩
  |_=>exact h.elim
 |_=>exact h.elim
theorem aW{t:W L}(h:PL X e t)(he:∀whole,isTrue e X.env whole=(do let v ← whole;standAt e.pos;holding [v] (truthy v)):=by intro _;rfl):PB X e (aB t):=by
 intro pins s σ H Pr ρ post I E ht
 rw[he]
 refine wpAny_bind (thn (h pins s σ H Pr ρ _ I E ht) fun u s1 ⟨v,H1,r,ρ1,I1,rv,E1,p⟩=>wpAny_bind (wpAny_standAt (wpAny_holding ?_)))
 obtain⟨b,rfl,p⟩:=kN p
 obtain⟨_,e1,p1⟩:=E1.head_d
 cases e1
 cases p1
 cases rv
 exact wpAny_truthy_bool ⟨H1,ρ1,I1,E1.tail,p⟩
end
section
variable{X:Cx}{e a b c:Expr}{rest:List Expr}{pos:Pos}{ta tb:W L}{tA tB:W Bool}
def PBw(X:Cx)(e:Expr)(t:W Bool):Prop :=
 ∀(whole:Sem Value)(pins:List (Addr×Obj))(s:Shared)(σ:St)(H Pr:Hp)(ρ:Ev)(post:Bool→Ev→Prop),Inv X pins σ H s→REnv X.K Pr H σ ρ→t ρ post→wpAny (model X.prog X.w) X.A (isTrue e X.env whole) (EB X pins σ Pr post) X.xe s
theorem PBw.pb{t:W Bool}(h:PBw X e t):PB X e t:=h _
def wAnd(t u:W Bool):W Bool:=fun ρ post=>t ρ fun c ρ1=>if c=true then u ρ1 post else post false ρ1
def wOr(t u:W Bool):W Bool:=fun ρ post=>t ρ fun c ρ1=>if c=true then post true ρ1 else u ρ1 post
def wNot(t:W Bool):W Bool:=fun ρ post=>t ρ fun c ρ1=>post (!c) ρ1
theorem iH(ha:PB X a tA):PBw X (.BoolOp .And [a] pos) tA:=by
 intro wh pins s σ H Pr ρ post I E h
 refine isTrue_and (thn (ha pins s σ H Pr ρ post I E h) fun c s1 e=>?_)
 cases c with
 |true=>exact isTrue_and_nil e
 |false=>exact e
theorem ba(ha:PB X a tA):PBw X (.BoolOp .Or [a] pos) tA:=by
 intro wh pins s σ H Pr ρ post I E h
 refine isTrue_or (thn (ha pins s σ H Pr ρ post I E h) fun c s1 e=>?_)
 cases c with
 |false=>exact isTrue_or_nil e
 |true=>exact e
theorem kO(ha:PB X a tA)(hb:PBw X (.BoolOp .And (b::rest) pos) tB):PBw X (.BoolOp .And (a::b::rest) pos) (wAnd tA tB):=by
 intro wh pins s σ H Pr ρ post I E h
 refine isTrue_and (thn (ha pins s σ H Pr ρ _ I E h) fun c s1 ⟨H1,ρ1,I1,E1,q1⟩=>?_)
 cases c with
 |true=>exact hb wh pins s1 σ H1 Pr ρ1 post I1 E1 q1
 |false=>exact⟨H1,ρ1,I1,E1,q1⟩
theorem bb(ha:PB X a tA)(hb:PBw X (.BoolOp .Or (b::rest) pos) tB):PBw X (.BoolOp .Or (a::b::rest) pos) (wOr tA tB):=by
 intro wh pins s σ H Pr ρ post I E h
 refine isTrue_or (thn (ha pins s σ H Pr ρ _ I E h) fun c s1 ⟨H1,ρ1,I1,E1,q1⟩=>?_)
 cases c with
 |true=>exact⟨H1,ρ1,I1,E1,q1⟩
 |false=>exact hb wh pins s1 σ H1 Pr ρ1 post I1 E1 q1
theorem aV(ha:PB X a tA):PB X (.UnaryOp .Not a pos) (wNot tA):=by
 intro pins s σ H Pr ρ post I E h
 exact isTrue_not (ha pins s σ H Pr ρ (fun c ρ1=>post (!c) ρ1) I E h)
theorem pbc{op:CmpOp}{o:Op2}(ho:OpD X (compareOp op) o)(ha:PL X a ta)(hb:PL X b tb)(hm:behindInMarks op b=false):PB X (.Compare a [op] [b] pos) (aB (wBin o ta tb)):=by
 intro pins s σ H Pr ρ post I E h
 refine wpAny_isTrue_Compare1 (two (R:=fun dx dy ρ2=>o dx dy fun r=>isBl r fun b=>post b ρ2) ha hb I E h fun v u s2 x y H2 dx dy ρ2 I2 r1 r2 E2 p1 p2 q=>?_) hm
 refine thn (ho pins s2 σ H2 Pr ρ2 x y v u dx dy _ I2 r1 r2 E2.tail.tail p1 p2 q) fun w s3 ⟨z,H3,r,I3,rz,E3,p⟩=>?_
 obtain⟨b,rfl,p⟩:=kN p
 obtain⟨_,e1,p1⟩:=E3.head_d
 cases e1
 cases p1
 cases rz
 exact wpAny_truthy_bool ⟨H3,ρ2,I3,E3.tail,p⟩
def iI(ta tb:W L):W L:=fun ρ post=>ta ρ fun r ρ1=>isBl r fun c=>if c=true then tb ρ1 post else post (.d (.bl false)) ρ1
def wOrV(ta tb:W L):W L:=fun ρ post=>ta ρ fun r ρ1=>isBl r fun c=>if c=true then post (.d (.bl true)) ρ1 else tb ρ1 post
def v7(t:W Bool):W L:=fun ρ post=>t ρ fun c ρ1=>post (.d (.bl (!c))) ρ1
theorem f9 {op} {t:W L} (h:PL X a t):PL X (.BoolOp op [a] pos) t:=fun pins s σ H Pr ρ post I E hw=>BoolOp_one (h pins s σ H Pr ρ post I E hw)
theorem EL.bl{pins:List (Addr×Obj)}{σ:St}{Pr:Hp}{post:Bool→Ev→Prop}{u:Value}{s':Shared}(h:EL X pins σ Pr (fun r ρ=>isBl r fun b=>post b ρ) u s') :
  ∃H' b ρ',u=.bool b∧Inv X pins σ H' s'∧REnv X.K Pr H' σ ρ'∧post b ρ':=by
 obtain⟨v,H',r,ρ',I,rv,E,p⟩:=h
 obtain⟨b,rfl,p⟩:=kN p
 obtain⟨_,e1,p1⟩:=E.head_d
 cases e1
 cases p1
 cases rv
 exact⟨H',b,ρ',rfl,I,E.tail,p⟩
theorem fP(ha:PL X a ta)(hb:PL X (.BoolOp .And (b::rest) pos) tb):PL X (.BoolOp .And (a::b::rest) pos) (iI ta tb):=by
 intro pins s σ H Pr ρ post I E h
 refine BoolOp_and (thn (ha pins s σ H Pr ρ _ I E h) fun v s1 q=>?_)
 obtain⟨H1,c,ρ1,rfl,I1,E1,q1⟩:=EL.bl (post:=fun c ρ1=>if c=true then tb ρ1 post else post (.d (.bl false)) ρ1) q
 refine wpAny_truthy_bool ?_
 cases c with
 |true=>exact hb pins s1 σ H1 Pr ρ1 post I1 E1 q1
 |false=>exact⟨.bl false,H1,_,ρ1,I1,rfl,E1.cons_d (.bl false),q1⟩
theorem AW(ha:PL X a ta)(hb:PL X (.BoolOp .Or (b::rest) pos) tb):PL X (.BoolOp .Or (a::b::rest) pos) (wOrV ta tb):=by
 intro pins s σ H Pr ρ post I E h
 refine BoolOp_or (thn (ha pins s σ H Pr ρ _ I E h) fun v s1 q=>?_)
 obtain⟨H1,c,ρ1,rfl,I1,E1,q1⟩:=EL.bl (post:=fun c ρ1=>if c=true then post (.d (.bl true)) ρ1 else tb ρ1 post) q
 refine wpAny_truthy_bool ?_
 cases c with
 |false=>exact hb pins s1 σ H1 Pr ρ1 post I1 E1 q1
 |true=>exact⟨.bl true,H1,_,ρ1,I1,rfl,E1.cons_d (.bl true),q1⟩
theorem xG(ha:PL X a ta):PL X (.UnaryOp .Not a pos) (v7 (aB ta)):=by
 intro pins s σ H Pr ρ post I E h
 refine UnaryOp_ (thn (ha pins s σ H Pr ρ _ I E h) fun v s1 q=>?_)
 obtain⟨H1,c,ρ1,rfl,I1,E1,q1⟩:=EL.bl (post:=fun c ρ1=>post (.d (.bl (!c))) ρ1) q
 exact not_of (wpAny_truthy_bool ⟨.bl (!c),H1,_,ρ1,I1,rfl,E1.cons_d (.bl _),q1⟩)
def wIfE(t:W Bool)(ta tb:W L):W L:=fun ρ post=>t ρ fun c ρ1=>if c=true then ta ρ1 post else tb ρ1 post
theorem AX(hc:PB X c tA)(ha:PL X a ta)(hb:PL X b tb):PL X (.IfExp c a b pos) (wIfE tA ta tb):=by
 intro pins s σ H Pr ρ post I E h
 refine wpAny_IfExp (thn (hc pins s σ H Pr ρ _ I E h) fun d s1 ⟨H1,ρ1,I1,E1,q1⟩=>?_)
 cases d with
 |true=>exact ha pins s1 σ H1 Pr ρ1 post I1 E1 q1
 |false=>exact hb pins s1 σ H1 Pr ρ1 post I1 E1 q1
def wUn(op:D→(L→Prop)→Prop)(t:W L):W L:=fun ρ post=>t ρ fun x ρ1=>toD x fun dx=>op dx fun r=>post r ρ1
def ua:D→(L→Prop)→Prop
 |.int i,k=>k (.d (.int (-i)))
 |_,_=>False
theorem xH(ha:PL X a ta):PL X (.UnaryOp .USub a pos) (wUn ua ta):=by
 intro pins s σ H Pr ρ post I E h
 refine UnaryOp_ (thn (ha pins s σ H Pr ρ _ I E h) fun v s1 q=>?_)
 obtain⟨x,H1,dx,ρ1,I1,r1,E1,q1⟩:=EL.frz (post:=fun dx ρ1=>ua dx fun r=>post r ρ1) q
 obtain⟨_,e1,p1⟩:=E1.head_d
 cases e1
 cases p1 with
 | int i =>
  exact thn (AD pins s1 σ H1 _ v (fun w H'=>w=.int (-i)∧H'=H1) I1 r1 ⟨i,rfl,rfl,rfl⟩) fun u s2 ⟨w,H2,I2,r2,e1,e2⟩=>by
   subst e1 e2
   exact⟨_,_,_,ρ1,I2,r2,E1.tail.cons_d (.int _),q1⟩
 |_=>exact q1.elim
variable{st:Stmt}{sts:List Stmt}{t u:W Fl}
def aX:W Fl:=fun ρ post=>post .nx ρ
def wSeq(t u:W Fl):W Fl:=fun ρ post=>t ρ fun f ρ1=>match f with
 |.nx=>u ρ1 post
 |f=>post f ρ1
theorem aE:PMs X [] aX:=fun _ _ σ H Pr ρ post I E h=>wpAny_execs_nil ⟨σ,H,ρ,I,E,h⟩
theorem ai(h1:PM X st t)(h2:PMs X sts u):PMs X (st::sts) (wSeq t u):=by
 intro pins s σ H Pr ρ post I E h
 refine wpAny_execs_cons (thn (h1 pins s σ H Pr ρ _ I E h) fun f s1 q=>?_)
 cases f with
 | next =>
  obtain⟨σ',H',ρ',I',E',q⟩:=q
  exact h2 pins s1 σ' H' Pr ρ' post I' E' q
 |ret v=>exact q
 |brk=>exact q
 |cont=>exact q
theorem ak(h1:PM X st t):PMs X [st] t:=by
 intro pins s σ H Pr ρ post I E h
 refine wpAny_execs_cons (thn (h1 pins s σ H Pr ρ _ I E h) fun f s1 q=>?_)
 cases f with
 |next=>exact wpAny_execs_nil q
 |ret v=>exact q
 |brk=>exact q
 |cont=>exact q
def nL(t:W L):W Fl:=fun ρ post=>t ρ fun _ ρ1=>post .nx ρ1
theorem mJ{te:W L}(he:PL X e te)(hs:swapsWith e none pos.line X.env=pure false:=by rfl):PM X (.Expr e pos) (nL te):=by
 intro pins s σ H Pr ρ post I E h
 exact wpAny_Expr_any (thn (he pins s σ H Pr ρ _ I E h) fun v s1 ⟨x,H1,r,ρ1,I1,r1,E1,q1⟩=>⟨σ,H1,ρ1,I1,E1.tail,q1⟩) I.quiet hs
def wRet(t:W L):W Fl:=fun ρ post=>t ρ fun r ρ1=>post (.rt r) ρ1
theorem aJ{te:W L}(he:PL X e te):PM X (.Return (some e) pos) (wRet te):=by
 intro pins s σ H Pr ρ post I E h
 exact wpAny_Return_some (thn (he pins s σ H Pr ρ _ I E h) fun v s1 ⟨x,H1,r,ρ1,I1,r1,E1,q1⟩=>⟨x,σ,H1,r,ρ1,σ,I1,r1,E1,q1⟩)
def wIf(c:W Bool)(t u:W Fl):W Fl:=fun ρ post=>c ρ fun b ρ1=>if b=true then t ρ1 post else u ρ1 post
theorem bh{sa sb:List Stmt}(hc:PB X c tA)(ha:PMs X sa t)(hb:PMs X sb u):PM X (.If c sa sb pos) (wIf tA t u):=by
 intro pins s σ H Pr ρ post I E h
 refine wpAny_If (thn (hc pins s σ H Pr ρ _ I E h) fun d s1 ⟨H1,ρ1,I1,E1,q1⟩=>?_)
 cases d with
 |true=>exact ha pins s1 σ H1 Pr ρ1 post I1 E1 q1
 |false=>exact hb pins s1 σ H1 Pr ρ1 post I1 E1 q1
theorem REnv.forget{K:PySem.W.Frag}{Pr H:Hp}{σ:St}{ρ:Ev}(E:REnv K Pr H σ ρ)(i:Nat)(v:Option V):REnv K Pr H (σ.set i v) (ρ.set i .un):=by
 have hsub:(owns (ρ.set i .un)).Sublist (owns ρ):=by
  have:∀(ρ:Ev)(i:Nat),(owns (ρ.set i .un)).Sublist (owns ρ):=by
   intro ρ
   induction ρ with
   |nil=>intro i;exact List.Sublist.refl _
   | cons l ρ ih =>
    intro i
    cases i with
    | zero =>
     show(owns ρ).Sublist (owns (l::ρ))
     rw[ay];exact List.sublist_append_right _ _
    | succ i =>
     show(owns (l::ρ.set i .un)).Sublist (owns (l::ρ))
     rw[ay,ay]
     exact(List.Sublist.refl _).append (ih i)
  exact this ρ i
 exact⟨E.sub,E.nd.sublist hsub,fun a h=>E.off a (hsub.subset h),Paired.set2 True.intro i E.sl⟩
theorem REnv.store{K:PySem.W.Frag}{Pr H:Hp}{σ:St}{ρ:Ev}{v:Option V}{l:L}(E:REnv K Pr H (v::σ) (l::ρ)){i:Nat}(hi:i<σ.length):REnv K Pr H (σ.set i v) (ρ.set i l):=by
 have E1:=E.forget (i+1) v
 have E2:REnv K Pr H (v::σ.set i v) (l::ρ.set i .un):=E1
 have hl:=E.tail.len
 have E3:=E2.back (i:=i) (by rw[List.getElem?_set_self (by omega)]) (by rw[List.getElem?_set_self hi])
 rw[List.set_set]at E3
 exact E3
def wSet(i:Nat)(t:W L):W Fl:=fun ρ post=>t ρ fun r ρ1=>post .nx (ρ1.set i r)
theorem aM{i:Nat}{x:Str}{te:W L}{pos':Pos}(hN:X.N.Nodup)(hi:X.N[i]?=some x)(hx:Loc X.env.scope x)(he:PL X e te)(hs:swapsWith e (some (.Name x pos')) pos.line X.env=pure false:=by rfl)(hf:X.fn x=true∨X.env.scope.names.lookup x=some .local:=by first|exact .inl rfl|exact .inr rfl|assumption) :
  PM X (.Assign [.Name x pos'] e pos) (wSet i te):=by
 intro pins s σ H Pr ρ post I E h
 refine wpAny_Assign_Name (thn (he pins s σ H Pr ρ _ I E h) fun v s1 ⟨y,H1,r,ρ1,I1,r1,E1,q1⟩=>?_) hs
 exact ft I1 hN hi hx r1 (fun s2 I2=>⟨_,H1,_,I2,E1.store (by rw[I1.len];exact(List.getElem?_eq_some_iff.mp hi).1),q1⟩) hf
end
theorem iJ{a b:Ev}(h:a.Perm b):(owns a).Perm (owns b):=by
 induction h with
 |nil=>exact .refl _
 |cons x _ ih=>rw[ay,ay];exact ih.append_left _
 | swap x y l =>
  rw[ay,ay,ay,ay,← List.append_assoc,← List.append_assoc]
  exact List.Perm.append_right _ List.perm_append_comm
 |trans _ _ h1 h2=>exact h1.trans h2
theorem v8{a b:Ev}(h:a.Sublist b):(owns a).Sublist (owns b):=by
 induction h with
 |slnil=>exact .refl _
 |cons x _ ih=>rw[ay];exact ih.trans (List.sublist_append_right _ _)
 |cons_cons x _ ih=>rw[ay,ay];exact(List.Sublist.refl _).append ih
def tL(K:PySem.W.Frag)(t:W L):TE:=fun σ H Q=>∃Pr ρ post,REnv K Pr H σ ρ∧t ρ post∧∀v H' r ρ',REnv K Pr H' (some v::σ) (r::ρ')→post r ρ'→Q v H'
def tW(K:PySem.W.Frag)(t:W Fl):TS:=fun D σ H=>∃Pr ρ post,REnv K Pr H σ ρ∧t ρ post∧(∀σ' H' ρ',REnv K Pr H' σ' ρ'→post .nx ρ'→D.nx σ' H')∧(∀σ' H' ρ',REnv K Pr H' σ' ρ'→post .bk ρ'→D.bk σ' H')∧(∀σ' H' ρ',REnv K Pr H' σ' ρ'→post .ct ρ'→D.ct σ' H') ∧
 ∀v τ H' r ρ',REnv K Pr H' (some v::τ) (r::ρ')→post (.rt r) ρ'→D.rt v H'
def tWb(K:PySem.W.Frag)(t:W Bool):TT:=fun σ H Q=>∃Pr ρ post,REnv K Pr H σ ρ∧t ρ post∧∀b H' ρ',REnv K Pr H' σ ρ'→post b ρ'→Q b H'
section
variable{X:Cx}{e a b:Expr}{es:List Expr}{pos:Pos}{st:Stmt}{sts:List Stmt}{t u:W Fl}
theorem PL.pe{t:W L}(h:PL X e t):PE X e (tL X.K t):=fun pins s σ H Q I ⟨Pr,ρ,post,E,ht,q⟩ =>
 thn (h pins s σ H Pr ρ post I E ht) fun u s1 ⟨v,H1,r,ρ1,I1,rv,E1,p⟩=>⟨v,H1,I1,rv,q v H1 r ρ1 E1 p⟩
theorem PB.pt{t:W Bool}(h:PB X e t):PT X e (tWb X.K t):=fun pins s σ H Q I ⟨Pr,ρ,post,E,ht,q⟩ =>
 thn (h pins s σ H Pr ρ post I E ht) fun b s1 ⟨H1,ρ1,I1,E1,p⟩=>⟨H1,I1,q b H1 ρ1 E1 p⟩
theorem PMs.pss(h:PMs X sts t):PSs X sts (tW X.K t):=fun pins s σ H D I ⟨Pr,ρ,post,E,ht,q1,q2,q3,q4⟩ =>
 thn (h pins s σ H Pr ρ post I E ht) fun f s1 q=>by
  cases f with
  |next=>obtain⟨σ',H',ρ',I',E',p⟩:=q;exact⟨σ',H',I',q1 σ' H' ρ' E' p⟩
  |brk=>obtain⟨σ',H',ρ',I',E',p⟩:=q;exact⟨σ',H',I',q2 σ' H' ρ' E' p⟩
  |cont=>obtain⟨σ',H',ρ',I',E',p⟩:=q;exact⟨σ',H',I',q3 σ' H' ρ' E' p⟩
  |ret u=>obtain⟨v,σ',H',r,ρ',τ,I',rv,E',p⟩:=q;exact⟨v,σ',H',I',rv,q4 v τ H' r ρ' E' p⟩
def AY(K:PySem.W.Frag)(Pr:Hp)(post:Fl→Ev→Prop):Ends where
 nx:=fun σ' H'=>∃ρ',REnv K Pr H' σ' ρ'∧post .nx ρ'
 rt:=fun v H'=>∃τ r ρ',REnv K Pr H' (some v::τ) (r::ρ')∧post (.rt r) ρ'
 bk:=fun σ' H'=>∃ρ',REnv K Pr H' σ' ρ'∧post .bk ρ'
 ct:=fun σ' H'=>∃ρ',REnv K Pr H' σ' ρ'∧post .ct ρ'
theorem PM.of{ts:TS}(h:PS X st ts)(q:∀σ H Pr ρ post,σ.length=X.N.length→REnv X.K Pr H σ ρ→t ρ post→ts (AY X.K Pr post) σ H):PM X st t:=fun pins s σ H Pr ρ post I E ht =>
 thn (h pins s σ H _ I (q σ H Pr ρ post I.len E ht)) fun f s1 q=>by
  cases f with
  |next=>obtain⟨σ',H',I',ρ',E',p⟩:=q;exact⟨σ',H',ρ',I',E',p⟩
  |brk=>obtain⟨σ',H',I',ρ',E',p⟩:=q;exact⟨σ',H',ρ',I',E',p⟩
  |cont=>obtain⟨σ',H',I',ρ',E',p⟩:=q;exact⟨σ',H',ρ',I',E',p⟩
  |ret u=>obtain⟨v,σ',H',I',rv,τ,r,ρ',E',p⟩:=q;exact⟨v,σ',H',r,ρ',τ,I',rv,E',p⟩
theorem REnv.narrow{K:PySem.W.Frag}{Pr H1 H:Hp}{σ1 σ:St}{ρ1 ρ:Ev}(E1:REnv K Pr H1 σ1 ρ1)(E:REnv K (aZ H1 ρ1) H σ ρ):REnv K Pr H σ ρ:=by
 refine⟨fun b o e=>E.sub b o ?_,E.nd,fun a ha=>?_,E.sl⟩
 ·
  unfold aZ
  rw[if_neg,E1.sub b o e]
  intro hm
  have z:=E1.off b hm
  rw[e]at z
  cases z
 ·
  have z:=E.off a ha
  unfold aZ at z
  by_cases hm:a∈owns ρ1
  ·
   exact E1.off a hm
  ·
   rw[if_neg hm]at z
   cases q:Pr a with
   |none=>rfl
   |some o=>rw[E1.sub a o q]at z;cases z
def aNil:W (List L):=fun ρ post=>post [] ρ
def aVal(t:W L)(r:W (List L)):W (List L):=fun ρ post=>t ρ fun x ρ1=>r ρ1 fun xs ρ2=>post (x::xs) ρ2
def aVar(i:Nat)(r:W (List L)):W (List L):=fun ρ post=>match ρ[i]? with
 |some (.own _ _)=>r ρ fun xs ρ2=>post (.un::xs) ρ2
 |_=>False
theorem ag:PAL X [] [] aNil:=fun _ pins s σ H Pr ρ post I E h=>Calls.spliced_nil ⟨[],H,[],ρ,I,.nil,rfl,rfl,E,fun k i e=>by simp at e,h⟩
theorem ae{bs:List (Option Nat)}{r:W (List L)}{t:W L}(ha:PL X e t)(hr:PAL X es bs r)(hs:starEach (e::es) X.env=(false,eval e X.env)::starEach es X.env:=by rfl):PAL X (e::es) (none::bs) (aVal t r):=by
 intro pos pins s σ H Pr ρ post I E h
 rw[hs]
 show wpAny _ _ (spliced ((false,eval e X.env)::backTo pos (starEach es X.env))) _ _ s
 refine Calls.spliced_cons (thn (ha pins s σ H Pr ρ _ I E h) fun u s1 ⟨x,H1,l,ρ1,I1,r1,E1,q1⟩=>?_)
 refine thn (hr pos pins s1 σ H1 _ ρ1 _ I1 E1.tail.wide q1) fun us s2 ⟨vs,H2,ls,ρ2,I2,r2,hl,hb,E2,hv,q2⟩=>?_
 have E3:REnv X.K Pr H2 (vs.map some++(some x::σ)) (ls++(l::ρ2)):=REnv.step (τ:=[some x]) (lam:=[l]) E1 rfl E2 (by simp[hl])
 have E4:REnv X.K Pr H2 (some x::(vs.map some++σ)) (l::(ls++ρ2)):=by
  have pm:(owns (ls++(l::ρ2))).Perm (owns (l::(ls++ρ2))):=iJ List.perm_middle
  have s1:=Paired.unapp (by simp[hl]) E3.sl
  obtain⟨s1,s2⟩:=s1
  cases s2 with
  |cons q t=>exact⟨E3.sub,pm.nodup_iff.mp E3.nd,fun a h=>E3.off a (pm.mem_iff.mpr h),.cons q (Paired.app s1 t)⟩
 refine⟨x::vs,H2,l::ls,ρ2,I2,.cons r1 r2,by simp[hl],by simp[hb],E4,fun k i e=>?_,q2⟩
 cases k with
 |zero=>simp at e
 |succ k=>simpa using hv k i (by simpa using e)
theorem aY(i:Nat){x:Str}{p:Pos}{bs:List (Option Nat)}{r:W (List L)}(hr:PAL X es bs r)(hN:X.N[i]?=some x:=by rfl)(hv:Vis X.env.scope x:=by first | exact Or.inl rfl | exact Or.inr (Or.inl rfl) | exact Or.inr (Or.inr rfl)) (hd:(x == ("__debug__" : Str))=false:=by decide)
  (hcd:(x == ("__classdict__" : Str))=false:=by decide) (hs:starEach (.Name x p::es) X.env=(false,eval (.Name x p) X.env)::starEach es X.env:=by rfl):PAL X (.Name x p::es) (some i::bs) (aVar i r):=by
 intro pos pins s σ H Pr ρ post I E h
 unfold aVar at h
 cases q:ρ[i]? with
 |none=>rw[q]at h;exact h.elim
 | some l =>
  rw[q]at h
  cases l with
  |un=>exact h.elim
  |d y=>exact h.elim
  |bx _ _=>exact h.elim
  |dic _ _=>exact h.elim
  | own a xs =>
   obtain⟨sv,hsl,sl⟩:=E.slot q
   obtain⟨rfl,_⟩:=sl
   rw[hs]
   show wpAny _ _ (spliced ((false,eval (.Name x p) X.env)::backTo pos (starEach es X.env))) _ _ s
   refine Calls.spliced_cons (thn (dh hN hv hd hcd pins s σ H (fun w H'=>w=.ref a∧H'=H) I ⟨.ref a,hsl,rfl,rfl⟩) fun u s1 ⟨w,H1,I1,r1,e1,e2⟩=>?_)
   subst e1 e2
   refine thn (hr pos pins s1 σ H1 Pr ρ _ I1 E h) fun us s2 ⟨vs,H2,ls,ρ2,I2,r2,hl,hb,E2,hv,q2⟩=>?_
   refine⟨.ref a::vs,H2,.un::ls,ρ2,I2,.cons r1 r2,by simp[hl],by simp[hb],E2.cons_un,fun k j e=>?_,q2⟩
   cases k with
   |zero=>simp at e;subst e;exact⟨rfl,.ref a,rfl,hsl⟩
   |succ k=>simpa using hv k j (by simpa using e)
def toDs:List L→(List D→Prop)→Prop
 |[],k=>k []
 |.d x::r,k=>toDs r fun xs=>k (x::xs)
 |_::_,_=>False
theorem gb:∀{ls:List L}{k:List D→Prop},toDs ls k→∃xs,ls=xs.map .d∧k xs
 |[],_,h=>⟨[],rfl,h⟩
 | .d x::r,k,h=>by
  obtain⟨xs,e,q⟩:=gb (ls:=r) h
  exact⟨x::xs,by rw[e];rfl,q⟩
 |.un::_,_,h=>h.elim
 |.own _ _::_,_,h=>h.elim
theorem gh{K:PySem.W.Frag}{Pr H:Hp}{σ:St}{ρ:Ev}:∀{vs:List V}{xs:List D},vs.length=xs.length→REnv K Pr H (vs.map some++σ) (xs.map .d++ρ)→Reps K H vs xs
 |[],[],_,_=>.nil
 | v::vs,x::xs,hl,E=>by
  obtain⟨w,e,r⟩:=REnv.head_d (v:=some v) (x:=x) E
  cases e
  exact .cons r (gh (by simpa using hl) (REnv.tail (v:=some v) (l:=.d x) E))
 |[],_::_,hl,_=>by simp at hl
 |_::_,[],hl,_=>by simp at hl
def wTup(t:W (List L)):W L:=fun ρ post=>t ρ fun ls ρ1=>toDs ls fun xs=>xs.length≤sizeLine∧post (.d (.tup xs)) ρ1
def wLst(t:W (List L)):W L:=fun ρ post=>t ρ fun ls ρ1=>toDs ls fun xs=>xs.length≤sizeLine∧∀a,post (.own a xs) ρ1
theorem aU {x1} {bs:List (Option Nat)} {t:W (List L)} (h:PAL X es bs t):PL X (.Tuple es x1 pos) (wTup t):=by
 intro pins s σ H Pr ρ post I E hq
 refine wpAny_Tuple_spliced (thn (h pos pins s σ H Pr ρ _ I E hq) fun us s1 ⟨vs,H1,ls,ρ1,I1,r,hl,hb,E1,hv,q⟩=>?_)
 obtain⟨xs,rfl,z,q⟩:=gb q
 have hlen:vs.length=xs.length:=by simpa using hl
 refine⟨by rw[← r.length,hlen];exact z,?_⟩
 have hf:H1 s1.heap.objs.size=none:=I1.hok.fresh (Nat.le_refl _)
 refine⟨.ref s1.heap.objs.size,upd H1 s1.heap.objs.size (.tup vs),_,ρ1,I1.laid (t':=s1.toks) (fun b u e=>Heap.get?_push_of_some _ e) (Nat.le_refl _) ?_,rfl,(E1.drop (by simp[hlen])).cons_tup hf (gh hlen E1),q⟩
 exact⟨by rw[hlen];exact z,us,r,⟨_,Heap.get?_push_size _ rfl,rfl,_,rfl⟩⟩
theorem aS{bs:List (Option Nat)}{t:W (List L)}(h:PAL X es bs t):PL X (.List es pos) (wLst t):=by
 intro pins s σ H Pr ρ post I E hq
 refine wpAny_List_spliced (thn (h pos pins s σ H Pr ρ _ I E hq) fun us s1 ⟨vs,H1,ls,ρ1,I1,r,hl,hb,E1,hv,q⟩=>?_)
 obtain⟨xs,rfl,z,q⟩:=gb q
 have hlen:vs.length=xs.length:=by simpa using hl
 refine⟨by rw[← r.length,hlen];exact z,?_⟩
 have hf:H1 s1.heap.objs.size=none:=I1.hok.fresh (Nat.le_refl _)
 refine⟨.ref s1.heap.objs.size,upd H1 s1.heap.objs.size (.lst vs),_,ρ1,I1.laid (t':=s1.toks) (fun b u e=>Heap.get?_push_of_some _ e) (Nat.le_refl _) ?_,rfl,(E1.drop (by simp[hlen])).cons_own hf (gh hlen E1),q _⟩
 exact⟨by rw[hlen];exact z,us,0,r,Heap.get?_push_size _ rfl⟩
abbrev FS:=List L→(L→List L→Prop)→Prop
def spF(K:PySem.W.Frag)(n:Nat)(fs:FS):Sp:=fun vs H Q _=>vs.length=n∧∃Pr ls post,REnv K Pr H (vs.map some) ls∧fs ls post∧∀v H' r ls',REnv K Pr H' (some v::vs.map some) (r::ls')→post r ls'→Q v H'
theorem REnv.swap{K:PySem.W.Frag}{Pr H:Hp}{σ τ:St}{ρ lam:Ev}(hl:τ.length=lam.length)(E:REnv K Pr H (τ++σ) (lam++ρ)):REnv K Pr H (σ++τ) (ρ++lam):=by
 have pm:(owns (lam++ρ)).Perm (owns (ρ++lam)):=iJ List.perm_append_comm
 obtain⟨s1,s2⟩:=Paired.unapp hl E.sl
 exact⟨E.sub,pm.nodup_iff.mp E.nd,fun a h=>E.off a (pm.mem_iff.mpr h),Paired.app s2 s1⟩
theorem xI{K:PySem.W.Frag}{Pr H H':Hp}{σ τ:St}{ρ ls ls':Ev}{v:Option V}{r:L}(hl:τ.length=ls.length)(E:REnv K Pr H (τ++σ) (ls++ρ))(E':REnv K (aZ H ls) H' (v::τ) (r::ls')):REnv K Pr H' (v::(τ++σ)) (r::(ls'++ρ)):=by
 have hρ:σ.length=ρ.length:=(E.drop hl).len
 have z:=REnv.step (τ:=σ) (σ:=τ) (lam:=ρ) (ρ:=ls) (w:=[v]) (μ:=[r]) (E.swap hl) hρ E' rfl
 have hl':τ.length=ls'.length:=by have:=E'.len;simpa using this
 obtain⟨s1,s2⟩:=Paired.unapp (a:=[v]) (b:=[r]) rfl z.sl
 obtain⟨s2,s3⟩:=Paired.unapp hρ s2
 have pm:(owns ([r]++(ρ++ls'))).Perm (owns (r::(ls'++ρ))):=iJ (List.Perm.cons r (List.perm_append_comm (l₁:=ρ) (l₂:=ls')))
 exact⟨z.sub,pm.nodup_iff.mp z.nd,fun a h=>z.off a (pm.mem_iff.mpr h),Paired.app s1 (Paired.app s3 s2)⟩
def br(fs:FS)(t:W (List L)):W L:=fun ρ post=>t ρ fun ls ρ1=>fs ls fun r _=>post r ρ1
def a8(fs:FS)(k i:Nat)(t:W (List L)):W L:=fun ρ post=>t ρ fun ls ρ1=>match ρ1[i]? with
 |some (.own a xs)=>fs (ls.set k (.own a xs)) fun r ls'=>∃ys,ls'[k]?=some (.own a ys)∧post r (ρ1.set i (.own a ys))
 |_=>False
section
variable{CX:CXT}{k n:Nat}{f:Addr}{fd:FuncData}{ps:List Str}{fs:FS}{E:XK}{x:Str}{p:Pos}{bs:List (Option Nat)}{t:W (List L)}
theorem REnv.drop1{K:PySem.W.Frag}{Pr H:Hp}{σ τ:St}{ρ lam:Ev}{v:Option V}{r:L}(hl:τ.length=lam.length)(E:REnv K Pr H (v::(τ++σ)) (r::(lam++ρ))):REnv K Pr H (v::σ) (r::ρ):=by
 obtain⟨s1,s2⟩:=Paired.unapp (a:=[v]) (b:=[r]) rfl E.sl
 obtain⟨s2,s3⟩:=Paired.unapp hl s2
 have sb:(owns (r::ρ)).Sublist (owns (r::(lam++ρ))):=v8 (List.Sublist.cons_cons r (List.sublist_append_right _ _))
 exact⟨E.sub,E.nd.sublist sb,fun a h=>E.off a (sb.subset h),Paired.app s1 s3⟩
theorem yy(F:FnOk X.prog X.w X.K X.mg X.base CX k f fd ps (spF X.K n fs))(hr:Room k X.A)(hg:Gl X x)(hm:X.mg x=some (.ref f))(hk:PySem.W.keepIn X.K (.ref f)=true)(hb:iE X.K fd ps [])(hx:qo CX X E)
  (ha:PAL X (e::es) bs t) (hn:bs.length=n) (hdb:(x == ("__debug__" : Str))=false:=by decide) (he:starEach (e::es) X.env=(false,eval e X.env)::starEach es X.env:=by rfl) (hpl:(backTo pos (starEach es X.env)).any (·.1)=false:=by rfl) :
  PL X (.Call (.Name x p) (e::es) [] pos) (br fs t):=by
 intro pins s σ H Pr ρ post I E0 h
 refine wpAny_Call_Name_kw (eF I hg hm ?_ hdb)
 refine PySem.W.callWith_K (h₀:=X.base) I.ok.mod.kin hk (thn (ha pos pins s σ H Pr ρ _ I E0 h) fun us s1 ⟨vs,H1,ls,ρ1,I1,r,hl,hbl,E1,hv,q⟩=>⟨I1.kIn,?_⟩) he hpl
 have hl':(vs.map some).length=ls.length:=by simp[hl]
 refine thn (tM (Q:=fun v H'=>∃r ρ',REnv X.K Pr H' (some v::σ) (r::ρ')∧post r ρ') F hr hb .nil hx I1 r ?_) fun u s2 ⟨v,H2,I2,rv,r,ρ',E2,p⟩=>⟨v,H2,r,ρ',I2,rv,E2,p⟩
 rw[List.append_nil]
 refine⟨hbl.trans hn,aZ H1 ls,ls,_,(E1.left hl').wide,q,fun v H' r ls' E2 p=>⟨r,ρ1,?_,p⟩⟩
 have z:=xI hl' E1 E2
 have hl2:(vs.map some).length=ls'.length:=by have:=E2.len;simpa using this
 exact z.drop1 hl2
theorem v9(F:FnOk X.prog X.w X.K X.mg X.base CX k f fd ps (spF X.K n fs))(hr:Room k X.A)(hg:Gl X x)(hm:X.mg x=some (.ref f))(hk:PySem.W.keepIn X.K (.ref f)=true)(hb:iE X.K fd ps [])(hx:qo CX X E)
  (j i:Nat) (ha:PAL X (e::es) bs t) (hj:bs[j]?=some (some i)) (hn:bs.length=n) (hdb:(x == ("__debug__" : Str))=false:=by decide) (he:starEach (e::es) X.env=(false,eval e X.env)::starEach es X.env:=by rfl) (hpl:(backTo pos (starEach es X.env)).any (·.1)=false:=by rfl) :
  PL X (.Call (.Name x p) (e::es) [] pos) (a8 fs j i t):=by
 intro pins s σ H Pr ρ post I E0 h
 refine wpAny_Call_Name_kw (eF I hg hm ?_ hdb)
 refine PySem.W.callWith_K (h₀:=X.base) I.ok.mod.kin hk (thn (ha pos pins s σ H Pr ρ _ I E0 h) fun us s1 ⟨vs,H1,ls,ρ1,I1,r,hl,hbl,E1,hv,q⟩=>⟨I1.kIn,?_⟩) he hpl
 have hl':(vs.map some).length=ls.length:=by simp[hl]
 refine thn (tM (Q:=fun v H'=>∃r ρ',REnv X.K Pr H' (some v::σ) (r::ρ')∧post r ρ') F hr hb .nil hx I1 r ?_) fun u s2 ⟨v,H2,I2,rv,r,ρ',E2,p⟩=>⟨v,H2,r,ρ',I2,rv,E2,p⟩
 rw[List.append_nil]
 dsimp only at q
 cases qi:ρ1[i]? with
 |none=>rw[qi]at q;exact q.elim
 | some l =>
  rw[qi]at q
  cases l with
  |un=>exact q.elim
  |d y=>exact q.elim
  |bx _ _=>exact q.elim
  |dic _ _=>exact q.elim
  | own a xs =>
   obtain⟨hun,w,hw,hσ⟩:=hv j i hj
   obtain⟨sv,hs2,rfl,_⟩:=(E1.drop hl').slot qi
   rw[hσ]at hs2
   cases hs2
   have hjl:j<ls.length:=(List.getElem?_eq_some_iff.mp hun).1
   have hjv:j<vs.length:=by omega
   have hil:i<ρ1.length:=(List.getElem?_eq_some_iff.mp qi).1
   have E2:=E1.out (i:=ls.length+i) (a:=a) (xs:=xs) (by rw[List.getElem?_append_right (by omega)];simpa using qi)
   rw[List.set_append_right _ _ (by omega),Nat.add_sub_cancel_left]at E2
   have E3:=E2.back (i:=j) (by rw[List.getElem?_append_left hjl];exact hun) (by rw[List.getElem?_append_left (by simp;omega)];simp[hw])
   rw[List.set_append_left _ _ hjl]at E3
   have hl3:(vs.map some).length=(ls.set j (.own a xs)).length:=by simp[hl]
   refine⟨hbl.trans hn,aZ H1 (ls.set j (.own a xs)),_,_,(E3.left hl3).wide,q,fun v H' r ls' E4 p=>?_⟩
   obtain⟨ys,hys,p⟩:=p
   refine⟨r,ρ1.set i (.own a ys),?_,p⟩
   have z:=xI hl3 E3 E4
   have hl4:(vs.map some).length=ls'.length:=by have:=E4.len;simpa using this
   have hjl':j<ls'.length:=by simp at hl4;omega
   have z1:=z.out (i:=1+j) (a:=a) (xs:=ys) (by rw[Nat.add_comm];simp only[List.getElem?_cons_succ];rw[List.getElem?_append_left hjl'];exact hys)
   rw[Nat.add_comm 1 j,List.set_cons_succ,List.set_append_left _ _ hjl']at z1
   have z2:=z1.back (i:=(1+ls'.length)+i) (by
    rw[Nat.add_comm 1,Nat.add_right_comm,List.getElem?_cons_succ,List.getElem?_append_right (by simp)]
    simp[hil]) (by
    rw[Nat.add_comm 1,Nat.add_right_comm,List.getElem?_cons_succ,List.getElem?_append_right (by simp at hl4 ⊢;omega)]
    simp at hl4 ⊢
    rw[← hl4,Nat.add_sub_cancel_left]
    exact hσ)
   rw[Nat.add_comm 1,Nat.add_right_comm,List.set_cons_succ,List.set_append_right _ _ (by simp)]at z2
   simp only[List.length_set,Nat.add_sub_cancel_left,List.set_set]at z2
   exact z2.drop1 (by simp at hl4 ⊢;exact hl4)
end
end
def Back(ρ:Ev):List L→List L→Prop:=Paired fun l l'=>match l with
 |.own a _=>(∃ys,l'=.own a ys∧L.own a ys∈ρ)∨l'=.un
 |.bx _ _=>l'=.un
 |.dic _ _=>l'=.un
 |l=>l'=l
def bL(ls:List L)(post:L→List L→Prop):Fl→Ev→Prop:=fun f ρ=>match f with
 |.rt r=>∃ls',Back ρ ls ls'∧post r ls'
 |.nx=>∃ls',Back ρ ls ls'∧post (.d .non) ls'
 |_=>False
theorem Back.owns{ρ:Ev}:∀{ls ls':List L},Back ρ ls ls'→(owns ls').Sublist (owns ls)
 |_,_,.nil=>.refl _
 | l::ls,l'::ls',.cons h t=>by
  have ih:=Back.owns t
  rw[ay,ay]
  cases l with
  | own a xs =>
   rcases h with⟨ys,rfl,_⟩|rfl
   ·
    exact(List.Sublist.refl _).append ih
   ·
    exact ih.trans (List.sublist_append_right _ _)
  |un=>have e:l'=.un:=h;subst e;exact(List.Sublist.refl _).append ih
  |d x=>have e:l'=.d x:=h;subst e;exact(List.Sublist.refl _).append ih
  |bx k ms=>have e:l'=.un:=h;subst e;exact ih.trans (List.sublist_append_right _ _)
  |dic k ms=>have e:l'=.un:=h;subst e;exact ih.trans (List.sublist_append_right _ _)
theorem Back.sub{ρ:Ev}:∀{ls ls':List L},Back ρ ls ls'→∀a∈L2.owns ls',a∈L2.owns ρ
 |_,_,.nil=>fun a ha=>by simp[L2.owns]at ha
 | l::ls,l'::ls',.cons h t=>fun a ha=>by
  have ih:=Back.sub t
  rw[ay]at ha
  rcases List.mem_append.mp ha with z|z
  ·
   cases l with
   | own b xs =>
    rcases h with⟨ys,rfl,hm⟩|rfl
    ·
     have e:a=b:=by simpa[aP]using z
     subst e
     exact yq hm
    ·
     simp[aP]at z
   |un=>have e:l'=.un:=h;subst e;simp[aP]at z
   |d x=>have e:l'=.d x:=h;subst e;simp[aP]at z
   |bx k ms=>have e:l'=.un:=h;subst e;simp[aP]at z
   |dic k ms=>have e:l'=.un:=h;subst e;simp[aP]at z
  ·
   exact ih a z
theorem qv{K:PySem.W.Frag}{Pr H H':Hp}{σ τ:St}{ls ls' ρ:Ev}{v:Option V}{r:L}(E:REnv K Pr H σ ls)(E':REnv K (aZ H ls) H' (v::τ) (r::ρ))(B:Back ρ ls ls'):REnv K Pr H' (v::σ) (r::ls'):=by
 have E1:=E.narrow E'
 have p:Pres H H':=mH E E'.sub
 have sub:=B.sub
 have nd1:(owns ls').Nodup:=E.nd.sublist B.owns
 refine⟨E1.sub,?_,fun a ha=>?_,?_⟩
 ·
  have nd:=E'.nd
  rw[ay]at nd ⊢
  obtain⟨n1,n2,n3⟩:=List.nodup_append.mp nd
  exact List.nodup_append.mpr ⟨n1,nd1,fun a ha b hb=>n3 a ha b (sub b hb)⟩
 ·
  rw[ay]at ha
  refine E1.off a ?_
  rw[ay]
  rcases List.mem_append.mp ha with z|z
  ·
   exact List.mem_append_left _ z
  ·
   exact List.mem_append_right _ (sub a z)
 ·
  have s1:=E'.sl
  cases s1 with
  | cons q t =>
   refine .cons q ?_
   have sl:=E.sl
   clear E E' E1 nd1 sub
   induction B generalizing σ with
   |nil=>cases sl;exact .nil
   | cons h u ih =>
    rename_i l l' _ _
    cases sl with
    | cons s0 s2 =>
     refine .cons ?_ (ih s2)
     cases l with
     | own a xs =>
      rcases h with⟨ys,rfl,hm⟩|rfl
      ·
       obtain⟨e,_⟩:=s0
       obtain⟨_,_,_,z⟩:=Paired.mem2 t hm
       exact⟨e,z⟩
      ·
       unfold aN;exact True.intro
     |un=>have e:l'=.un:=h;subst e;unfold aN;exact True.intro
     |bx k ms=>have e:l'=.un:=h;subst e;unfold aN;exact True.intro
     |dic k ms=>have e:l'=.un:=h;subst e;unfold aN;exact True.intro
     | d x =>
      have e:l'=.d x:=h
      subst e
      obtain⟨w,e,r⟩:=s0
      exact⟨w,e,r.pres p⟩
section
variable{P:Program}{w:World}{K:PySem.W.Frag}{mg:Str→Option Value}{base:Heap}
theorem REnv.uns{K:PySem.W.Frag}{Pr H:Hp}{σ:St}{ρ:Ev}(E:REnv K Pr H σ ρ):∀n,REnv K Pr H (σ++List.replicate n none) (ρ++List.replicate n .un):=fun n=>by
 have e:owns (ρ++List.replicate n .un)=owns ρ:=by
  rw[ar]
  have:owns (List.replicate n L.un)=[]:=by
   induction n with
   |zero=>rfl
   |succ n ih=>rw[List.replicate_succ,jX];exact ih
  rw[this,List.append_nil]
 refine⟨E.sub,by rw[e];exact E.nd,fun a h=>E.off a (by rw[e]at h;exact h),Paired.app E.sl ?_⟩
 induction n with
 |zero=>exact .nil
 | succ n ih =>
  rw[List.replicate_succ,List.replicate_succ]
  refine .cons True.intro (ih ?_)
  have:owns (List.replicate n L.un)=[]:=by
   clear ih e
   induction n with
   |zero=>rfl
   |succ n ih=>rw[List.replicate_succ,jX];exact ih
  rw[ar,this,List.append_nil]
theorem dk{x qual:Str}{st:Stmt}{f:Addr}{fd:FuncData}{N ps:List Str}{k:Nat}{fs:FS}(F:Fun K x qual st f fd)(S:aI N ps (aq st))(t:W Fl)
  (hbody:∀(cdv:Value)(A:Around)(outer:List Env)(s:Shared)(H:Hp)(E:XK),Room k (A.deeper (envOfC qual (aq st) s.heap.objs.size f cdv))→PMs (cxOf CX0 P w K mg base N qual (aq st) f cdv A outer s H E).nox (bV st) t)
  (h:∀ls post,ls.length=ps.length→fs ls post→t (ls++List.replicate (N.length-ps.length) .un) (bL ls post)):FnOk P w K mg base CX0 (k+1) f fd ps (spF K ps.length fs):=by
 refine F.ok S (fun vs H Q E q=>q.1) (fun cdv A outer s H vs Q E hr q=>?_)
 obtain⟨hl,Pr,ls,post,E0,hf,q⟩:=q
 refine⟨_,(hbody cdv A outer s H E hr).pss,aZ H ls,ls++List.replicate (N.length-ps.length) .un,bL ls post,?_,h ls post (by rw[← hl];have:=E0.len;simpa using this.symm) hf,fun σ' H' ρ' E' p=>?_,fun _ _ _ _ p=>p.elim,fun _ _ _ _ p=>p.elim,fun v τ H' r ρ' E' p=>?_⟩
 ·
  unfold iF
  rw[hl]
  exact E0.wide.uns _
 ·
  obtain⟨ls',B,p⟩:=p
  exact q .non H' (.d .non) ls' (qv E0 (E'.cons_d .non) B) p
 ·
  obtain⟨ls',B,p⟩:=p
  exact q v H' r ls' (qv E0 E' B) p
end
theorem aK{ρ:Ev}:Back ρ [] []:=.nil
theorem ao{ρ:Ev}{x:D}{a b:List L}(t:Back ρ a b):Back ρ (.d x::a) (.d x::b):=.cons rfl t
theorem d6{ρ:Ev}{p:Addr}{xs ys:List D}{a b:List L}(h:L.own p ys∈ρ)(t:Back ρ a b):Back ρ (.own p xs::a) (.own p ys::b):=.cons (.inl ⟨ys,rfl,h⟩) t
section
variable{X:Cx}{e a b c tg:Expr}{es:List Expr}{pos:Pos}{tA:W Bool}{t u:W Fl}
def ub(c:W Bool)(b:W Fl):W Fl:=fun ρ post=>∃J:Nat→Ev→Prop,(∃n,J n ρ)∧∀n ρ,J n ρ→c ρ fun t ρ1=>if t=true then b ρ1 fun f ρ2=>(match f with
 |.nx=>∃m,m<n∧J m ρ2
 |.ct=>∃m,m<n∧J m ρ2
 |.bk=>post .nx ρ2
 |.rt r=>post (.rt r) ρ2)else post .nx ρ1
theorem qw{body:List Stmt}(hp:PassesOwn (model X.prog X.w) X.A X.env X.xe)(hc:PB X c tA)(hb:PMs X body t):PM X (.While c body [] pos) (ub tA t):=by
 refine PM.of (vL hp hc.pt hb.pss) fun σ H Pr ρ post hlen E h=>?_
 obtain⟨J,⟨n0,j0⟩,turn⟩:=h
 refine⟨fun n σ H=>∃ρ,REnv X.K Pr H σ ρ∧J n ρ,⟨n0,ρ,E,j0⟩,fun n σ1 H1 ⟨ρ1,E1,j1⟩=>⟨Pr,ρ1,_,E1,turn n ρ1 j1,fun b H2 ρ2 E2 q=>?_⟩⟩
 cases b with
 |false=>exact⟨ρ2,E2,q⟩
 | true =>
  refine⟨fun σ' H'=>∃ρ' m,REnv X.K Pr H' σ' ρ'∧m<n∧J m ρ',fun σ' H' ⟨ρ',m,E',hm,j⟩=>⟨m,hm,ρ',E',j⟩,Pr,ρ2,_,E2,q,fun σ' H' ρ' E' ⟨m,hm,j⟩=>⟨ρ',m,E',hm,j⟩,fun σ' H' ρ' E' p=>⟨ρ',E',p⟩,fun σ' H' ρ' E' ⟨m,hm,j⟩=>⟨ρ',m,E',hm,j⟩,fun v τ H' r ρ' E' p=>⟨τ,r,ρ',E',p⟩⟩
abbrev Tg:=D→Ev→(Ev→Prop)→Prop
def PT1(X:Cx)(tg:Expr)(g:Tg):Prop:=∃gg:TG,PG X tg gg∧∀v σ H Pr ρ x k,σ.length=X.N.length→REnv X.K Pr H σ ρ→Rep X.K H v x→g x ρ k→gg v σ H fun σ' H'=>H'=H∧σ'.length=X.N.length∧∃ρ',REnv X.K Pr H σ' ρ'∧k ρ'
def cb(i:Nat):Tg:=fun x ρ k=>k (ρ.set i (.d x))
theorem jj{i:Nat}{x:Str}(hN:X.N.Nodup)(hi:X.N[i]?=some x)(hx:Loc X.env.scope x)(hf:X.fn x=true∨X.env.scope.names.lookup x=some .local:=by first|exact .inl rfl|exact .inr rfl|assumption):PT1 X (.Name x pos) (cb i) :=
 ⟨_,oV hN hi hx hf,fun v σ H Pr ρ x k hl E r h=>⟨rfl,by simpa using hl,_,(E.cons_d r).store (by rw[hl];exact(List.getElem?_eq_some_iff.mp hi).1),h⟩⟩
def gj:List Nat→List D→Ev→(Ev→Prop)→Prop
 |[],[],ρ,k=>k ρ
 |i::is,x::xs,ρ,k=>gj is xs (ρ.set i (.d x)) k
 |_,_,_,_=>False
def PTs(X:Cx)(es:List Expr)(is:List Nat):Prop:=∃gg:TGs,PGs X es gg∧es.length=is.length∧∀vs σ H Pr ρ xs k,σ.length=X.N.length→REnv X.K Pr H σ ρ→Reps X.K H vs xs→gj is xs ρ k→gg vs σ H fun σ' H'=>H'=H∧σ'.length=X.N.length∧∃ρ',REnv X.K Pr H σ' ρ'∧k ρ'
theorem mK:PTs X [] []:=⟨_,yf,rfl,fun vs σ H Pr ρ xs k hl E r h=>by
 cases r with
 |nil=>exact⟨rfl,rfl,hl,ρ,E,h⟩
 |cons _ _=>exact h.elim⟩
theorem d7{i:Nat}{is:List Nat}{x:Str}(hN:X.N.Nodup)(hi:X.N[i]?=some x)(hx:Loc X.env.scope x)(hr:PTs X es is)(hf:X.fn x=true∨X.env.scope.names.lookup x=some .local:=by first|exact .inl rfl|exact .inr rfl|assumption)
  (hs:(assignEach (.Name x pos::es) X.env).map (·.2)=assign (.Name x pos) X.env::(assignEach es X.env).map (·.2):=by rfl):PTs X (.Name x pos::es) (i::is):=by
 obtain⟨gg,hg,hlen,q⟩:=hr
 refine⟨_,vK (oV hN hi hx hf) hg hs,by simp[hlen],fun vs σ H Pr ρ xs k hl E r h=>?_⟩
 cases r with
 |nil=>exact h.elim
 | cons r0 t =>
  refine⟨_,_,rfl,?_⟩
  exact q _ _ H Pr _ _ k (by simpa using hl) ((E.cons_d r0).store (by rw[hl];exact(List.getElem?_eq_some_iff.mp hi).1)) t h
def jk(is:List Nat):Tg:=fun x ρ k=>match x with
 |.tup xs=>gj is xs ρ k
 |_=>False
theorem kP:∀{is:List Nat}{xs:List D}{ρ:Ev}{k:Ev→Prop},gj is xs ρ k→xs.length=is.length
 |[],[],_,_,_=>rfl
 |_::is,_::xs,_,_,h=>by simp[kP (is:=is) (xs:=xs) h]
 |[],_::_,_,_,h=>h.elim
 |_::_,[],_,_,h=>h.elim
theorem qx{is:List Nat}{k:Nat}(hc:X.calm=true)(h:PTs X es is)(hn:(assignEach es X.env).length=is.length:=by rfl)(hst:(assignEach es X.env).findIdx? (·.1)=none:=by rfl):PT1 X (.Tuple es k pos) (jk is):=by
 obtain⟨gg,hg,hlen,q⟩:=h
 refine⟨_,Av hc hg hn hst,fun v σ H Pr ρ x k hl E r h=>?_⟩
 cases r with
 |tup hs rs=>exact⟨_,_,rfl,hs,by rw[rs.length];exact kP h,q _ σ H Pr ρ _ k hl E rs h⟩
 |_=>exact h.elim
def fU(g:Tg)(b:W Fl):List D→W Fl
 |[]=>fun ρ post=>post .nx ρ
 | x::xs=>fun ρ post=>g x ρ fun ρ1=>b ρ1 fun f ρ2=>match f with
  |.nx=>fU g b xs ρ2 post
  |.ct=>fU g b xs ρ2 post
  |.bk=>post .nx ρ2
  |.rt r=>post (.rt r) ρ2
def kQ:D→(List D→Prop)→Prop
 |.lst xs,k=>k xs
 |.tup xs,k=>k xs
 |_,_=>False
def AZ(H H':Hp):Prop:=H'=H∨∃p o,H p=none∧H'=upd H p o
theorem REnv.grown{K:PySem.W.Frag}{Pr H H':Hp}{σ:St}{ρ:Ev}(E:REnv K Pr H σ ρ)(g:AZ H H'):REnv K Pr H' σ ρ:=by
 rcases g with rfl|⟨p,o,h,rfl⟩
 ·
  exact E
 ·
  exact E.new h
def rT(K:PySem.W.Frag)(H:Hp)(J:It)(xs:List D):Prop:=∀H',Pres H H' →
 (∀i x,xs[i]?=some x→J.go i H'∧∀v H2,J.yld i H' v H2→AZ H' H2∧Rep K H2 v x)∧J.stop xs.length H'
def EI(X:Cx)(pins:List (Addr×Obj))(σ:St)(tg:Expr)(Pr:Hp)(post:List D→Ev→Prop)(itv:Value)(s2:Shared):Prop :=
 ∃(it:Addr)(fp:List Addr)(tn:Nat→Heap→Prop)(J:It)(H':Hp)(xs:List D)(ρ':Ev),itv=.ref it∧Inv X pins σ H' s2∧Turn X.prog X.w X.K tg J fp it tn∧tn 0 s2.heap∧(∀b∈fp,FpOk X pins H' b)∧REnv X.K Pr H' σ ρ'∧rT X.K H' J xs∧post xs ρ'
def PIL(X:Cx)(tg iter:Expr)(w:W (List D)):Prop :=
 ∀(pins:List (Addr×Obj))(s:Shared)(σ:St)(H Pr:Hp)(ρ:Ev)(post:List D→Ev→Prop),Inv X pins σ H s→REnv X.K Pr H σ ρ→w ρ post →
  wpAny (model X.prog X.w) X.A (eval iter X.env) (fun v s1=>wpAny (model X.prog X.w) X.A (pyIter v) (EI X pins σ tg Pr post) X.xe s1) X.xe s
def wSrc(t:W L):W (List D):=fun ρ post=>t ρ fun r ρ1=>toD r fun x=>kQ x fun xs=>post xs ρ1
theorem rV{K:PySem.W.Frag}{H:Hp}{a:Addr}{vs:List V}{xs:List D}(h:SqZ K H a vs)(r:Reps K H vs xs):rT K H (Itl K a) xs:=fun H' p=>by
 have h':=(h.pres p).l
 refine⟨fun i x e=>?_,⟨vs,h',by rw[r.length];exact Nat.le_refl _⟩⟩
 obtain⟨v,ev,rv⟩:=r.get e
 refine⟨⟨vs,v,h',ev⟩,fun w H2 ⟨e1,e2⟩=>?_⟩
 have e3:=e2 vs h'
 rw[ev]at e3
 cases e3
 subst e1
 exact⟨.inl rfl,rv.pres p⟩
theorem uc{K:PySem.W.Frag}{H:Hp}{a:Addr}{vs:List V}{xs:List D}(h:SqT K H a vs)(r:Reps K H vs xs):rT K H (Itt K a) xs:=fun H' p=>by
 have h':=h.pres p
 refine⟨fun i x e=>?_,⟨vs,h',by rw[r.length];exact Nat.le_refl _⟩⟩
 obtain⟨v,ev,rv⟩:=r.get e
 refine⟨⟨vs,v,h',ev⟩,fun w H2 ⟨e1,e2⟩=>?_⟩
 have e3:=e2 vs h'
 rw[ev]at e3
 cases e3
 subst e1
 exact⟨.inl rfl,rv.pres p⟩
theorem ud{t:W L}(h:PL X e t):PIL X tg e (wSrc t):=by
 intro pins s σ H Pr ρ post I E ht
 refine thn (h pins s σ H Pr ρ _ I E ht) fun u s1 q=>?_
 obtain⟨v,H1,x,ρ1,I1,r1,E1,q2⟩:=EL.frz (post:=fun x ρ1=>kQ x fun xs=>post xs ρ1) q
 obtain⟨_,e1,p⟩:=E1.head_d
 cases e1
 cases p with
 | lst hz rs =>
  cases r1
  obtain⟨its,rv,pl,hz'⟩:=I1.list hz.l
  refine wpAny_pyIter_list pl.isList ?_
  refine⟨s1.heap.objs.size,[s1.heap.objs.size],_,_,H1,_,ρ1,rfl,I1.kept (t':=s1.toks) fun b o e=>Heap.get?_push_of_some _ e,sY _ _,⟨_,Heap.get?_push_size _ rfl,rfl,rfl⟩,fun b hb=>?_,E1.tail,rV hz rs,q2⟩
  have e:b=s1.heap.objs.size:=by simpa using hb
  subst e
  exact I1.fpOk (Nat.le_refl _) (I1.hok.fresh (Nat.le_refl _))
 | tup hz rs =>
  cases r1
  obtain⟨its,rv,pl,hz'⟩:=I1.tuple hz
  refine wpAny_pyIter_tuple (show s1.heap.IsTuple _ its.toArray from pl) ?_
  refine⟨s1.heap.objs.size,[s1.heap.objs.size],_,_,H1,_,ρ1,rfl,I1.kept (t':=s1.toks) fun b o e=>Heap.get?_push_of_some _ e,rD _ _,⟨_,Heap.get?_push_size _ rfl,rfl,rfl⟩,fun b hb=>?_,E1.tail,uc hz rs,q2⟩
  have e:b=s1.heap.objs.size:=by simpa using hb
  subst e
  exact I1.fpOk (Nat.le_refl _) (I1.hok.fresh (Nat.le_refl _))
 |_=>exact q2.elim
def rngD(lo:Int)(n:Nat):List D:=(List.range n).map fun (i:Nat)=>.int (lo+(i:Int))
theorem nM{K:PySem.W.Frag}{H:Hp}(lo:Int)(n:Nat):rT K H (Itr lo n) (rngD lo n):=fun H' p=>by
 refine⟨fun i x e=>?_,?_⟩
 ·
  have hi:i<n:=by
   have:=(List.getElem?_eq_some_iff.mp e).1
   simpa[rngD]using this
  refine⟨hi,fun v H2 ⟨e1,e2⟩=>?_⟩
  subst e1 e2
  have:x=.int (lo+(i:Int)):=by
   unfold rngD at e
   rw[List.getElem?_map,List.getElem?_range hi]at e
   simpa using e.symm
  subst this
  exact⟨.inl rfl,.int _⟩
 ·
  show n≤(rngD lo n).length
  simp[rngD]
def iK:L→(Int→Prop)→Prop
 |.d (.int i),k=>k i
 |_,_=>False
theorem cf{r:L}{k:Int→Prop}(h:iK r k):∃i,r=.d (.int i)∧k i:=by
 cases r with
 | d x=>cases x with
  |int i=>exact⟨i,rfl,h⟩
  |_=>exact h.elim
 |_=>exact h.elim
def ue(j:Int):Prop:=-(2^62)≤j∧j<2^62
def nN(t:W L):W (List D):=fun ρ post=>t ρ fun r ρ1=>iK r fun j=>ue j∧post (rngD 0 j.toNat) ρ1
def yz(t u:W L):W (List D):=fun ρ post=>t ρ fun r ρ1=>iK r fun i=>u ρ1 fun r ρ2=>iK r fun j=>ue i∧ue j∧post (rngD i (j-i).toNat) ρ2
theorem iL{t:W L}{p pos:Pos} (hg:Gl X "range") (hm:X.mg "range"=none) (ha:PL X a t) (hs:starEach [a] X.env=[(false,eval a X.env)]:=by rfl):PIL X tg (.Call (.Name "range" p) [a] [] pos) (nN t):=by
 intro pins s σ H Pr ρ post I E h
 refine thn (td (tg:=tg) hg hm (bz ha.pe fW hs) hs pins s σ H (fun J H1=>∃ρ1 n,J=Itr 0 n∧REnv X.K Pr H1 σ ρ1∧post (rngD 0 n) ρ1) I ?_) fun v s1 q=>thn q fun itv s2 ⟨it,fp,tn,J,H',e,I',T,t0,hf,ρ1,n,eJ,E1,q⟩=>?_
 ·
  refine⟨Pr,ρ,_,E,h,fun v H' r ρ' E' p=>?_⟩
  obtain⟨j,rfl,hj,p⟩:=cf p
  obtain⟨_,e1,p1⟩:=E'.head_d
  cases e1
  cases p1
  exact⟨j,rfl,hj.1,hj.2,ρ',_,rfl,E'.tail,p⟩
 ·
  subst eJ
  exact⟨it,fp,tn,_,H',_,ρ1,e,I',T,t0,hf,E1,nM 0 n,q⟩
theorem wb{t u:W L}{p pos:Pos} (hg:Gl X "range") (hm:X.mg "range"=none) (ha:PL X a t) (hb:PL X b u) (hs:starEach [a,b] X.env=[(false,eval a X.env),(false,eval b X.env)]:=by rfl) (hs2:starEach [b] X.env=[(false,eval b X.env)]:=by rfl):PIL X tg (.Call (.Name "range" p) [a,b] [] pos) (yz t u):=by
 intro pins s σ H Pr ρ post I E h
 refine thn (tj (tg:=tg) hg hm (bz ha.pe (bz hb.pe fW hs2) (hs.trans (by rw[hs2]))) hs hs2 pins s σ H (fun J H1=>∃ρ1 lo n,J=Itr lo n∧REnv X.K Pr H1 σ ρ1∧post (rngD lo n) ρ1) I ?_) fun v s1 q=>thn q fun itv s2 ⟨it,fp,tn,J,H',e,I',T,t0,hf,ρ1,lo,n,eJ,E1,q⟩=>?_
 ·
  refine⟨Pr,ρ,_,E,h,fun v H' r ρ' E' p=>?_⟩
  obtain⟨i,rfl,p⟩:=cf p
  obtain⟨_,e1,p1⟩:=E'.head_d
  cases e1
  cases p1
  refine⟨Pr,ρ',_,E'.tail,p,fun v H2 r ρ2 E2 p=>?_⟩
  obtain⟨j,rfl,hi,hj,p⟩:=cf p
  obtain⟨_,e1,p1⟩:=E2.head_d
  cases e1
  cases p1
  exact⟨i,j,rfl,⟨hi.1,hi.2,hj.1,hj.2⟩,ρ2,_,_,rfl,E2.tail,p⟩
 ·
  subst eJ
  exact⟨it,fp,tn,_,H',_,ρ1,e,I',T,t0,hf,E1,nM lo n,q⟩
def wFor(s:W (List D))(g:Tg)(b:W Fl):W Fl:=fun ρ post=>s ρ fun xs ρ1=>fU g b xs ρ1 post
theorem iM{iter:Expr}{body:List Stmt}{w:W (List D)}{g:Tg}(hp:PassesOwn (model X.prog X.w) X.A X.env X.xe)(hc:X.calm=true)(hi:PIL X tg iter w)(hg:PT1 X tg g)(hb:PMs X body t)
  (hs:∀x,foldedSetIterable iter X.env x=pure x:=by intro _;rfl):PM X (.For tg iter body [] pos) (wFor w g t):=by
 intro pins s σ H Pr ρ post I E h
 obtain⟨gg,hg,hgg⟩:=hg
 refine wpAny_For (thn (hi pins s σ H Pr ρ _ I E h) fun v s1 h1=>thn h1 fun itv s2 h2=>?_) hs
 obtain⟨it,fp,tn,J,H2,xs,ρ2,e,I2,T,st2,f2,E2,G,w0⟩:=h2
 subst e
 have stat:∀{H':Hp},(∀b∈fp,H' b=none)→∀b∈fp,FpOk X pins H' b:=fun hn b hb=>⟨hn b hb,(f2 b hb).2⟩
 refine codeAny_forLoop_any (fun n s'=>∃i σ' H' ρ',n+i=xs.length∧Inv X pins σ' H' s'∧tn i s'.heap∧(∀b∈fp,H' b=none)∧REnv X.K (aZ H2 ρ2) H' σ' ρ'∧fU g t (xs.drop i) ρ' post) ?_ xs.length ⟨0,σ,H2,ρ2,by omega,I2,st2,fun b hb=>(f2 b hb).1,E2.wide,by simpa using w0⟩
 rintro n s3 ⟨i,σ3,H3,ρ3,hn,I3,st3,fr3,E3,w3⟩
 obtain⟨go,stop⟩:=G H3 (mH E2 E3.sub)
 by_cases hlt:i<xs.length
 ·
  obtain⟨hgo,hy⟩:=go i xs[i] (List.getElem?_eq_getElem hlt)
  rw[List.drop_eq_getElem_cons hlt]at w3
  refine wpAny_passesOwn hp (thn (T.item X rfl rfl rfl hc i pins s3 σ3 H3 X.xe I3 (stat fr3) st3 hgo) fun r s4 ⟨u,hr,h4⟩=>?_)
  subst hr
  refine wpAny_passesOwn hp (thn h4 fun _ s5 ⟨x,H5,I5,r5,y5,st5,fr5⟩=>?_)
  obtain⟨gr,rx⟩:=hy x H5 y5
  have I5':=I5.pinned (stat fr5) (T.obj _ _ st5)
  have E5:=E3.grown gr
  refine wpAny_passesOwn hp (thn (hg _ s5 σ3 H5 x u _ I5' r5 (hgg x σ3 H5 _ ρ3 xs[i] _ I5.len E5 rx w3)) fun _ s6 ⟨σ6,H6,I6,e6,hl6,ρ6,E6,q6⟩=>?_)
  subst e6
  refine wpAny_passesOwn hp (thn (hb _ s6 σ6 _ _ ρ6 _ I6 E6 q6) fun f s7 q7=>?_)
  have again:∀{σ7:St}{H7:Hp}{ρ7:Ev},Inv X (pins++nq fp s5.heap) σ7 H7 s7→REnv X.K (aZ H2 ρ2) H7 σ7 ρ7→fU g t (xs.drop (i+1)) ρ7 post →
    ∃m,m<n∧∃i σ' H' ρ',m+i=xs.length∧Inv X pins σ' H' s7∧tn i s7.heap∧(∀b∈fp,H' b=none)∧REnv X.K (aZ H2 ρ2) H' σ' ρ'∧fU g t (xs.drop i) ρ' post:=fun {σ7 H7 ρ7} I7 E7 n7=>by
   refine⟨n-1,by omega,i+1,σ7,H7,ρ7,by omega,I7.unpinned,T.keep _ _ _ st5 fun b hb o e=>(I7.pin (b,o) (List.mem_append_right _ (List.mem_append_right _ (gW hb e)))).1,fun b hb=>?_,E7,n7⟩
   obtain⟨o,e,d⟩:=T.obj _ _ st5 b hb
   exact(I7.pin (b,o) (List.mem_append_right _ (List.mem_append_right _ (gW hb e)))).2.1
  cases f with
  |next=>obtain⟨σ7,H7,ρ7,I7,E7,n7⟩:=q7;exact again I7 E7 n7
  |cont=>obtain⟨σ7,H7,ρ7,I7,E7,n7⟩:=q7;exact again I7 E7 n7
  |brk=>obtain⟨σ7,H7,ρ7,I7,E7,q7⟩:=q7;exact⟨σ7,H7,ρ7,I7.unpinned,E2.narrow E7,q7⟩
  |ret v=>obtain⟨x7,σ7,H7,r,ρ7,τ,I7,r7,E7,q7⟩:=q7;exact⟨x7,σ7,H7,r,ρ7,τ,I7.unpinned,r7,E2.narrow E7,q7⟩
 ·
  have e:i=xs.length:=by omega
  subst e
  refine wpAny_passesOwn hp (thn (T.done X rfl rfl rfl hc xs.length pins s3 σ3 H3 X.xe I3 (stat fr3) st3 stop) fun r s4 ⟨hr,I4⟩=>?_)
  subst hr
  rw[List.drop_length]at w3
  exact wpAny_execs_nil ⟨σ3,H3,ρ3,I4,E2.narrow E3,w3⟩
end
section
variable{X:Cx}{e a b c:Expr}{pos:Pos}{ta tb:W L}
def cD(i:Int):Prop:=i.natAbs<2^1000000
def bW:Op2:=fun x y k=>match x,y with
 |.int i,.int j=>k (.d (.int (i+j)))
 |.str i,.str j=>i.length+j.length≤sizeLine∧k (.d (.str (i++j)))
 |.lst xs,.lst ys=>xs.length+ys.length≤sizeLine∧∀a,k (.own a (xs++ys))
 |_,_=>False
def eH:Op2:=fun x y k=>match x,y with
 |.int i,.int j=>k (.d (.int (i-j)))
 |_,_=>False
def o8:Op2:=fun x y k=>match x,y with
 |.int i,.int j=>j≠0∧j.natAbs<2^9000∧k (.d (.int (i.fdiv j)))
 |_,_=>False
def kR:Op2:=fun x y k=>match x,y with
 |.int i,.int j=>j≠0∧k (.d (.int (i.fmod j)))
 |_,_=>False
def rW:Op2:=fun x y k=>match x,y with
 |.int i,.int j=>0≤j∧j≤1000000∧i.natAbs<2^64∧k (.d (.int (i^j.toNat)))
 |_,_=>False
def opLt:Op2:=fun x y k=>match x,y with
 |.int i,.int j=>k (.d (.bl (decide (i<j))))
 |_,_=>False
def opLe:Op2:=fun x y k=>match x,y with
 |.int i,.int j=>k (.d (.bl (decide (i≤j))))
 |_,_=>False
def opGt:Op2:=fun x y k=>match x,y with
 |.int i,.int j=>k (.d (.bl (decide (j<i))))
 |_,_=>False
def opGe:Op2:=fun x y k=>match x,y with
 |.int i,.int j=>k (.d (.bl (decide (j≤i))))
 |_,_=>False
theorem uf{i j:Int}(h1:cD i)(h2:cD j):IntMulOk i j:=IntMulOk.of_le (PySem.intBits_le_iff.mpr h1) (PySem.intBits_le_iff.mpr h2) (by decide)
theorem yA:OpR X (binaryOp .Mult) (rI (fun i j=>cD i∧cD j) fun i j=>.int (i*j)):=opI fun _ _ _ _ _ _ _ hc q=>mul_int q (uf hc.1 hc.2)
theorem yB:OpR X (binaryOp .FloorDiv) (rI (fun i j=>j≠0∧j.natAbs<2^9000) fun i j=>.int (i.fdiv j)):=opI fun i j _ _ _ _ _ hc q=>floordiv_int hc.1 q (.inl (PyProof.noPylong_of_log2 ((Nat.log2_lt (by have:=hc.1;omega)).mpr hc.2)))
theorem yC:OpR X (binaryOp .Add) (fun x y H Q=>∃l b xs zs,x=.ref l∧y=.ref b∧SqL X.K H l xs∧SqL X.K H b zs∧xs.length+zs.length≤sizeLine∧∀p,H p=none→Q (.ref p) (upd H p (.lst (xs++zs)))):=by
 intro pins s σ H x y v u Q I rx ry h
 obtain⟨l,b,xs,zs,rfl,rfl,hH,hB,hz,q⟩:=h
 cases rx
 cases ry
 obtain⟨its,r,⟨o,n,e,c,d,f⟩,z⟩:=I.list hH
 obtain⟨its2,r2,⟨o2,n2,e2,c2,d2,f2⟩,z2⟩:=I.list hB
 obtain⟨cl,dd,dt,sl⟩:=o
 obtain⟨cl2,dd2,dt2,sl2⟩:=o2
 simp only at c f c2 f2
 subst c f c2 f2
 have hl:=r.length
 have hl2:=r2.length
 refine concat_meets ⟨_,e,rfl⟩ ⟨_,e2,rfl⟩ noFill_list_add seq_list_add PySem.F.slot_list_add PySem.F.entry_list_add (PySem.F.args_list_add_2 _ _) (list_addW l b its.toArray its2.toArray n n2 dd dd2 sl sl2 (by rw[List.size_toArray,List.size_toArray];omega)) ⟨e,e2,?_⟩
 have ea:its.toArray++its2.toArray=(its++its2).toArray:=by simp
 rw[ea]
 exact⟨.ref _,_,I.lnew (t':=s.toks) (r.append r2) (by rw[List.length_append];omega),rfl,q _ I.fresh⟩
theorem bg:OpD X (binaryOp .Add) bW:=by
 intro pins s σ H Pr ρ x y v u dx dy post I rx ry E px py ho
 cases px with
 | int i =>
  cases py with
  |int j=>exact OpD.of AA (op:=fun x y k=>∃i j,x=.int i∧y=.int j∧k (.d (.int (i+j)))) (fun σ H Pr ρ x y dx dy post E px py ⟨i,j,e1,e2,h⟩=>by subst e1 e2;cases px;cases py;exact⟨i,j,rfl,rfl,_,E.cons_d (.int _),h⟩) pins s σ H Pr ρ _ _ v u _ _ post I rx ry E (.int i) (.int j) ⟨i,j,rfl,rfl,ho⟩
  |_=>exact ho.elim
 | str i =>
  cases py with
  |str j=>exact OpD.of rG (op:=fun x y k=>∃i j,x=.str i∧y=.str j∧i.length+j.length≤sizeLine∧k (.d (.str (i++j)))) (fun σ H Pr ρ x y dx dy post E px py ⟨i,j,e1,e2,z,h⟩=>by subst e1 e2;cases px;cases py;exact⟨i,j,rfl,rfl,z,_,E.cons_d (.str _),h⟩) pins s σ H Pr ρ _ _ v u _ _ post I rx ry E (.str i) (.str j) ⟨i,j,rfl,rfl,ho.1,ho.2⟩
  |_=>exact ho.elim
 | lst h1 r1 =>
  cases py with
  | lst h2 r2 =>
   refine OpD.of yC (op:=fun x y k=>∃xs ys,x=.lst xs∧y=.lst ys∧xs.length+ys.length≤sizeLine∧∀a,k (.own a (xs++ys))) (fun σ H Pr ρ x y dx dy post E px py ⟨xs,ys,e1,e2,z,h⟩=>?_) pins s σ H Pr ρ _ _ v u _ _ post I rx ry E (.lst h1 r1) (.lst h2 r2) ⟨_,_,rfl,rfl,ho.1,ho.2⟩
   subst e1 e2
   cases px with
   | lst h1 r1 =>
    cases py with
    |lst h2 r2=>exact⟨_,_,_,_,rfl,rfl,h1.l,h2.l,by rw[r1.length,r2.length];exact z,fun p hp=>⟨_,E.cons_own hp (r1.append r2),h p⟩⟩
  |_=>exact ho.elim
 |_=>cases py<;>exact ho.elim
theorem qy{f:Value→Value→Sem Value}{C:Int→Int→Prop}{g:Int→Int→V}{gd:Int→Int→D}(h:OpR X f (rI C g))(hg:∀K H i j,Rep K H (g i j) (gd i j)) :
  OpD X f (fun x y k=>∃i j,x=.int i∧y=.int j∧C i j∧k (.d (gd i j))) :=
 OpD.of h fun σ H Pr ρ x y dx dy post E px py ⟨i,j,e1,e2,z,h⟩=>by subst e1 e2;cases px;cases py;exact⟨i,j,rfl,rfl,z,_,E.cons_d (hg _ _ _ _),h⟩
theorem kT{f:Value→Value→Sem Value}{g:Int→Int→V}{gd:Int→Int→D}(h:OpR X f (rI0 g))(hg:∀K H i j,Rep K H (g i j) (gd i j)) :
  OpD X f (fun x y k=>∃i j,x=.int i∧y=.int j∧k (.d (gd i j))) :=
 OpD.of h fun σ H Pr ρ x y dx dy post E px py ⟨i,j,e1,e2,h⟩=>by subst e1 e2;cases px;cases py;exact⟨i,j,rfl,rfl,_,E.cons_d (hg _ _ _ _),h⟩
theorem eV:OpD X (binaryOp .Sub) eH:=(kT AB (gd:=fun i j=>.int (i-j)) fun _ _ _ _=>.int _).imp fun x y k h=>by
 unfold eH at h
 split at h
 ·
  exact⟨_,_,rfl,rfl,h⟩
 ·
  exact h.elim
theorem A0:OpD X (binaryOp .Mult) (fun x y k=>∃i j,x=.int i∧y=.int j∧(cD i∧cD j)∧k (.d (.int (i*j)))):=qy yA (gd:=fun i j=>.int (i*j)) fun _ _ _ _=>.int _
def iN:Op2:=fun x y k=>match x,y with
 |.int i,.int j=>cD i∧cD j∧k (.d (.int (i*j)))
 |_,_=>False
theorem jm:OpD X (binaryOp .Mult) iN:=A0.imp fun x y k h=>by
 unfold iN at h
 split at h
 ·
  exact⟨_,_,rfl,rfl,⟨h.1,h.2.1⟩,h.2.2⟩
 ·
  exact h.elim
theorem qz:OpD X (binaryOp .FloorDiv) o8:=(qy yB (gd:=fun i j=>.int (i.fdiv j)) fun _ _ _ _=>.int _).imp fun x y k h=>by
 unfold o8 at h
 split at h
 ·
  exact⟨_,_,rfl,rfl,⟨h.1,h.2.1⟩,h.2.2⟩
 ·
  exact h.elim
theorem j2:OpD X (binaryOp .Mod) kR:=(qy yg (gd:=fun i j=>.int (i.fmod j)) fun _ _ _ _=>.int _).imp fun x y k h=>by
 unfold kR at h
 split at h
 ·
  exact⟨_,_,rfl,rfl,h.1,h.2⟩
 ·
  exact h.elim
theorem ug:OpD X (binaryOp .Pow) rW:=(qy AC (gd:=fun i j=>.int (i^j.toNat)) fun _ _ _ _=>.int _).imp fun x y k h=>by
 unfold rW at h
 split at h
 ·
  exact⟨_,_,rfl,rfl,⟨h.1,h.2.1,h.2.2.1⟩,h.2.2.2⟩
 ·
  exact h.elim
theorem yD:OpD X (compareOp .Lt) opLt:=(kT AE (gd:=fun i j=>.bl (decide (i<j))) fun _ _ _ _=>.bl _).imp fun x y k h=>by
 unfold opLt at h
 split at h
 ·
  exact⟨_,_,rfl,rfl,h⟩
 ·
  exact h.elim
theorem A1:OpD X (compareOp .LtE) opLe:=(kT AF (gd:=fun i j=>.bl (decide (i≤j))) fun _ _ _ _=>.bl _).imp fun x y k h=>by
 unfold opLe at h
 split at h
 ·
  exact⟨_,_,rfl,rfl,h⟩
 ·
  exact h.elim
theorem mL:OpD X (compareOp .Gt) opGt:=(kT B9 (gd:=fun i j=>.bl (decide (j<i))) fun _ _ _ _=>.bl _).imp fun x y k h=>by
 unfold opGt at h
 split at h
 ·
  exact⟨_,_,rfl,rfl,h⟩
 ·
  exact h.elim
theorem yE:OpD X (compareOp .GtE) opGe:=(kT Ca (gd:=fun i j=>.bl (decide (j≤i))) fun _ _ _ _=>.bl _).imp fun x y k h=>by
 unfold opGe at h
 split at h
 ·
  exact⟨_,_,rfl,rfl,h⟩
 ·
  exact h.elim
mutual
def toP:D→PyData
 |.non=>.none
 |.bl b=>.bool b
 |.int i=>.int i
 |.str x=>.str x
 |.tup xs=>.tuple (toPs xs)
 |.lst xs=>.list (toPs xs)
 |.dct _=>.dict []
 |.exc _ _ _=>.dict []
 |.fn _ _=>.dict []
def toPs:List D→List PyData
 |[]=>[]
 |x::xs=>toP x::toPs xs
end
def eqD(x y:D):Bool:=PyData.eqv (toP x) (toP y)
def cF(x:D):Prop:=SeqAt.shaped (toP x)=true
def opEq:Op2:=fun x y k=>cF x∧cF y∧k (.d (.bl (eqD x y)))
def opNe:Op2:=fun x y k=>cF x∧cF y∧k (.d (.bl (!eqD x y)))
mutual
theorem iO{pins:List (Addr×Obj)}{σ:St}{H:Hp}{s:Shared}(I:Inv X pins σ H s):∀(d:D)(x:V)(u:Value),RelV x u→Rep X.K H x d→(toP d).canLay0=true→∃as,Reads s.heap u (toP d) as
 |.non,_,_,rv,r,_=>by cases r;cases rv;exact⟨_,.none⟩
 |.bl b,_,_,rv,r,_=>by cases r;cases rv;exact⟨_,.bool b⟩
 |.int i,_,_,rv,r,_=>by cases r;obtain⟨t,rfl⟩:=rv;exact⟨_,.int i t⟩
 |.str z,_,_,rv,r,_=>by cases r;obtain⟨t,rfl⟩:=rv;exact⟨_,.str z t⟩
 | .tup xs,_,_,rv,r,hc=>by
  cases r with
  | tup h rs =>
   cases rv
   obtain⟨its,vs,⟨o,e,c,n,d⟩,_⟩:=I.tuple h
   obtain⟨as,ra⟩:=ie I xs _ _ vs rs hc
   exact⟨_,.tuple (xs:=toPs xs) e c d (by simpa using ra)⟩
 | .lst xs,_,_,rv,r,hc=>by
  cases r with
  | lst h rs =>
   cases rv
   obtain⟨its,vs,⟨o,n,e,c,_,d⟩,_⟩:=I.list h.l
   obtain⟨as,ra⟩:=ie I xs _ _ vs rs hc
   exact⟨_,.list (xs:=toPs xs) e c d (by simpa using ra)⟩
 |.dct _,_,_,_,_,hc=>nomatch hc
 |.exc _ _ _,_,_,_,_,hc=>nomatch hc
 |.fn _ _,_,_,_,_,hc=>nomatch hc
theorem ie{pins:List (Addr×Obj)}{σ:St}{H:Hp}{s:Shared}(I:Inv X pins σ H s):∀(ds:List D)(vs:List V)(us:List Value),Vals vs us→Reps X.K H vs ds→PyData.canLayAll0 (toPs ds)=true→∃as,ReadsAll s.heap us (toPs ds) as
 |[],_,_,rv,r,_=>by cases r;cases rv;exact⟨_,.nil⟩
 | d::ds,_,_,rv,r,hc=>by
  have hc':(toP d).canLay0=true∧PyData.canLayAll0 (toPs ds)=true:=by simpa[toPs,PyData.canLayAll0]using hc
  cases r with
  | cons r0 rs =>
   cases rv with
   | cons v0 vs =>
    obtain⟨as,ra⟩:=iO I d _ _ v0 r0 hc'.1
    obtain⟨bs,rb⟩:=ie I ds _ _ vs rs hc'.2
    exact⟨_,.cons ra rb⟩
end
theorem ig(hu:X.A.units+64<cLine):OpD X (compareOp .Eq) opEq:=by
 intro pins s σ H Pr ρ x y v u dx dy post I rx ry E px py ⟨h1,h2,ho⟩
 obtain⟨as,ra⟩:=iO I dx x v rx px (SeqAt.canLay_of_shaped h1)
 obtain⟨bs,rb⟩:=iO I dy y u ry py (SeqAt.canLay_of_shaped h2)
 exact eq_dataH ra rb h1 h2 hu ⟨.bl _,H,_,I,rfl,E.cons_d (.bl _),ho⟩
theorem ij(hu:X.A.units+64<cLine):OpD X (compareOp .NotEq) opNe:=by
 intro pins s σ H Pr ρ x y v u dx dy post I rx ry E px py ⟨h1,h2,ho⟩
 obtain⟨as,ra⟩:=iO I dx x v rx px (SeqAt.canLay_of_shaped h1)
 obtain⟨bs,rb⟩:=iO I dy y u ry py (SeqAt.canLay_of_shaped h2)
 exact ne_dataH ra rb h1 h2 hu ⟨.bl _,H,_,I,rfl,E.cons_d (.bl _),ho⟩
theorem A2:OpD X (compareOp .Is) (fun x y k=>y=.non∧k (.d (.bl (match x with | .non=>true|_=>false)))):=OpD.of AG fun σ H Pr ρ x y dx dy post E px py ⟨e,h⟩=>by
 subst e
 cases py
 refine⟨rfl,_,E.cons_d (.bl _),?_⟩
 cases px<;>exact h
theorem yF:OpD X (compareOp .IsNot) (fun x y k=>y=.non∧k (.d (.bl (match x with | .non=>false|_=>true)))):=OpD.of yh fun σ H Pr ρ x y dx dy post E px py ⟨e,h⟩=>by
 subst e
 cases py
 refine⟨rfl,_,E.cons_d (.bl _),?_⟩
 cases px<;>exact h
def opIx:Op2:=fun x y k=>match x,y with
 |.lst xs,.int i=>∃v,atI xs i=some v∧k (.d v)
 |.tup xs,.int i=>∃v,atI xs i=some v∧k (.d v)
 |.str z,.int i=>z.length≤sizeLine∧∃c,atI z.cps.toList i=some c∧k (.d (.str ⟨#[c]⟩))
 |_,_=>False
theorem o9{K:PySem.W.Frag}{H:Hp}{vs:List V}{xs:List D}(r:Reps K H vs xs){i:Int}{x:D}(h:atI xs i=some x):∃v,atI vs i=some v∧Rep K H v x:=by
 unfold atI at h ⊢
 rw[r.length]
 cases q:ixN xs.length i with
 |none=>rw[q]at h;cases h
 | some j =>
  rw[q]at h
  exact r.get h
theorem aF(ha:PL X a ta)(hb:PL X b tb)(hs:oY b):PL X (.Subscript a b pos) (wBin opIx ta tb):=by
 intro pins s σ H Pr ρ post I E h
 refine Subscript_ (two (R:=fun dx dy ρ2=>opIx dx dy fun r=>post r ρ2) ha hb I E h fun v u s2 x y H2 dx dy ρ2 I2 r1 r2 E2 p1 p2 q=>?_)
 have fin:∀(Q:VK),(∀z H',Q z H'→∃r,REnv X.K Pr H' (some z::σ) (r::ρ2)∧post r ρ2)→∀w s',EP X pins σ Q w s'→EL X pins σ Pr post w s':=fun Q hQ w s' ⟨z,H',I',rz,q⟩=>by
  obtain⟨r,E',p⟩:=hQ z H' q
  exact⟨z,H',r,ρ2,I',rz,E',p⟩
 have Eσ:=E2.tail.tail
 cases p2 with
 | int i =>
  cases p1 with
  | lst hz rs =>
   obtain⟨z,hz',q⟩:=q
   obtain⟨w,hw,rw⟩:=o9 rs hz'
   exact thn (tQ a b pins s2 σ H2 _ _ v u (fun z H'=>z=w∧H'=H2) I2 r1 r2 ⟨_,_,i,w,rfl,rfl,hz.l,hw,rfl,rfl⟩ (hs _ _)) (fin _ fun z H' ⟨e1,e2⟩=>by subst e1 e2;exact⟨_,Eσ.cons_d rw,q⟩)
  | tup hz rs =>
   obtain⟨z,hz',q⟩:=q
   obtain⟨w,hw,rw⟩:=o9 rs hz'
   exact thn (AM a b pins s2 σ H2 _ _ v u (fun z H'=>z=w∧H'=H2) I2 r1 r2 ⟨_,_,i,w,rfl,rfl,hz,hw,rfl,rfl⟩ (hs _ _)) (fin _ fun z H' ⟨e1,e2⟩=>by subst e1 e2;exact⟨_,Eσ.cons_d rw,q⟩)
  | str z =>
   obtain⟨hz,c,hc,q⟩:=q
   exact thn (AN a b pins s2 σ H2 _ _ v u (fun z H'=>z=.str ⟨#[c]⟩∧H'=H2) I2 r1 r2 ⟨z,i,c,rfl,rfl,hz,hc,rfl,rfl⟩ (hs _ _)) (fin _ fun z H' ⟨e1,e2⟩=>by subst e1 e2;exact⟨_,Eσ.cons_d (.str _),q⟩)
  |_=>exact q.elim
 |_=>cases p1<;>exact q.elim
end
section
variable{X:Cx}{e a b c:Expr}{es:List Expr}{pos p:Pos}{ta:W L}{x:Str}{bs:List (Option Nat)}{t:W (List L)}{id T:String}
abbrev OpN:=List D→(L→Prop)→Prop
def eI(X:Cx)(f:Value)(op:OpN):Prop :=
 ∀(pins:List (Addr×Obj))(s:Shared)(σ:St)(H Pr:Hp)(ρ:Ev)(vs:List V)(us:List Value)(ds:List D)(post:L→Prop),Inv X pins σ H s→Vals vs us→REnv X.K Pr H σ ρ→Reps X.K H vs ds→op ds post →
  wpAny (model X.prog X.w) X.A (call f us) (fun w s'=>∃z H' r,Inv X pins σ H' s'∧RelV z w∧REnv X.K Pr H' (some z::σ) (r::ρ)∧post r) X.xe s
theorem eI.of{f:Value}{r:List V→Hp→VK→Prop}{op:OpN}(h:fT X f r)(q:∀σ H Pr ρ vs ds post,REnv X.K Pr H σ ρ→Reps X.K H vs ds→op ds post→r vs H fun z H'=>∃r,REnv X.K Pr H' (some z::σ) (r::ρ)∧post r):eI X f op :=
 fun pins s σ H Pr ρ vs us ds post I rv E ps ho=>thn (h pins s σ H vs us _ I rv (q σ H Pr ρ vs ds post E ps ho)) fun w s' ⟨z,H',I',rz,r,E',p⟩=>⟨z,H',r,I',rz,E',p⟩
def aH(op:OpN)(t:W (List L)):W L:=fun ρ post=>t ρ fun ls ρ1=>toDs ls fun ds=>op ds fun r=>post r ρ1
theorem aA(hc:eI X (.builtin id) op)(hg:Gl X x)(hm:X.mg x=none)(hv:bootBuiltins x=some (.builtin id))(ha:PAL X (e::es) bs t) (hn:x≠"__name__":=by decide) (hdb:(x == ("__debug__" : Str))=false:=by decide)
  (he:starEach (e::es) X.env=(false,eval e X.env)::starEach es X.env:=by rfl) (hpl:(backTo pos (starEach es X.env)).any (·.1)=false:=by rfl):PL X (.Call (.Name x p) (e::es) [] pos) (aH op t):=by
 intro pins s σ H Pr ρ post I E h
 refine wpAny_Call_Name_kw (jV I hg hm hv ?_ hn hdb)
 refine PyProof.Rows.callWith_builtin1 (thn (ha pos pins s σ H Pr ρ _ I E h) fun us s1 ⟨vs,H1,ls,ρ1,I1,r1,hl,hb,E1,_,q1⟩=>?_) he hpl
 obtain⟨ds,rfl,q2⟩:=gb q1
 have hlen:vs.length=ds.length:=by simpa using hl
 exact thn (hc pins s1 σ H1 Pr ρ1 vs us ds _ I1 r1 (E1.drop (by simp[hlen])) (gh hlen E1) q2) fun w s2 ⟨z,H2,r,I2,rz,E2,q⟩=>⟨z,H2,r,ρ1,I2,rz,E2,q⟩
theorem gm(hc:eI X (.type T) op)(hg:Gl X x)(hm:X.mg x=none)(hv:bootBuiltins x=some (.type T))(ha:PAL X (e::es) bs t) (hn:x≠"__name__":=by decide) (hdb:(x == ("__debug__" : Str))=false:=by decide)
  (he:starEach (e::es) X.env=(false,eval e X.env)::starEach es X.env:=by rfl) (hpl:(backTo pos (starEach es X.env)).any (·.1)=false:=by rfl):PL X (.Call (.Name x p) (e::es) [] pos) (aH op t):=by
 intro pins s σ H Pr ρ post I E h
 refine wpAny_Call_Name_kw (jV I hg hm hv ?_ hn hdb)
 refine PyProof.Rows.callWith_type1 (thn (ha pos pins s σ H Pr ρ _ I E h) fun us s1 ⟨vs,H1,ls,ρ1,I1,r1,hl,hb,E1,_,q1⟩=>?_) he hpl
 obtain⟨ds,rfl,q2⟩:=gb q1
 have hlen:vs.length=ds.length:=by simpa using hl
 exact thn (hc pins s1 σ H1 Pr ρ1 vs us ds _ I1 r1 (E1.drop (by simp[hlen])) (gh hlen E1) q2) fun w s2 ⟨z,H2,r,I2,rz,E2,q⟩=>⟨z,H2,r,ρ1,I2,rz,E2,q⟩
def bp:OpN:=fun ds k=>match ds with
 |[.lst xs]=>k (.d (.int xs.length))
 |[.tup xs]=>k (.d (.int xs.length))
 |[.str x]=>x.length≤sizeLine∧k (.d (.int x.length))
 |_=>False
theorem km{K:PySem.W.Frag}{H:Hp}{vs:List V}{d:D}(r:Reps K H vs [d]):∃v,vs=[v]∧Rep K H v d:=by
 cases r with
 |cons h t=>cases t;exact⟨_,rfl,h⟩
theorem A3{K:PySem.W.Frag}{H:Hp}{vs:List V}{d d':D}(r:Reps K H vs [d,d']):∃v w,vs=[v,w]∧Rep K H v d∧Rep K H w d':=by
 cases r with
 | cons h t=>cases t with
  |cons h' t=>cases t;exact⟨_,_,rfl,h,h'⟩
theorem a9:eI X (.builtin "len") bp:=eI.of (nD.or nE) fun σ H Pr ρ vs ds post E ps h=>by
 unfold bp at h
 split at h
 ·
  obtain⟨v,rfl,r⟩:=km ps
  cases r with
  |lst hz rs=>exact .inl ⟨_,_,rfl,.inl hz.l,_,E.cons_d (.int _),by rw[rs.length];exact h⟩
 ·
  obtain⟨v,rfl,r⟩:=km ps
  cases r with
  |tup hz rs=>exact .inl ⟨_,_,rfl,.inr hz,_,E.cons_d (.int _),by rw[rs.length];exact h⟩
 ·
  obtain⟨v,rfl,r⟩:=km ps
  cases r with
  |str z=>exact .inr ⟨_,rfl,h.1,_,E.cons_d (.int _),h.2⟩
 ·
  exact h.elim
def rX:OpN:=fun ds k=>match ds with
 |[.int i]=>k (.d (.int (if i<0 then -i else i)))
 |_=>False
theorem uh:eI X (.builtin "abs") rX:=eI.of vQ fun σ H Pr ρ vs ds post E ps h=>by
 unfold rX at h
 split at h
 ·
  obtain⟨v,rfl,r⟩:=km ps
  cases r with
  |int i=>exact⟨_,rfl,_,E.cons_d (.int _),h⟩
 ·
  exact h.elim
def wc:OpN:=fun ds k=>match ds with
 |[.int i,.int j]=>k (.d (.int (if j > i then j else i)))
 |_=>False
def wd:OpN:=fun ds k=>match ds with
 |[.int i,.int j]=>k (.d (.int (if j<i then j else i)))
 |_=>False
theorem A4(hc:X.calm=true):eI X (.builtin "max") wc:=eI.of (tH hc) fun σ H Pr ρ vs ds post E ps h=>by
 unfold wc at h
 split at h
 ·
  obtain⟨v,w,rfl,r,r'⟩:=A3 ps
  cases r with
  | int i=>cases r' with
   |int j=>exact⟨_,_,rfl,_,E.cons_d (.int _),h⟩
 ·
  exact h.elim
theorem A5(hc:X.calm=true):eI X (.builtin "min") wd:=eI.of (tI hc) fun σ H Pr ρ vs ds post E ps h=>by
 unfold wd at h
 split at h
 ·
  obtain⟨v,w,rfl,r,r'⟩:=A3 ps
  cases r with
  | int i=>cases r' with
   |int j=>exact⟨_,_,rfl,_,E.cons_d (.int _),h⟩
 ·
  exact h.elim
def pf:OpN:=fun ds k=>match ds with
 |[.int i]=>k (.d (.int i))
 |[.bl b]=>k (.d (.int (if b then 1 else 0)))
 |_=>False
theorem xJ:eI X (.type "int") pf:=eI.of tJ fun σ H Pr ρ vs ds post E ps h=>by
 unfold pf at h
 split at h
 ·
  obtain⟨v,rfl,r⟩:=km ps
  cases r with
  |int i=>exact .inl ⟨_,rfl,_,E.cons_d (.int _),h⟩
 ·
  obtain⟨v,rfl,r⟩:=km ps
  cases r with
  |bl i=>exact .inr ⟨_,rfl,_,E.cons_d (.int _),h⟩
 ·
  exact h.elim
def nO:OpN:=fun ds k=>match ds with
 |[.lst xs]=>∀a,k (.own a xs)
 |[.tup xs]=>∀a,k (.own a xs)
 |_=>False
theorem yG:eI X (.type "list") nO:=eI.of nF fun σ H Pr ρ vs ds post E ps h=>by
 unfold nO at h
 split at h
 ·
  obtain⟨v,rfl,r⟩:=km ps
  cases r with
  |lst hz rs=>exact⟨_,_,rfl,.inl hz.l,fun l hl=>⟨_,E.cons_own hl rs,h l⟩⟩
 ·
  obtain⟨v,rfl,r⟩:=km ps
  cases r with
  |tup hz rs=>exact⟨_,_,rfl,.inr hz,fun l hl=>⟨_,E.cons_own hl rs,h l⟩⟩
 ·
  exact h.elim
def kU:OpN:=fun ds k=>match ds with
 |[.lst xs]=>k (.d (.tup xs))
 |[.tup xs]=>k (.d (.tup xs))
 |_=>False
theorem qC:eI X (.type "tuple") kU:=eI.of mE fun σ H Pr ρ vs ds post E ps h=>by
 unfold kU at h
 split at h
 ·
  obtain⟨v,rfl,r⟩:=km ps
  cases r with
  |lst hz rs=>exact⟨_,_,rfl,.inl ⟨hz.l,fun l hl=>⟨_,E.cons_tup hl rs,h⟩⟩⟩
 ·
  obtain⟨v,rfl,r⟩:=km ps
  cases r with
  |tup hz rs=>exact⟨_,_,rfl,.inr ⟨hz,_,E.cons_d (.tup hz rs),h⟩⟩
 ·
  exact h.elim
def tyD:D→Value
 |.non=>.type "NoneType"
 |.bl _=>.type "bool"
 |.int _=>.type "int"
 |.str _=>.type "str"
 |.tup _=>.type "tuple"
 |.lst _=>.type "list"
 |.dct _=>.type "dict"
 |.exc _ _ _=>.none
 |.fn _ _=>.type "function"
def TyD(K:PySem.W.Frag)(d:D)(t:Value):Prop:=match d with
 |.exc c _ _=>∃C,t=.ref C∧fZ K c C=true
 |d=>t=tyD d
theorem mM{pins:List (Addr×Obj)}{σ:St}{H:Hp}{s:Shared}{a:Addr}{o:Obj}{u:HO}{C:Addr}{ns:List Str}{vs:List V}(I:Inv X pins σ H s)(h:H a=some (.frz o u))(hc:o.cls=.ref C)(hn:PySem.W.notCls o=true)(hf:XF H o.dict ns vs):∃od,PySem.W.InstAt s.heap a o C od∧∀d,o.dict=some d→∃q,od=some q∧s.heap.get? d=some q:=by
 have e:=(show s.heap.get? a=some o∧_ from I.hok a _ h).1
 rcases hf with⟨_,_,z⟩|⟨d,od,z,h2,_⟩
 ·
  exact⟨none,⟨e,hc,hn,by rw[z];trivial⟩,fun d q=>by rw[z]at q;cases q⟩
 ·
  have e2:=(show s.heap.get? d=some od∧_ from I.hok d _ h2).1
  exact⟨some od,⟨e,hc,hn,by rw[z];exact e2⟩,fun d' q=>by rw[z]at q;cases q;exact⟨od,rfl,e2⟩⟩
theorem qD{pins:List (Addr×Obj)}{σ:St}{H:Hp}{s:Shared}{x:V}{u c:Value}{d:D}{b:Bool}{Q:Value→Shared→Prop}{A:Around}{E:Value→Shared→Prop}(I:Inv X pins σ H s)(rx:RelV x u)(r:Rep X.K H x d)(e:∀t,TyD X.K d t→PySem.W.kitOne X.K t c=some b)(h:∀tk,Q (.bool b) {s with toks:=tk}) :
  wpAny (model X.prog X.w) A (call (.builtin "isinstance") [u,c]) Q E s:=by
 cases r with
 |non=>cases rx;exact PySem.W.kia_one PySem.W.kitx_none I.kIn True.intro (e _ rfl) (fun z=>nomatch z) h
 |bl y=>cases rx;exact PySem.W.kia_one PySem.W.kitx_bool I.kIn True.intro (e _ rfl) (fun z=>nomatch z) h
 |int i=>obtain⟨t,rfl⟩:=rx;exact PySem.W.kia_one PySem.W.kitx_int I.kIn True.intro (e _ rfl) (fun z=>nomatch z) h
 |str y=>obtain⟨t,rfl⟩:=rx;exact PySem.W.kia_one PySem.W.kitx_str I.kIn True.intro (e _ rfl) (fun z=>nomatch z) h
 | lst hz rs =>
  cases rx
  obtain⟨its,_,⟨o,n,e1,c1,_,_⟩,_⟩:=I.list hz.l
  exact PySem.W.kia_one PySem.W.kitx_list I.kIn ⟨o,e1,c1⟩ (e _ rfl) (fun z=>nomatch z) h
 | tup hz rs =>
  cases rx
  obtain⟨its,_,⟨o,e1,c1,_⟩,_⟩:=I.tuple hz
  exact PySem.W.kia_one PySem.W.kitx_tuple I.kIn ⟨o,e1,c1⟩ (e _ rfl) (fun z=>nomatch z) h
 | @dct a o kvs hz =>
  cases rx
  obtain⟨_,_,_,vs,_,o',es,ep,h1,h2,_⟩:=(show b9 X.prog X.w H s.heap a (.frz o (.dK kvs))from I.hok a _ hz)
  exact PySem.W.kia_one PySem.W.kitx_dict I.kIn ⟨o',h1,h2.1⟩ (e _ rfl) (fun z=>nomatch z) h
 | @exc a o u cc C ns vs ds h1 hv hc hn hs hq hf rs =>
  cases rx
  obtain⟨od,Ia,_⟩:=mM I h1 hc hn hf
  obtain⟨LL,cd,S⟩:=cV hs
  exact PySem.W.kia_one (qt S) I.kIn ⟨_,_,Ia⟩ (e _ ⟨C,rfl,hs⟩) (fun z=>nomatch z) h
 | fn hl hf hq hc hz hd hv hm r =>
  cases rx
  exact PySem.W.kia_one tV I.kIn ⟨_,(I.hok _ _ hf).1,rfl⟩ (e _ rfl) (fun z=>nomatch z) h
def isTy(T:String):D→Bool
 |.non=>T == "NoneType"
 |.bl _=>T == "bool" ||T == "int"
 |.int _=>T == "int"
 |.str _=>T == "str"
 |.tup _=>T == "tuple"
 |.lst _=>T == "list"
 |.dct _=>T == "dict"
 |.exc _ _ _=>(["ValueError","Exception","BaseException","object"]:List String).contains T
 |.fn _ _=>T == "function"
def cG(T:String):D→(L→Prop)→Prop:=fun d k=>k (.d (.bl (isTy T d)))
theorem bP{T:String}{y:Str}{py:Pos}(hT:∀ K d t,TyD K d t→PySem.W.kitOne K t (.type T)=some (isTy T d)) (hg:Gl X "isinstance") (hm:X.mg "isinstance"=none) (hy:Gl X y) (hmy:X.mg y=none) (hby:bootBuiltins y=some (.type T)) (ha:PL X a ta)
  (hny:y≠"__name__":=by decide) (hdy:(y == ("__debug__" : Str))=false:=by decide)
  (h1:starEach [a,.Name y py] X.env=(false,eval a X.env)::starEach [.Name y py] X.env:=by rfl) (h2:starEach [.Name y py] X.env=[(false,eval (.Name y py) X.env)]:=by rfl) (hpl:(backTo pos (starEach [.Name y py] X.env)).any (·.1)=false:=by rfl) :
  PL X (.Call (.Name "isinstance" p) [a,.Name y py] [] pos) (wUn (cG T) ta):=by
 have cr:fT X (.builtin "isinstance") (fun xs H Q=>∃ x d,xs=[x,.ty T]∧Rep X.K H x d∧Q (.bl (isTy T d)) H):=by
  intro pins s σ H xs us Q I rv h
  obtain⟨x,d,rfl,r,q⟩:=h
  obtain⟨u,w,rfl,r1,r2⟩:=rH rv
  cases r2
  exact qD I r1 r (hT _ d) fun tk=>⟨.bl _,H,I.tok _,rfl,q⟩
 refine PL.of (mC cr hg hm (by decide +kernel) (bz (av ha).pe (bz (ye hy hmy hby (v:=.ty T) rfl hny hdy) fW h2) h1) (he:=h1) (hpl:=hpl)) fun σ H Pr ρ post E h=>?_
 refine⟨Pr,ρ,fun r ρ1=>match r with
  |.d x=>cG T x fun r=>post r ρ1
  |_=>False,E,h,fun v H' r ρ' E' p=>?_⟩
 cases r with
 | d x =>
  obtain⟨_,e1,p1⟩:=E'.head_d
  cases e1
  exact⟨_,x,rfl,p1,_,ρ',E'.tail.cons_d (.bl _),p⟩
 |_=>exact p.elim
end
section
variable{X:Cx}{e a b:Expr}{pos p apos cpos:Pos}{tb te:W L}{x:Str}
theorem REnv.updOwn{K:PySem.W.Frag}{Pr H:Hp}{σ:St}{ρ:Ev}{i:Nat}{l:Addr}{xs ys:List D}{vs:List V}(E:REnv K Pr H σ ρ)(q:ρ[i]?=some (.own l xs))(r:Reps K H vs ys):REnv K Pr (upd H l (.lst vs)) σ (ρ.set i (.own l ys)):=by
 obtain⟨sv,hs,rfl,_⟩:=E.slot q
 have hi:i<ρ.length:=(List.getElem?_eq_some_iff.mp q).1
 have E1:=(E.out q).write r
 have E2:=E1.back (i:=i) (by simp[hi]) hs
 rw[List.set_set]at E2
 exact E2
theorem REnv.ownAt{K:PySem.W.Frag}{Pr H:Hp}{σ:St}{ρ:Ev}{i:Nat}{l:Addr}{xs:List D}(E:REnv K Pr H σ ρ)(q:ρ[i]?=some (.own l xs)):σ[i]?=some (some (.ref l))∧∃vs,H l=some (.lst vs)∧Reps K H vs xs:=by
 obtain⟨sv,hs,rfl,r⟩:=E.slot q
 exact⟨hs,r⟩
def ownV(i:Nat)(ρ:Ev)(k:Addr→List D→Prop):Prop:=match ρ[i]? with
 |some (.own a xs)=>k a xs
 |_=>False
theorem jn{i:Nat}{ρ:Ev}{k:Addr→List D→Prop}(h:ownV i ρ k):∃a xs,ρ[i]?=some (.own a xs)∧k a xs:=by
 unfold ownV at h
 cases q:ρ[i]? with
 |none=>rw[q]at h;exact h.elim
 | some l =>
  rw[q]at h
  cases l with
  |own a xs=>exact⟨a,xs,rfl,h⟩
  |un=>exact h.elim
  |d x=>exact h.elim
  |bx _ _=>exact h.elim
  |dic _ _=>exact h.elim
def wApp(i:Nat)(te:W L):W L:=fun ρ post=>ownV i ρ fun _ _=>te ρ fun r ρ1=>toD r fun y=>ownV i ρ1 fun a xs=>xs.length<sizeLine∧post (.d .non) (ρ1.set i (.own a (xs++[y])))
theorem ui(i:Nat)(he:PL X e te)(hN:X.N[i]?=some x:=by rfl)(hv:Vis X.env.scope x:=by first | exact Or.inl rfl | exact Or.inr (Or.inl rfl) | exact Or.inr (Or.inr rfl)) (hd:(x == ("__debug__" : Str))=false:=by decide)
  (hcd:(x == ("__classdict__" : Str))=false:=by decide) (hs1:starEach [e] X.env=[(false,eval e X.env)]:=by rfl) (hbase:attributeBase (.Name x p) "append" X.env (eval (.Name x p) X.env)=eval (.Name x p) X.env:=by rfl)
  (hfew:((backTo cpos (starEach [e] X.env)).all (fun x=>!x.1) && (backToKw cpos (keywordEach [] X.env)).all (fun x=>x.1.isSome)
   && decide (([e]).length+([]:List Keyword).length+(if([]:List Keyword).isEmpty then 0 else 1)<30))=true:=by rfl)
  (hline:(apos.endLine == cpos.line)=true:=by rfl) (hplain:(backTo cpos (starEach ([]:List Expr) X.env)).any (·.1)=false:=by rfl) :
  PL X (.Call (.Attribute (.Name x p) "append" apos) [e] [] cpos) (wApp i te):=by
 refine PL.of (Cf PySem.F.plainAttrs_list PySem.F.slot_list_append PySem.F.type_list_append nG (dh hN hv hd hcd) (bz (av he).pe fW hs1) (hbase:=hbase) (hfew:=hfew) (hline:=hline) (hs:=hs1) (hplain:=hplain)) fun σ H Pr ρ post E h=>?_
 obtain⟨l,xs0,q0,h⟩:=jn h
 obtain⟨hσ,vs0,hl0,_⟩:=E.ownAt q0
 refine⟨.ref l,hσ,.inl ⟨rfl,vs0,SqL.of hl0⟩,Pr,ρ,fun r ρ1=>match r with
  |.d y=>ownV i ρ1 fun a xs=>xs.length<sizeLine∧post (.d .non) (ρ1.set i (.own a (xs++[y])))
  |_=>False,E,h,fun v H' r ρ' E' pp=>?_⟩
 cases r with
 | d y =>
  obtain⟨l',xs,q,hlen,pp⟩:=jn pp
  obtain⟨hσ',vs,hl,r⟩:=E'.tail.ownAt q
  rw[hσ]at hσ'
  cases hσ'
  obtain⟨_,e1,p1⟩:=E'.head_d
  cases e1
  exact⟨l,vs,v,rfl,rfl,hl,by rw[r.length];exact hlen,_,_,(E'.tail.updOwn q (r.append (.cons p1 .nil))).cons_d .non,pp⟩
 |_=>exact pp.elim
def wIxV(i:Nat)(tb:W L):W L:=fun ρ post=>ownV i ρ fun _ _=>tb ρ fun r ρ1=>iK r fun j=>ownV i ρ1 fun _ xs=>∃y,atI xs j=some y∧post (.d y) ρ1
theorem iP(i:Nat)(hb:PL X b tb)(hs:oY b)(hN:X.N[i]?=some x:=by rfl)(hv:Vis X.env.scope x:=by first | exact Or.inl rfl | exact Or.inr (Or.inl rfl) | exact Or.inr (Or.inr rfl)) (hd:(x == ("__debug__" : Str))=false:=by decide)
  (hcd:(x == ("__classdict__" : Str))=false:=by decide):PL X (.Subscript (.Name x p) b pos) (wIxV i tb):=by
 refine PL.of (Cd tQ (dh hN hv hd hcd) hb.pe hs) fun σ H Pr ρ post E h=>?_
 obtain⟨l,xs0,q0,h⟩:=jn h
 obtain⟨hσ,vs0,hl0,_⟩:=E.ownAt q0
 refine⟨.ref l,hσ,Pr,ρ,_,E,h,fun v H' r ρ' E' pp=>?_⟩
 obtain⟨j,rfl,pp⟩:=cf pp
 obtain⟨l',xs,q,y,hy,pp⟩:=jn pp
 obtain⟨hσ',vs,hl,r⟩:=E'.tail.ownAt q
 rw[hσ]at hσ'
 cases hσ'
 obtain⟨_,e1,p1⟩:=E'.head_d
 cases e1
 cases p1
 obtain⟨w,hw,rw⟩:=o9 r hy
 exact⟨l,vs,j,w,rfl,rfl,SqL.of hl,hw,_,ρ',E'.tail.cons_d rw,pp⟩
def uj(i:Nat)(tb te:W L):W Fl:=fun ρ post=>te ρ fun r ρ1=>toD r fun y=>ownV i ρ1 fun _ _=>tb ρ1 fun r ρ2=>iK r fun j=>ownV i ρ2 fun a xs=>∃k,ixN xs.length j=some k∧post .nx (ρ2.set i (.own a (xs.set k y)))
theorem ph(i:Nat){b:Expr}{ps:Pos}(hb:PL X b tb)(he:PL X e te)(hN:X.N[i]?=some x:=by rfl)(hv:Vis X.env.scope x:=by first | exact Or.inl rfl | exact Or.inr (Or.inl rfl) | exact Or.inr (Or.inr rfl)) (hd:(x == ("__debug__" : Str))=false:=by decide)
  (hcd:(x == ("__classdict__" : Str))=false:=by decide)
  (ha:∀v,assign (.Subscript (.Name x p) b ps) X.env v=(do
   let ov ← holding [v] (eval (.Name x p) X.env)
   let iv ← holding [v,ov] (eval b X.env)
   standAt ps
   holding [v,ov,iv] (setItem ov iv v)
   release [v,ov,iv] []):=by intro _;rfl)
  (hs:swapsWithSole [.Subscript (.Name x p) b ps] e pos.line X.env=pure false:=by rfl) (hw:swappedStores [.Subscript (.Name x p) b ps] e X.env=pure none:=by rfl)
  (h1:(assignEach [.Subscript (.Name x p) b ps] X.env).map (·.2)=[assign (.Subscript (.Name x p) b ps) X.env]:=by rfl):PM X (.Assign [.Subscript (.Name x p) b ps] e pos) (uj i tb te):=by
 refine PM.of (Ax (av he).pe (Aw (dh hN hv hd hcd) hb.pe vT ha) hs hw h1) fun σ H Pr ρ post hlen E h=>?_
 refine⟨Pr,ρ,fun r ρ1=>match r with
  |.d y=>ownV i ρ1 fun _ _=>tb ρ1 fun r ρ2=>iK r fun j=>ownV i ρ2 fun a xs=>∃k,ixN xs.length j=some k∧post .nx (ρ2.set i (.own a (xs.set k y)))
  |_=>False,E,h,fun v H' r ρ' E' pp=>?_⟩
 cases r with
 | d y =>
  obtain⟨l,xs0,q0,pp⟩:=jn pp
  obtain⟨hσ,vs0,hl0,_⟩:=E'.tail.ownAt q0
  refine⟨.ref l,hσ,aZ H' ρ',ρ',_,E'.tail.wide,pp,fun w H2 r2 ρ2 E2 pp=>?_⟩
  obtain⟨j,rfl,pp⟩:=cf pp
  obtain⟨l',xs,q,k,hk,pp⟩:=jn pp
  obtain⟨_,e1,p1⟩:=E2.head_d
  cases e1
  cases p1
  have E3:REnv X.K Pr H2 (some (.int j)::some v::σ) (.d (.int j)::.d y::ρ2):=REnv.step (τ:=[some v]) (lam:=[.d y]) (w:=[some (.int j)]) (μ:=[.d (.int j)]) E' rfl E2 rfl
  obtain⟨_,e1,p1⟩:=E3.tail.head_d
  cases e1
  obtain⟨hσ',vs,hl,r⟩:=E3.tail.tail.ownAt q
  rw[hσ]at hσ'
  cases hσ'
  refine⟨l,vs,j,k,rfl,rfl,hl,by rw[r.length];exact hk,_,E3.tail.tail.updOwn q (r.set p1 k),pp⟩
 |_=>exact pp.elim
def rY:Option (W L)→Ev→(Option Int→Ev→Prop)→Prop
 |none=>fun ρ k=>k none ρ
 |some t=>fun ρ k=>t ρ fun r ρ1=>iK r fun i=>k (some i) ρ1
def cutD{α:Type}(xs:List α)(lo hi:Option Int):List α:=(xs.drop (HT.sIx xs.length 0 lo)).take (HT.sIx xs.length xs.length hi-HT.sIx xs.length 0 lo)
end
def a6:List Nat→Ev→Ev
 |[],ρ=>ρ
 |j::r,ρ=>(a6 r ρ).set j .un
def bQ(fi:List Nat)(ρ:Ev):Ev:=fi.map fun j=>(ρ[j]?).getD .un
def bF(fi:List Nat)(σ:St):St:=fi.map fun j=>(σ[j]?).getD none
def eW:List Nat→Ev→Ev→Ev
 |j::r,c::cs,ρ=>eW r cs (ρ.set j c)
 |_,_,ρ=>ρ
theorem dG:∀(fi:List Nat)(ρ:Ev),(a6 fi ρ).length=ρ.length
 |[],_=>rfl
 |j::r,ρ=>by unfold a6;rw[List.length_set,dG r ρ]
theorem nQ:∀(fi:List Nat)(ρ:Ev)(j:Nat),j∉fi→(a6 fi ρ)[j]?=ρ[j]?
 |[],_,_,_=>rfl
 | i::r,ρ,j,h=>by
  unfold a6
  rw[List.getElem?_set_ne (fun e=>h (by simp[e])),nQ r ρ j fun e=>h (List.mem_cons_of_mem _ e)]
theorem qE:∀(fi:List Nat)(ρ:Ev)(j:Nat),j∈fi→j<ρ.length→(a6 fi ρ)[j]?=some .un
 | i::r,ρ,j,h,hl=>by
  unfold a6
  by_cases e:i=j
  ·
   subst e
   rw[List.getElem?_set_self (by rw[dG];exact hl)]
  ·
   rw[List.getElem?_set_ne e]
   exact qE r ρ j ((List.mem_cons.mp h).resolve_left fun z=>e z.symm) hl
section
variable{K:PySem.W.Frag}{Pr H:Hp}{σ:St}{ρ:Ev}
theorem REnv.takeAt(E:REnv K Pr H σ ρ){i:Nat}{l:L}{s:Option V}(h:ρ[i]?=some l)(hs:σ[i]?=some s):REnv K Pr H (s::σ) (l::ρ.set i .un):=E.outL h hs
theorem REnv.takes(E:REnv K Pr H σ ρ):∀(fi:List Nat),fi.Nodup→(∀j∈fi,j<ρ.length)→REnv K Pr H (bF fi σ++σ) (bQ fi ρ++a6 fi ρ)
 |[],_,_=>E
 | j::r,nd,hl=>by
  have ih:=E.takes r (List.nodup_cons.mp nd).2 fun i hi=>hl i (List.mem_cons_of_mem _ hi)
  have hj:j<ρ.length:=hl j List.mem_cons_self
  have hjs:j<σ.length:=by rw[E.len];exact hj
  have e1:(bQ r ρ++a6 r ρ)[r.length+j]?=some ρ[j]:=by
   rw[List.getElem?_append_right (by simp[bQ])]
   simp only[bQ,List.length_map,Nat.add_sub_cancel_left]
   rw[nQ r ρ j (List.nodup_cons.mp nd).1]
   exact List.getElem?_eq_getElem hj
  have e2:(bF r σ++σ)[r.length+j]?=some σ[j]:=by
   rw[List.getElem?_append_right (by simp[bF])]
   simp only[bF,List.length_map,Nat.add_sub_cancel_left]
   exact List.getElem?_eq_getElem hjs
  have z:=ih.takeAt e1 e2
  rw[List.set_append_right _ _ (by simp[bQ])]at z
  simp only[bQ,List.length_map,Nat.add_sub_cancel_left]at z
  have c1:bF (j::r) σ=σ[j]::bF r σ:=by simp[bF,hjs]
  have c2:bQ (j::r) ρ=ρ[j]::bQ r ρ:=by simp[bQ,hj]
  rw[c1,c2]
  exact z
theorem REnv.backs:∀(fi:List Nat){cs ρ:Ev},fi.Nodup→cs.length=fi.length→(∀j∈fi,ρ[j]?=some .un)→(∀j∈fi,j<σ.length)→REnv K Pr H (bF fi σ++σ) (cs++ρ)→REnv K Pr H σ (eW fi cs ρ)
 |[],[],ρ,_,_,_,_,E=>E
 | j::r,c::cs,ρ,nd,hl,hu,hs,E=>by
  have hjs:j<σ.length:=hs j List.mem_cons_self
  have hj:=hu j List.mem_cons_self
  have c1:bF (j::r) σ=σ[j]::bF r σ:=by simp[bF,hjs]
  rw[c1]at E
  have hlr:cs.length=r.length:=by simpa using hl
  have z:=REnv.back (σ:=bF r σ++σ) (ρ:=cs++ρ) (l:=c) E (i:=r.length+j) (by
   rw[List.getElem?_append_right (by omega),hlr,Nat.add_sub_cancel_left];exact hj) (by
   rw[List.getElem?_append_right (by simp[bF])]
   simp only[bF,List.length_map,Nat.add_sub_cancel_left]
   exact List.getElem?_eq_getElem hjs)
  rw[List.set_append_right _ _ (by omega),hlr,Nat.add_sub_cancel_left]at z
  exact REnv.backs r (List.nodup_cons.mp nd).2 hlr (fun i hi=>by
   rw[List.getElem?_set_ne (fun e=>(List.nodup_cons.mp nd).1 (by rw[e];exact hi))];exact hu i (List.mem_cons_of_mem _ hi)) (fun i hi=>hs i (List.mem_cons_of_mem _ hi)) z
 |[],_::_,_,_,hl,_,_,_=>by simp at hl
 |_::_,[],_,_,hl,_,_,_=>by simp at hl
end
def clOf(cells:List (Str×Addr)):List (Str×NameKind)→List (Str×Addr)→List (Str×Addr)
 |[],acc=>acc
 |(n,k)::r,acc=>clOf cells r (if k == .free then(match cells.lookup n with|some c=>(n,c)::acc|none=>acc)else acc)
theorem jo{env:Env}:∀(names:List (Str×NameKind))(acc:List (Str×Addr)),(∀x∈names,x.2=.free→∃c,env.cells.lookup x.1=some c) →
  (forIn names acc fun (x:Str×NameKind) (cs:List (Str×Addr))=>(if x.2 == .free then do let c ← cellOf env x.1;pure (ForInStep.yield ((x.1,c)::cs))else pure (ForInStep.yield cs):Sem (ForInStep (List (Str×Addr)))))=pure (clOf env.cells names acc)
 |[],acc,_=>rfl
 | (n,k)::r,acc,h=>by
  rw[List.forIn_cons]
  by_cases hk:(k == NameKind.free)=true
  ·
   obtain⟨c,hc⟩:=h (n,k) List.mem_cons_self (by simpa using hk)
   have e:cellOf env n=pure c:=by unfold cellOf;rw[show env.cells.lookup n=some c from hc]
   simp only[hk,if_true,e,pure_bind,clOf,hc]
   exact jo r _ fun x hx=>h x (List.mem_cons_of_mem _ hx)
  ·
   simp only[hk,clOf,if_false,pure_bind]
   exact jo r _ fun x hx=>h x (List.mem_cons_of_mem _ hx)
theorem iQ{scope:Scope}{env:Env}(h:∀x∈scope.names,x.2=.free→∃c,env.cells.lookup x.1=some c):closureFor scope env=pure (clOf env.cells scope.names []):=by
 have:=jo (env:=env) scope.names [] h
 unfold closureFor
 simp only[bind_pure_comp]at this ⊢
 rw[this]
 rfl
theorem qF{cells:List (Str×Addr)}:∀(names:List (Str×NameKind))(acc:List (Str×Addr)),(∀x c,acc.lookup x=some c→cells.lookup x=some c)→∀x c,(clOf cells names acc).lookup x=some c→cells.lookup x=some c
 |[],acc,h,x,c,e=>h x c e
 | (n,k)::r,acc,h,x,c,e=>by
  unfold clOf at e
  refine qF r _ (fun y d ey=>?_) x c e
  split at ey
  ·
   split at ey
   ·
    rename_i q
    rw[List.lookup_cons]at ey
    split at ey
    ·
     rename_i e2
     have:y=n:=by simpa using e2
     cases ey
     rw[this];exact q
    ·
     exact h y d ey
   ·
    exact h y d ey
  ·
   exact h y d ey
theorem ko{n:Str}{c:Addr}{acc:List (Str×Addr)}{x:Str}(h:∃d,acc.lookup x=some d):∃d,((n,c)::acc).lookup x=some d:=by
 rw[List.lookup_cons]
 split
 ·
  exact⟨_,rfl⟩
 ·
  exact h
theorem mN{cells:List (Str×Addr)}:∀(names:List (Str×NameKind))(acc:List (Str×Addr))(x:Str),((∃d,acc.lookup x=some d)∨((x,NameKind.free)∈names∧∃c,cells.lookup x=some c))→∃d,(clOf cells names acc).lookup x=some d
 | [],acc,x,h=>by
  rcases h with h|⟨h,_⟩
  ·
   exact h
  ·
   simp at h
 | (n,k)::r,acc,x,h=>by
  unfold clOf
  refine mN r _ x ?_
  rcases h with h|⟨hm,c,hc⟩
  ·
   left
   split
   ·
    split
    ·
     exact ko h
    ·
     exact h
   ·
    exact h
  ·
   rcases List.mem_cons.mp hm with e|hm
   ·
    cases e
    left
    simp only[hc,beq_self_eq_true,if_true]
    exact⟨c,by simp[List.lookup_cons]⟩
   ·
    exact .inr ⟨hm,c,hc⟩
def fQ(X:Cx)(scope:Scope)(cl:List (Str×Addr))(Nb:List Str)(s₀:Shared)(H₀:Hp)(fp:List Addr):Cx :=
 {X with N:=Nb,s₀:=s₀,H₀:=H₀,env:=compEnvC scope cl s₀.heap.objs.size X.env,outer:=X.stack,stack:=X.stack,ex:=fp,fn:=fun _=>false,pn:=[],xe:=fun _ _=>False}
theorem gY{α β:Type}{F:α→β→Prop}:∀{a:List α}{b:List β},Paired F a b↔a.length=b.length∧∀p∈a.zip b,F p.1 p.2
 |[],[]=>⟨fun _=>⟨rfl,fun _ h=>by simp at h⟩,fun _=>.nil⟩
 |[],_::_=>⟨(fun h=>nomatch h),fun h=>by simp at h⟩
 |_::_,[]=>⟨(fun h=>nomatch h),fun h=>by simp at h⟩
 | x::a,y::b=>by
  constructor
  ·
   intro h
   cases h with
   | cons r t =>
    obtain⟨h1,h2⟩:=gY.mp t
    exact⟨by simp[h1],fun p hp=>by
     rw[List.zip_cons_cons]at hp
     rcases List.mem_cons.mp hp with rfl|hp
     ·
      exact r
     ·
      exact h2 p hp⟩
  ·
   rintro⟨hl,h⟩
   exact .cons (h (x,y) (by simp)) (gY.mpr ⟨by simpa using hl,fun p hp=>h p (by rw[List.zip_cons_cons];exact List.mem_cons_of_mem _ hp)⟩)
theorem mO:∀{σ:St}{ρ:Ev},σ.length=ρ.length→(σ.zip ρ).map (·.2)=ρ
 |[],[],_=>rfl
 | _::σ,l::ρ,h=>by
  have ih:=mO (σ:=σ) (ρ:=ρ) (by simpa using h)
  rw[List.zip_cons_cons,List.map_cons,ih]
 |[],_::_,h=>by simp at h
 |_::_,[],h=>by simp at h
theorem REnv.rearr{K:PySem.W.Frag}{Pr H:Hp}{σ σ2:St}{ρ ρ2:Ev}(E:REnv K Pr H σ ρ)(hl:σ2.length=ρ2.length)(extra:List (Option V×L))(h:(σ.zip ρ).Perm (σ2.zip ρ2++extra)):REnv K Pr H σ2 ρ2:=by
 have pm:(owns ρ).Perm (owns ρ2++owns (extra.map (·.2))):=by
  have q:=iJ (h.map (·.2))
  rw[List.map_append,mO E.len,mO hl,ar]at q
  exact q
 refine⟨E.sub,(List.nodup_append.mp (pm.nodup_iff.mp E.nd)).1,fun a ha=>E.off a (pm.mem_iff.mpr (List.mem_append_left _ ha)),gY.mpr ⟨hl,fun p hp=>?_⟩⟩
 exact(gY.mp E.sl).2 p (h.mem_iff.mpr (List.mem_append_left _ hp))
theorem nR{fi:List Nat}{σ τ:St}(h:∀j∈fi,j<σ.length):bF fi (σ++τ)=bF fi σ:=by
 unfold bF
 refine List.map_congr_left fun j hj=>?_
 rw[List.getElem?_append_left (h j hj)]
theorem rZ{fi:List Nat}{σ τ:Ev}(h:∀j∈fi,j<σ.length):bQ fi (σ++τ)=bQ fi σ:=by
 unfold bQ
 refine List.map_congr_left fun j hj=>?_
 rw[List.getElem?_append_left (h j hj)]
theorem nS{τ:Ev}:∀{fi:List Nat}{ρ:Ev},(∀j∈fi,j<ρ.length)→a6 fi (ρ++τ)=a6 fi ρ++τ
 |[],_,_=>rfl
 | j::r,ρ,h=>by
  unfold a6
  rw[nS fun i hi=>h i (List.mem_cons_of_mem _ hi),List.set_append_left _ _ (by rw[dG];exact h j List.mem_cons_self)]
theorem l7{τ:Ev}:∀{fi:List Nat}{cs ρ:Ev},(∀j∈fi,j<ρ.length)→eW fi cs (ρ++τ)=eW fi cs ρ++τ
 |[],[],_,_=>rfl
 |[],_::_,_,_=>rfl
 |_::_,[],_,_=>rfl
 | j::r,c::cs,ρ,h=>by
  unfold eW
  rw[List.set_append_left _ _ (h j List.mem_cons_self)]
  exact l7 fun i hi=>by rw[List.length_set];exact h i (List.mem_cons_of_mem _ hi)
theorem dH{env:Env}:∀{names:List (Str×NameKind)}{x:Str},names.lookup x=some .free →
  (names.map fun (n,k)=>if(k == NameKind.free && env.scope.kind == .function && env.kindOf n == some .cell)then(n,NameKind.cell)else(n,k)).lookup x=some .cell ∨
  (names.map fun (n,k)=>if(k == NameKind.free && env.scope.kind == .function && env.kindOf n == some .cell)then(n,NameKind.cell)else(n,k)).lookup x=some .free
 |[],_,h=>by simp at h
 | (n,k)::r,x,h=>by
  have ih:=@dH env r x
  rw[List.map_cons]
  cases hx:x == n with
  | true =>
   simp only[List.lookup_cons,hx]at h
   cases h
   dsimp only
   by_cases hc:(NameKind.free == NameKind.free && env.scope.kind == .function && env.kindOf n == some .cell)=true
   ·
    left;rw[if_pos hc];simp[List.lookup_cons,hx]
   ·
    right;rw[if_neg hc];simp[List.lookup_cons,hx]
  | false =>
   simp only[List.lookup_cons,hx]at h
   dsimp only
   by_cases hc:(k == NameKind.free && env.scope.kind == .function && env.kindOf n == some .cell)=true
   ·
    rw[if_pos hc];simp only[List.lookup_cons,hx];exact ih h
   ·
    rw[if_neg hc];simp only[List.lookup_cons,hx];exact ih h
theorem fv{env:Env}:∀{names:List (Str×NameKind)}{x:Str}{k:NameKind},(∀y∈names,y.2≠.cell)→(k=.cell∨k=.free) →
  (names.map fun (n,k)=>if(k == NameKind.free && env.scope.kind == .function && env.kindOf n == some .cell)then(n,NameKind.cell)else(n,k)).lookup x=some k→(x,NameKind.free)∈names
 |[],_,_,_,_,h=>by simp at h
 | (n,k0)::r,x,k,hc,hk,h=>by
  rw[List.map_cons]at h
  dsimp only at h
  by_cases q:(k0 == NameKind.free && env.scope.kind == .function && env.kindOf n == some .cell)=true
  ·
   rw[if_pos q,List.lookup_cons]at h
   have e0:k0=.free:=by
    have:=(Bool.and_eq_true_iff.mp (Bool.and_eq_true_iff.mp q).1).1
    simpa using this
   split at h
   ·
    rename_i e
    have:x=n:=by simpa using e
    subst this e0
    exact List.mem_cons_self
   ·
    exact List.mem_cons_of_mem _ (fv (fun y hy=>hc y (List.mem_cons_of_mem _ hy)) hk h)
  ·
   rw[if_neg q,List.lookup_cons]at h
   split at h
   ·
    rename_i e
    have:x=n:=by simpa using e
    subst this
    have e1:k0=k:=by simpa using h
    subst e1
    rcases hk with z|z
    ·
     exact absurd z (hc (x,k0) List.mem_cons_self)
    ·
     subst z;exact List.mem_cons_self
   ·
    exact List.mem_cons_of_mem _ (fv (fun y hy=>hc y (List.mem_cons_of_mem _ hy)) hk h)
section
variable{prog:Program}{w:World}{A:Around}{R:Result→Shared→Prop}
theorem uk{elt target iter:Expr}{ifs:List Expr}{scope:Scope}{pos:Pos}{it acc:Value}{env:Env}(I:Nat→Shared→Prop)
  (turn:∀n s,I n s→wpAny (model prog w) A (pyNext it) (fun r s₁=>match r with
   |none=>R (.ok .next) s₁
   | some v=>wpAny (model prog w) A (letOwnedTupleGo target it v) (fun _ s₀=>wpAny (model prog w) A (assign target env v) (fun _ s₂ =>
     wpAny (model prog w) A (forIn ifs true fun c r=>if r=true then do let ok ← isTrue c env (eval c env);pure (ForInStep.yield ok)else pure (ForInStep.yield r)) (fun ok s₃ =>
      if ok=true then wpAny (model prog w) A (eval elt env) (fun x s₄ =>
       wpAny (model prog w) A (call (.builtin "list.append") [acc,x]) (fun _ s₅=>∃ m,m < n∧I m s₅) (fun _ _=>False) s₄) (fun _ _=>False) s₃
      else ∃m,m<n∧I m s₃) (fun _ _=>False) s₂) (fun _ _=>False) s₀) (fun _ _=>False) s₁) (fun _ _=>False) s)
  (n:Nat) {s:Shared} (h:I n s) :
  codeAny (model prog w) A (.compLoop (.ListComp elt [⟨target,iter,ifs,0⟩] scope pos) 0 it acc env) R s:=by
 refine codeAny_loop rfl I (fun n s hI=>?_) n h
 show wpAny _ A ((compTurn (.ListComp elt [⟨target,iter,ifs,0⟩] scope pos) 0 it acc env).onRaise (fun x=>do noteFrame x env;theTreesLotGoes x)) _ _ s
 refine wpAny_noted ?_
 rw[compTurn_list]
 have fe:∀{α:Type}{t:Sem α}{Q:α→Shared→Prop}{E:Value→Shared→Prop}{s:Shared},wpAny (model prog w) A t Q (fun _ _=>False) s→wpAny (model prog w) A t Q E s:=fun h=>wpAny_mono h (fun _ _ q=>q) fun _ _ z=>z.elim
 refine wpAny_bind (wpAny_standAt (wpAny_bind (wpAny_mono (turn n s hI) (fun r s₁ h₁=>?_) fun _ _ h'=>h'.elim)))
 cases r with
 |none=>exact wpAny_pure h₁
 | some v =>
  refine wpAny_bind (wpAny_mono h₁ (fun _ s₀ h₀=>?_) fun _ _ z=>z.elim)
  refine wpAny_bind (wpAny_mono h₀ (fun _ s₂ h₂=>wpAny_bind (wpAny_mono h₂ (fun ok s₃ h₃=>?_) fun _ _ h'=>h'.elim)) fun _ _ h'=>h'.elim)
  cases ok with
  |false=>exact wpAny_pure ⟨rfl,h₃⟩
  | true =>
   exact wpAny_bind (wpAny_bind (wpAny_mono h₃ (fun x s₄ h₄=>wpAny_bind (wpAny_mono h₄ (fun _ s₅ h₅=>wpAny_pure (wpAny_pure ⟨rfl,h₅⟩)) fun _ _ h'=>h'.elim)) fun _ _ h'=>h'.elim))
end
def PTc(X:Cx)(tg:Expr)(n:Nat)(g:Tg):Prop:=∃gg:TG,PG X tg gg∧∀v σ H Pr ρ x k,σ.length=X.N.length→REnv X.K Pr H σ ρ→Rep X.K H v x→g x ρ k→gg v σ H fun σ' H'=>H'=H∧σ'.drop n=σ.drop n∧∃ρ',REnv X.K Pr H σ' ρ'∧k ρ'
theorem pj{X:Cx}{i n:Nat}{x:Str}{pos:Pos}(hn:i<n)(hN:X.N.Nodup)(hi:X.N[i]?=some x)(hx:Loc X.env.scope x)(hf:X.fn x=true∨X.env.scope.names.lookup x=some .local:=by first|exact .inl rfl|exact .inr rfl|assumption):PTc X (.Name x pos) n (cb i) :=
 ⟨_,oV hN hi hx hf,fun v σ H Pr ρ x k hl E r h=>⟨rfl,by rw[List.drop_set_of_lt hn],_,(E.cons_d r).store (by rw[hl];exact(List.getElem?_eq_some_iff.mp hi).1),h⟩⟩
def PIf(X:Cx)(ifs:List Expr)(t:W Bool):Prop :=
 ∀(pins:List (Addr×Obj))(s:Shared)(σ:St)(H Pr:Hp)(ρ:Ev)(post:Bool→Ev→Prop),Inv X pins σ H s→REnv X.K Pr H σ ρ→t ρ post →
  wpAny (model X.prog X.w) X.A (forIn ifs true fun c r=>if r=true then do let ok ← isTrue c X.env (eval c X.env);pure (ForInStep.yield ok)else pure (ForInStep.yield r)) (EB X pins σ Pr post) X.xe s
def r6:W Bool:=fun ρ post=>post true ρ
theorem um{X:Cx}:PIf X [] r6:=fun pins s σ H Pr ρ post I E h=>wpAny_tests_nil ⟨H,ρ,I,E,h⟩
theorem yH{X:Cx}{c:Expr}{t:W Bool}(h:PB X c t):PIf X [c] t:=fun pins s σ H Pr ρ post I E ht=>wpAny_tests_one (h pins s σ H Pr ρ post I E ht)
def gn(g:Tg)(ti:W Bool)(te:W L):List D→Ev→List D→(List D→Ev→Prop)→Prop
 |[],ρ,acc,k=>k acc ρ
 |x::xs,ρ,acc,k=>g x ρ fun ρ1=>ti ρ1 fun b ρ2=>if b=true then te ρ2 fun r ρ3=>toD r fun y=>gn g ti te xs ρ3 (acc++[y]) k else gn g ti te xs ρ2 acc k
def nT(n:Nat)(fi:List Nat)(src:W (List D))(g:Tg)(ti:W Bool)(te:W L):W L:=fun ρ post=>src ρ fun xs ρ1=>xs.length≤sizeLine ∧
 gn g ti te xs (List.replicate n .un++bQ fi ρ1) [] fun ys ρb=>∀a,post (.own a ys) (eW fi (ρb.drop n) (a6 fi ρ1))
section
variable{X:Cx}
theorem nU{elt tg iter:Expr}{ifs:List Expr}{scope sc:Scope}{pos:Pos}{N Nt Nf:List Str}{fi:List Nat}{src:W (List D)}{g:Tg}{ti:W Bool}{te:W L}
  (hsc:X.env.scope=sc) (hXN:X.N=N) (hc:X.calm=true) (hi:PIL X tg iter src)
  (hkind:scope.kind=.function) (hnames:∀x∈scope.names,x.2=.local→scope.names.lookup x.1=some .local) (hcell:∀y∈scope.names,y.2≠.cell)
  (hfr:∀x∈scope.names,x.2=.free→sc.names.lookup x.1=some .cell∨sc.names.lookup x.1=some .free)
  (hnd:fi.Nodup) (hNf:Nf.map some=fi.map (fun j=>N[j]?)) (hNk:∀x∈Nf,scope.names.lookup x=some .free) (hfl:∀j∈fi,j<N.length)
  (hg:∀cl s₀ H₀ fp,PTc (fQ X scope cl (Nt++Nf) s₀ H₀ fp) tg Nt.length g) (hti:∀cl s₀ H₀ fp,PIf (fQ X scope cl (Nt++Nf) s₀ H₀ fp) ifs ti) (hte:∀cl s₀ H₀ fp,PL (fQ X scope cl (Nt++Nf) s₀ H₀ fp) elt te)
  {pins:List (Addr×Obj)} {s:Shared} {σ:St} {H Pr:Hp} {ρ:Ev} {post:L→Ev→Prop} {use:Option (Value→Sem Unit)} {Q:Value→Shared→Prop} (I:Inv X pins σ H s) (E:REnv X.K Pr H σ ρ) (h:nT Nt.length fi src g ti te ρ post)
  (hRR:∀D C s7 H6 acc ρ'' m,Inv X pins σ H6 s7→s7.heap.Ns C m→H6 C=none→C≠X.env.locals→X.s₀.heap.objs.size≤C→(∀x c,X.env.cells.lookup x=some c→c≠C)→(∀p∈X.pn++pins,p.1≠C)→REnv X.K Pr H6 (some (.ref D)::σ) (.own D acc::ρ'')→post (.own D acc) ρ'' →
   compPost (model X.prog X.w) X.A X.xe use Q (.ref D) C (.ok .next) s7)
  (hs:∀x,foldedSetIterable iter X.env x=pure x):wpAny (model X.prog X.w) X.A (comprehension (.ListComp elt [⟨tg,iter,ifs,0⟩] scope pos) scope X.env (firstIterPos [⟨tg,iter,ifs,0⟩] pos) (newList []) false (eval iter X.env) use) Q X.xe s:=by
 have hcells:∀x∈scope.names,x.2=.free→∃c,X.env.cells.lookup x.1=some c:=fun x hx hk=>I.ok.has x.1 (by
  show X.env.scope.names.lookup x.1=_∨X.env.scope.names.lookup x.1=_
  rw[hsc];exact hfr x hx hk)
 have hsub:=qF (cells:=X.env.cells) scope.names [] (fun x c e=>by simp at e)
 refine wpAny_comprehension_free (use:=use) rfl hs (iQ hcells) hkind hnames (thn (hi pins s σ H Pr ρ _ I E h) fun v s1 h1=>thn h1 fun itv s2 h2=>?_)
 obtain⟨it,fp,tn,J,H2,xs,ρ2,e,I2,T,st2,f2,E2,G,hlen,w0⟩:=h2
 subst e
 refine wpAny_newObj_type (T:="list") ?_
 generalize hD:s2.heap.objs.size=D
 have fD:H2 D=none:=by rw[← hD];exact I2.fresh
 have I3:Inv X pins σ (upd H2 D (.lst [])) {s2 with heap:=s2.heap.push {cls:=.type "list",dict:=none,data:=.seq ([]:List Value).toArray} }:=by
  have:=Inv.lnew (ys:=[]) (its:=[]) (t':=s2.toks) I2 .nil (Nat.zero_le _)
  rw[hD]at this
  exact this
 have E3:=E2.cons_own (p:=D) (vs:=[]) (xs:=[]) fD .nil
 have sz3:(s2.heap.push {cls:=.type "list",dict:=none,data:=.seq ([]:List Value).toArray}).objs.size=D+1:=by rw[Heap.size_push,hD]
 generalize hs3:({s2 with heap:=s2.heap.push {cls:=.type "list",dict:=none,data:=.seq ([]:List Value).toArray} }:Shared)=s3 at I3
 have hs3h:s3.heap=s2.heap.push {cls:=.type "list",dict:=none,data:=.seq ([]:List Value).toArray}:=by rw[← hs3]
 have fpD:∀b∈fp,b≠D:=fun b hb=>by
  obtain⟨o,e,_⟩:=T.obj 0 _ st2 b hb
  rw[← hD];exact Nat.ne_of_lt (Heap.lt_size e)
 have old3:∀b o,s2.heap.get? b=some o→s3.heap.get? b=some o:=fun b o e=>by rw[hs3h];exact Heap.get?_push_of_some _ e
 refine wpAny_newFunctionEnv (around:=some X.env) hcell (by intro y hy;simp at hy) (fun h4 hns4 hsb4=>?_) hkind
 have hns4':h4.Ns s3.heap.objs.size (fun _=>none):=by
  have:(fun x=>(([]:List (Str×Value)).reverse.lookup x))=fun _=>(none:Option Value):=by funext x;rfl
  rw[this]at hns4
  exact hns4
 have old4:∀b o,s3.heap.get? b=some o→h4.get? b=some o:=fun b o e=>by
  rw[hsb4.2 b (Nat.ne_of_lt (Heap.lt_size e))];exact Heap.get?_push_of_some _ e
 have hσl:σ.length=N.length:=by rw[← hXN];exact I.len
 have hρ2:σ.length=ρ2.length:=E2.len
 have hjσ:∀j∈fi,j<σ.length:=fun j hj=>by rw[hσl];exact hfl j hj
 have hjρ:∀j∈fi,j<ρ2.length:=fun j hj=>by rw[← hρ2];exact hjσ j hj
 have hfpl:∀b∈fp,b<s3.heap.objs.size:=fun b hb=>by
  obtain⟨o,e,_⟩:=T.obj 0 _ st2 b hb
  exact Heap.lt_size (old3 b o e)
 have hlNf:Nf.length=fi.length:=by have:=congrArg List.length hNf;simpa using this
 have Bok:(fQ X scope (clOf X.env.cells scope.names []) (Nt++Nf) s3 (upd H2 D (.lst [])) fp).Ok:=by
  refine⟨I3.ok.mod,hkind,I.ok.glob,I.ok.blt,Nat.le_refl _,fun x y c e1 e2=>I.ok.inj x y c (hsub x c e1) (hsub y c e2),fun x hx=>?_,fun x c hf _=>(Bool.false_ne_true hf).elim,I.ok.hd,I.ok.frames,.inl rfl,fun b hb=>⟨Nat.ne_of_lt (hfpl b hb),fun x c e=>(f2 b hb).2.2.2.2.1 x c (hsub x c e)⟩,I3.bs,Nat.le_trans I.ok.bsz I3.sz,fun b o e hb=>?_,fun b hb hm=>?_,I3.stack,I3.stkFree,I3.tbs⟩
  ·
   have hm:(x,NameKind.free)∈scope.names:=by
    rcases hx with hx|hx
    ·
     exact fv (env:=X.env) hcell (.inl rfl) hx
    ·
     exact fv (env:=X.env) hcell (.inr rfl) hx
   exact mN scope.names [] x (.inr ⟨hm,hcells _ hm rfl⟩)
  ·
   rcases(f2 b hb).2.2.2.1 with z|z
   ·
    exact I.ok.noex b o e z
   ·
    exact absurd (Nat.lt_of_lt_of_le (Heap.lt_size (I.ok.bs b o e).1) z) (Nat.lt_irrefl _)
  ·
   rcases List.mem_cons.mp (I3.stkSub b hm)with z|z
   ·
    exact(f2 b hb).2.1 z
   ·
    exact(f2 b hb).2.2.1 z
 have I4:Inv (fQ X scope (clOf X.env.cells scope.names []) (Nt++Nf) s3 (upd H2 D (.lst [])) fp) [] (List.replicate Nt.length none++bF fi σ) (upd H2 D (.lst [])) {s3 with heap:=h4,toks:=s3.toks+([]:List (Str×Value)).length}:=by
  refine⟨Bok,rfl,I3.bare,Un.kept old4,⟨_,hns4',fun i x v e1 e2 e3=>?_⟩,fun x c e=>?_,I3.fresh,fun x c e=>(I3.freeC x c (hsub x c e)).imp id fun z=>⟨rfl,z.2⟩,fun p hp=>absurd (show p∈([]:List (Addr×Obj))from hp) (by simp),I3.hok.kept old4,?_⟩
  ·
   have e1:(Nt++Nf)[i]?=some x:=e1
   have hi':Nt.length≤i:=by
    by_cases q:i<Nt.length
    ·
     rw[List.getElem?_append_left (by simpa using q),List.getElem?_replicate]at e2
     split at e2<;>cases e2
    ·
     omega
   rw[List.getElem?_append_right hi']at e1
   rw[List.getElem?_append_right (by simpa using hi')]at e2
   simp only[List.length_replicate]at e2
   generalize i-Nt.length=k at e1 e2
   have hk:k<fi.length:=by
    have:=(List.getElem?_eq_some_iff.mp e1).1
    omega
   have e4:(Nf.map some)[k]?=(fi.map fun j=>N[j]?)[k]?:=by rw[hNf]
   rw[List.getElem?_map,List.getElem?_map,e1,List.getElem?_eq_getElem hk]at e4
   have e5:N[fi[k]]?=some x:=by simpa using e4.symm
   have e6:σ[fi[k]]?=some (some v):=by
    unfold bF at e2
    rw[List.getElem?_map,List.getElem?_eq_getElem hk]at e2
    have hjl:=hjσ fi[k] (List.getElem_mem hk)
    rw[List.getElem?_eq_getElem hjl]
    simpa[List.getElem?_eq_getElem hjl]using e2
   have hxm:x∈Nf:=List.mem_of_getElem? e1
   have hfree:=hNk x hxm
   have hmem:(x,NameKind.free)∈scope.names:=PySem.mem_of_lookup hfree
   have hkx:=hfr _ hmem rfl
   obtain⟨m,_,hl⟩:=I3.loc
   obtain⟨u,ru,lk⟩:=hl fi[k] x v (by rw[hXN];exact e5) e6 (by rw[hsc];exact .inr hkx)
   refine⟨u,ru,.inr ⟨dH (env:=X.env) hfree,?_⟩⟩
   rcases lk with⟨z,_⟩|⟨_,c,hc1,hc2⟩
   ·
    have z:X.env.scope.names.lookup x=some .local:=z
    rw[hsc]at z
    rcases hkx with q|q
    ·
     rw[z]at q;cases q
    ·
     rw[z]at q;cases q
   ·
    obtain⟨d,hd⟩:=mN (cells:=X.env.cells) scope.names [] x (.inr ⟨hmem,c,hc1⟩)
    have:d=c:=by have:=hsub x d hd;rw[hc1]at this;exact(Option.some.inj this).symm
    subst this
    obtain⟨o,ho,hdd⟩:=hc2
    exact⟨d,hd,o,old4 _ o ho,hdd⟩
  ·
   obtain⟨v,o,ho,hd⟩:=I3.cell x c (hsub x c e)
   exact⟨v,o,old4 c o ho,hd⟩
  ·
   show(List.replicate Nt.length none++bF fi σ).length=(Nt++Nf).length
   simp[bF,hlNf]
 have E4:REnv X.K Pr (upd H2 D (.lst [])) (some (.ref D)::(σ++(List.replicate Nt.length none++bF fi σ))) (.own D []::(a6 fi ρ2++(List.replicate Nt.length .un++bQ fi ρ2))):=by
  have a1:REnv X.K Pr (upd H2 D (.lst [])) (σ++[some (.ref D)]) (ρ2++[.own D []]):=E3.rearr (by simp[hρ2]) [] (by
   rw[List.append_nil,List.zip_append hρ2]
   exact(List.perm_append_comm (l₁:=[(some (V.ref D),L.own D [])]) (l₂:=σ.zip ρ2)))
  have a2:=a1.takes fi hnd fun j hj=>by have:=hjρ j hj;simp;omega
  rw[nR hjσ,rZ hjρ,nS hjρ]at a2
  have a3:=a2.uns Nt.length
  have hcl:(bF fi σ).length=(bQ fi ρ2).length:=by simp[bF,bQ]
  have hul:σ.length=(a6 fi ρ2).length:=by rw[dG];exact hρ2
  refine a3.rearr (by simp[hul,hcl]) [] ?_
  have l1:(bF fi σ++(σ++[some (V.ref D)])++List.replicate Nt.length none).zip (bQ fi ρ2++(a6 fi ρ2++[L.own D []])++List.replicate Nt.length L.un)=((bF fi σ).zip (bQ fi ρ2)++(σ.zip (a6 fi ρ2)++[(some (V.ref D),L.own D [])]))++(List.replicate Nt.length none).zip (List.replicate Nt.length L.un):=by
   rw[List.zip_append (by simp only[List.length_append,hcl,hul];rfl),List.zip_append hcl,List.zip_append hul]
   rfl
  have l2:(some (V.ref D)::(σ++(List.replicate Nt.length none++bF fi σ))).zip (L.own D []::(a6 fi ρ2++(List.replicate Nt.length L.un++bQ fi ρ2)))=(some (V.ref D),L.own D [])::(σ.zip (a6 fi ρ2)++((List.replicate Nt.length none).zip (List.replicate Nt.length L.un)++(bF fi σ).zip (bQ fi ρ2))):=by
   rw[List.zip_cons_cons,List.zip_append hul,List.zip_append (by simp)]
  rw[List.append_nil,l1,l2]
  generalize (bF fi σ).zip (bQ fi ρ2)=z1
  generalize σ.zip (a6 fi ρ2)=z2
  generalize (List.replicate Nt.length none).zip (List.replicate Nt.length L.un)=z3
  show(z1++(z2++[(some (V.ref D),L.own D [])])++z3).Perm ((some (V.ref D),L.own D [])::(z2++(z3++z1)))
  have p1:(z1++(z2++[(some (V.ref D),L.own D [])])++z3).Perm ((z2++[(some (V.ref D),L.own D [])])++z3++z1):=by
   rw[List.append_assoc]
   exact List.perm_append_comm
  refine p1.trans ?_
  rw[List.append_assoc,List.append_assoc]
  exact List.perm_middle
 clear E3
 let B:Cx:=fQ X scope (clOf X.env.cells scope.names []) (Nt++Nf) s3 (upd H2 D (.lst [])) fp
 have hul:σ.length=(a6 fi ρ2).length:=by rw[dG];exact hρ2
 have stat:∀{H':Hp},(∀b∈fp,H' b=none)→∀b∈fp,FpOk B [] H' b:=fun hn b hb=>by
  refine⟨hn b hb,Nat.ne_of_lt (hfpl b hb),fun hm=>?_,.inl hb,fun x c e=>(f2 b hb).2.2.2.2.1 x c (hsub x c e),fun p hp=>absurd (show p∈([]:List (Addr×Obj))from hp) (by simp)⟩
  rcases List.mem_cons.mp (I3.stkSub b hm)with z|z
  ·
   exact(f2 b hb).2.1 z
  ·
   exact(f2 b hb).2.2.1 z
 have loop:∀s5:Shared,s5={s3 with heap:=h4,toks:=s3.toks+([]:List (Str×Value)).length}→codeAny (model X.prog X.w) X.A (.compLoop (.ListComp elt [⟨tg,iter,ifs,0⟩] scope pos) 0 (.ref it) (.ref D) B.env)
   (compPost (model X.prog X.w) X.A X.xe use Q (.ref D) s3.heap.objs.size) s5:=by
  rintro s5 rfl
  refine uk (fun n s'=>∃i σ' H' ρ' acc,n+i=xs.length∧Inv B [] σ' H' s'∧tn i s'.heap∧(∀b∈fp,H' b=none)∧σ'.drop Nt.length=bF fi σ∧REnv X.K Pr H' (some (.ref D)::(σ++σ')) (.own D acc::(a6 fi ρ2++ρ'))∧acc.length≤i ∧
   gn g ti te (xs.drop i) ρ' acc fun ys ρb=>∀a,post (.own a ys) (eW fi (ρb.drop Nt.length) (a6 fi ρ2))) ?_ xs.length
   ⟨0,_,_,_,[],by omega,I4,T.keep 0 _ _ st2 fun b hb o e=>old4 b o (old3 b o e),fun b hb=>by rw[aj (fpD b hb)];exact(f2 b hb).1,by simp,E4,Nat.le_refl _,by simpa using w0⟩
  rintro n s6 ⟨i,σ6,H6,ρ6,acc,hn,I6,st6,fr6,dr6,E6,hal,w6⟩
  have pr:Pres H2 H6:=fun b o p e=>by
   have ne:b≠D:=fun z=>by rw[z,fD]at e;cases e
   have e':B.H₀ b=some o:=by show upd H2 D (.lst []) b=some o;rw[aj ne];exact e
   cases o with
   |tup ys=>exact I6.base.tups b ys e'
   |frz ob u=>exact I6.base.frzs b ob u e'
   |tbl t=>exact I6.base.tbls b t e'
   |_=>exact p.elim
  obtain⟨go,stop⟩:=G H6 pr
  have hτ:(some (V.ref D)::σ).length=(L.own D acc::a6 fi ρ2).length:=by simp[hul]
  by_cases hlt:i<xs.length
  ·
   obtain⟨hgo,hy⟩:=go i xs[i] (List.getElem?_eq_getElem hlt)
   rw[List.drop_eq_getElem_cons hlt]at w6
   refine thn (T.item B rfl rfl rfl hc i [] s6 σ6 H6 (fun _ _=>False) I6 (stat fr6) st6 hgo) fun r s7 ⟨u,hr,h7⟩=>?_
   subst hr
   refine thn h7 fun _ s8 ⟨x,H8,I8,r8,y8,st8,fr8⟩=>?_
   obtain⟨gr,rx⟩:=hy x H8 y8
   have I8':=I8.pinned (stat fr8) (T.obj _ _ st8)
   have E8:=E6.grown gr
   have E8a:REnv X.K (aZ H8 ρ6) H8 σ6 ρ6:=(REnv.drop (τ:=some (V.ref D)::σ) (lam:=L.own D acc::a6 fi ρ2) E8 hτ).wide
   obtain⟨gg,hgg,hgs⟩:=hg (clOf X.env.cells scope.names []) s3 (upd H2 D (.lst [])) fp
   refine thn (hgg _ s8 σ6 H8 x u _ I8' r8 (hgs x σ6 H8 _ ρ6 xs[i] _ I8.len E8a rx w6)) fun _ s9 ⟨σ9,H9,I9,e9,dr9,ρ9,E9,q9⟩=>?_
   subst e9
   have F9:REnv X.K Pr H9 (some (V.ref D)::(σ++σ9)) (L.own D acc::(a6 fi ρ2++ρ9)):=REnv.step (τ:=some (V.ref D)::σ) (lam:=L.own D acc::a6 fi ρ2) (w:=[]) (μ:=[]) E8 hτ E9 rfl
   have F9a:REnv X.K (aZ H9 ρ9) H9 σ9 ρ9:=(REnv.drop (τ:=some (V.ref D)::σ) (lam:=L.own D acc::a6 fi ρ2) F9 hτ).wide
   refine thn (hti _ _ _ _ _ s9 σ9 H9 _ ρ9 _ I9 F9a q9) fun ok sA ⟨HA,ρA,IA,EA,qA⟩=>?_
   have FA:REnv X.K Pr HA (some (V.ref D)::(σ++σ9)) (L.own D acc::(a6 fi ρ2++ρA)):=REnv.step (τ:=some (V.ref D)::σ) (lam:=L.own D acc::a6 fi ρ2) (w:=[]) (μ:=[]) F9 hτ EA rfl
   have again:∀{sZ:Shared}{HZ:Hp}{ρZ:Ev}{acc':List L2.D},Inv B ([]++nq fp s8.heap) σ9 HZ sZ→REnv X.K Pr HZ (some (.ref D)::(σ++σ9)) (.own D acc'::(a6 fi ρ2++ρZ))→acc'.length≤i+1 →
     (gn g ti te (xs.drop (i+1)) ρZ acc' fun ys ρb=>∀a,post (.own a ys) (eW fi (ρb.drop Nt.length) (a6 fi ρ2)))→∃m,m<n∧∃i σ' H' ρ' acc,m+i=xs.length∧Inv B [] σ' H' sZ∧tn i sZ.heap∧(∀b∈fp,H' b=none)∧σ'.drop Nt.length=bF fi σ ∧
     REnv X.K Pr H' (some (.ref D)::(σ++σ')) (.own D acc::(a6 fi ρ2++ρ'))∧acc.length≤i∧gn g ti te (xs.drop i) ρ' acc fun ys ρb=>∀a,post (.own a ys) (eW fi (ρb.drop Nt.length) (a6 fi ρ2)):=fun {sZ HZ ρZ acc'} IZ EZ hz qZ=>by
    refine⟨n-1,by omega,i+1,σ9,HZ,ρZ,acc',by omega,IZ.unpinned,T.keep _ _ _ st8 fun b hb o e=>(IZ.pin (b,o) (List.mem_append_right _ (List.mem_append_right _ (gW hb e)))).1,fun b hb=>?_,dr9.trans dr6,EZ,hz,qZ⟩
    obtain⟨o,e,d⟩:=T.obj _ _ st8 b hb
    exact(IZ.pin (b,o) (List.mem_append_right _ (List.mem_append_right _ (gW hb e)))).2.1
   cases ok with
   | false =>
    rw[if_neg Bool.false_ne_true]at qA ⊢
    exact again IA FA (by omega) qA
   | true =>
    rw[if_pos rfl]at qA ⊢
    have FAa:REnv X.K (aZ HA ρA) HA σ9 ρA:=(REnv.drop (τ:=some (V.ref D)::σ) (lam:=L.own D acc::a6 fi ρ2) FA hτ).wide
    refine thn (hte _ _ _ _ _ sA σ9 HA _ ρA _ IA FAa qA) fun ux sB qB=>?_
    obtain⟨vy,HB,y,ρB,IB,rB,EB,qB⟩:=EL.frz (X:=B) (post:=fun y ρ3=>gn g ti te (xs.drop (i+1)) ρ3 (acc++[y]) fun ys ρb=>∀a,post (.own a ys) (eW fi (ρb.drop Nt.length) (a6 fi ρ2))) qB
    have FB:REnv X.K Pr HB (some vy::(some (V.ref D)::(σ++σ9))) (.d y::(L.own D acc::(a6 fi ρ2++ρB))):=REnv.step (τ:=some (V.ref D)::σ) (lam:=L.own D acc::a6 fi ρ2) (w:=[some vy]) (μ:=[.d y]) FA hτ EB rfl
    obtain⟨_,e1,p1⟩:=FB.head_d
    cases e1
    have slB:=FB.tail.sl
    cases slB with
    | cons q0 _ =>
     obtain⟨_,vs,hDB,rvs⟩:=q0
     refine thn (nG (X:=B) _ sB σ9 HB (.ref D) [vy] (.ref D) [ux] (fun z H'=>H'=upd HB D (.lst (vs++[vy]))) IB rfl (.cons rB .nil) ⟨D,vs,vy,rfl,rfl,hDB,by rw[rvs.length];omega,rfl⟩) fun _ sC ⟨z,HC,IC,_,eC⟩=>?_
     subst eC
     exact again IC (FB.tail.write (rvs.append (.cons p1 .nil))) (by simp;omega) qB
  ·
   have e:i=xs.length:=by omega
   subst e
   refine thn (T.done B rfl rfl rfl hc xs.length [] s6 σ6 H6 (fun _ _=>False) I6 (stat fr6) st6 stop) fun r s7 ⟨hr,I7⟩=>?_
   subst hr
   rw[List.drop_length]at w6
   obtain⟨m,hm,_⟩:=id I7.loc
   have I8:Inv X pins σ H6 s7:=I3.call' (ch:=fp) I7.os I7.base I7.hok I7.bare fun b hb=>⟨(f2 b hb).2.2.2.1,(f2 b hb).2.1,(f2 b hb).2.2.2.2.1,(f2 b hb).2.2.2.2.2⟩
   have f4:=I3.fpOk (H':=H6) (b:=s3.heap.objs.size) (Nat.le_refl _) I7.free
   ·
    have hlen6:σ6.length=ρ6.length:=(REnv.drop (τ:=some (V.ref D)::σ) (lam:=L.own D acc::a6 fi ρ2) E6 hτ).len
    have a1:REnv X.K Pr H6 (bF fi σ++(σ++[some (V.ref D)])) (ρ6.drop Nt.length++(a6 fi ρ2++[L.own D acc])):=by
     have hcd:(bF fi σ).length=(ρ6.drop Nt.length).length:=by rw[← dr6,List.length_drop,List.length_drop,hlen6]
     refine E6.rearr (by simp[hcd,hul,hlen6]) ((σ6.take Nt.length).zip (ρ6.take Nt.length)) ?_
     have l0:σ6.zip ρ6=(σ6.take Nt.length).zip (ρ6.take Nt.length)++(bF fi σ).zip (ρ6.drop Nt.length):=by
      rw[← dr6,← List.zip_append (by simp[hlen6]),List.take_append_drop,List.take_append_drop]
     have l1:(some (V.ref D)::(σ++σ6)).zip (L.own D acc::(a6 fi ρ2++ρ6))=(some (V.ref D),L.own D acc)::(σ.zip (a6 fi ρ2)++σ6.zip ρ6):=by rw[List.zip_cons_cons,List.zip_append hul]
     have l2:(bF fi σ++(σ++[some (V.ref D)])).zip (ρ6.drop Nt.length++(a6 fi ρ2++[L.own D acc]))=(bF fi σ).zip (ρ6.drop Nt.length)++(σ.zip (a6 fi ρ2)++[(some (V.ref D),L.own D acc)]):=by
      rw[List.zip_append hcd,List.zip_append hul];rfl
     rw[l1,l2,l0]
     generalize (bF fi σ).zip (ρ6.drop Nt.length)=z1
     generalize σ.zip (a6 fi ρ2)=z2
     generalize (σ6.take Nt.length).zip (ρ6.take Nt.length)=z3
     have p1:((some (V.ref D),L.own D acc)::(z2++(z3++z1))).Perm ((z2++[(some (V.ref D),L.own D acc)])++(z3++z1)):=by
      rw[List.append_assoc]
      exact List.perm_middle.symm
     refine p1.trans ?_
     have p2:((z2++[(some (V.ref D),L.own D acc)])++(z3++z1)).Perm ((z3++z1)++(z2++[(some (V.ref D),L.own D acc)])):=List.perm_append_comm
     refine p2.trans ?_
     rw[List.append_assoc]
     exact List.perm_append_comm
    have a2:=REnv.backs (σ:=σ++[some (V.ref D)]) (cs:=ρ6.drop Nt.length) (ρ:=a6 fi ρ2++[L.own D acc]) fi hnd (by rw[List.length_drop,← hlen6,← List.length_drop,dr6];simp[bF]) (fun j hj=>by
     rw[List.getElem?_append_left (by rw[dG];exact hjρ j hj)];exact qE fi ρ2 j hj (hjρ j hj)) (fun j hj=>by have:=hjσ j hj;simp;omega) (by rw[nR hjσ];exact a1)
    rw[l7 fun j hj=>by rw[dG];exact hjρ j hj]at a2
    have hpl:σ.length=(eW fi (ρ6.drop Nt.length) (a6 fi ρ2)).length:=by have:=a2.len;simpa using this
    refine hRR D s3.heap.objs.size s7 H6 acc (eW fi (ρ6.drop Nt.length) (a6 fi ρ2)) m I8 hm f4.1 f4.2.1 I3.sz f4.2.2.2.2.1 f4.2.2.2.2.2 (a2.rearr (by simp[hpl]) [] ?_) (w6 D)
    rw[List.append_nil,List.zip_append hpl,List.zip_cons_cons]
    exact List.perm_append_comm (l₂:=[(some (V.ref D),L.own D acc)])
 exact codeAny_compStart_list (loop _ rfl) (T.self _ 0 _ _ _ (T.keep 0 _ _ st2 fun b hb o e=>old4 b o (old3 b o e)) (loop _ rfl))
theorem uo{elt tg iter:Expr}{ifs:List Expr}{scope sc:Scope}{pos:Pos}{N Nt Nf:List Str}{fi:List Nat}{src:W (List D)}{g:Tg}{ti:W Bool}{te:W L}
  (hsc:X.env.scope=sc) (hXN:X.N=N) (hc:X.calm=true) (hi:PIL X tg iter src)
  (hkind:scope.kind=.function) (hnames:∀x∈scope.names,x.2=.local→scope.names.lookup x.1=some .local) (hcell:∀y∈scope.names,y.2≠.cell)
  (hfr:∀x∈scope.names,x.2=.free→sc.names.lookup x.1=some .cell∨sc.names.lookup x.1=some .free)
  (hnd:fi.Nodup) (hNf:Nf.map some=fi.map (fun j=>N[j]?)) (hNk:∀x∈Nf,scope.names.lookup x=some .free) (hfl:∀j∈fi,j<N.length)
  (hg:∀cl s₀ H₀ fp,PTc (fQ X scope cl (Nt++Nf) s₀ H₀ fp) tg Nt.length g) (hti:∀cl s₀ H₀ fp,PIf (fQ X scope cl (Nt++Nf) s₀ H₀ fp) ifs ti) (hte:∀cl s₀ H₀ fp,PL (fQ X scope cl (Nt++Nf) s₀ H₀ fp) elt te)
  (hs:∀x,foldedSetIterable iter X.env x=pure x:=by intro _;rfl):PL X (.ListComp elt [⟨tg,iter,ifs,0⟩] scope pos) (nT Nt.length fi src g ti te):=by
 intro pins s σ H Pr ρ post I E h
 rw[eval_ListComp]
 refine nU (use:=none) hsc hXN hc hi hkind hnames hcell hfr hnd hNf hNk hfl hg hti hte I E h (fun D C s7 H6 acc ρ'' m I7 hm h1 h2 h3 h4 h5 E7 p=>?_) hs
 exact⟨m,hm,fun h' hsb=>⟨.ref D,H6,_,ρ'',I7.turned (t':=s7.toks) (fun b o hb e=>(hsb.2 b hb).trans e) h1 (Ne.symm (Ne.symm h2)) (.inr h3) h4 h5,rfl,E7,p⟩⟩
theorem yI{elt tg iter:Expr}{ifs:List Expr}{scope sc:Scope}{pos spos py:Pos}{y:Str}{j:Nat}{N Nt Nf:List Str}{fi:List Nat}{src:W (List D)}{g:Tg}{ti:W Bool}{te:W L}
  (hN:X.N.Nodup) (hj:X.N[j]?=some y) (hy:Loc X.env.scope y)
  (hsc:X.env.scope=sc) (hXN:X.N=N) (hc:X.calm=true) (hi:PIL X tg iter src)
  (hkind:scope.kind=.function) (hnames:∀x∈scope.names,x.2=.local→scope.names.lookup x.1=some .local) (hcell:∀y∈scope.names,y.2≠.cell)
  (hfr:∀x∈scope.names,x.2=.free→sc.names.lookup x.1=some .cell∨sc.names.lookup x.1=some .free)
  (hnd:fi.Nodup) (hNf:Nf.map some=fi.map (fun j=>N[j]?)) (hNk:∀x∈Nf,scope.names.lookup x=some .free) (hfl:∀j∈fi,j<N.length)
  (hg:∀cl s₀ H₀ fp,PTc (fQ X scope cl (Nt++Nf) s₀ H₀ fp) tg Nt.length g) (hti:∀cl s₀ H₀ fp,PIf (fQ X scope cl (Nt++Nf) s₀ H₀ fp) ifs ti) (hte:∀cl s₀ H₀ fp,PL (fQ X scope cl (Nt++Nf) s₀ H₀ fp) elt te)
  (hsw:swapsWith (.ListComp elt [⟨tg,iter,ifs,0⟩] scope pos) (some (.Name y py)) spos.line X.env=pure true:=by rfl) (hf:X.fn y=true∨X.env.scope.names.lookup y=some .local:=by first|exact .inl rfl|exact .inr rfl|assumption)
  (hs:∀x,foldedSetIterable iter X.env x=pure x:=by intro _;rfl):PM X (.Assign [.Name y py] (.ListComp elt [⟨tg,iter,ifs,0⟩] scope pos) spos) (wSet j (nT Nt.length fi src g ti te)):=by
 intro pins s σ H Pr ρ post I E h
 rw[exec_Assign_Name_used _ _ _ _ hsw]
 refine wpAny_bind (wpAny_standAt (wpAny_bind ?_))
 show wpAny _ X.A (do let _ ← comprehension (.ListComp elt [⟨tg,iter,ifs,0⟩] scope pos) scope X.env (firstIterPos [⟨tg,iter,ifs,0⟩] pos) (newList []) false (eval iter X.env) (some (assign (.Name y py) X.env))) _ _ s
 refine wpAny_bind (thn (nU (use:=some (assign (.Name y py) X.env)) (Q:=fun _ s'=>SM X pins Pr post .next s') (post:=fun r ρ1=>post .nx (ρ1.set j r)) hsc hXN hc hi hkind hnames hcell hfr hnd hNf hNk hfl hg hti hte I E h (fun D C s7 H6 acc ρ'' m I7 hm h1 h2 h3 h4 h5 E7 p=>?_) hs) fun _ s' hq=>wpAny_pure (wpAny_pure hq))
 show wpAny _ X.A (assign (.Name y py) X.env (.ref D)) _ _ _
 refine wpAny_assign_Name (nk (v:=.ref D) I7 hN hj hy rfl (fun s8 I8 ⟨a,sb,ha⟩=>?_) hf)
 have hCa:C≠a:=by
  rcases ha with z|z
  ·
   rw[z];exact h2
  ·
   exact fun q=>h4 y a z q.symm
 refine⟨m,hm.sameBut sb hCa,fun h' hsb=>⟨_,H6,_,I8.turned (t':=s8.toks) (fun b o hb e=>(hsb.2 b hb).trans e) h1 h2 (.inr h3) h4 h5,E7.store (by rw[I7.len];exact(List.getElem?_eq_some_iff.mp hj).1),p⟩⟩
end
section
variable{X:Cx}{e a b:Expr}{pos:Pos}{ta tb te:W L}{x y:Str}
def wPar(i j:Nat)(ta tb:W L):W Fl:=fun ρ post=>ta ρ fun r ρ1=>toD r fun v=>tb ρ1 fun r2 ρ2=>toD r2 fun w=>post .nx ((ρ2.set i (.d v)).set j (.d w))
theorem A6{i j:Nat}{px py pt:Pos} {kt k2 pt2} (hc:X.calm=true) (hN:X.N.Nodup) (hi:X.N[i]?=some x) (hj:X.N[j]?=some y) (hij:i≠j)
  (hx:X.env.scope.names.lookup x=some .local) (hy:X.env.scope.names.lookup y=some .local) (ha:PL X a ta) (hb:PL X b tb)
  (hw:swappedStores [.Tuple [.Name x px,.Name y py] kt pt] (.Tuple [a,b] k2 pt2) X.env=pure (some [x,y]))
  (hs:swapsWithSole [.Tuple [.Name x px,.Name y py] kt pt] (.Tuple [a,b] k2 pt2) pos.line X.env=pure false:=by rfl)
  (h1:starEach [a,b] X.env=(false,eval a X.env)::starEach [b] X.env:=by rfl) (h2:starEach [b] X.env=[(false,eval b X.env)]:=by rfl) :
  PM X (.Assign [.Tuple [.Name x px,.Name y py] kt pt] (.Tuple [a,b] k2 pt2) pos) (wPar i j ta tb):=by
 refine PM.of (Ay hc hN hi hj hij hx hy (bz (av ha).pe (bz (av hb).pe fW h2) h1) hw hs) fun σ H Pr ρ post hlen E h=>?_
 refine⟨Pr,ρ,fun r ρ1=>match r with
  |.d v=>tb ρ1 fun r2 ρ2=>toD r2 fun w=>post .nx ((ρ2.set i (.d v)).set j (.d w))
  |_=>False,E,h,fun v H1 r ρ1 E1 pp=>?_⟩
 cases r with
 | d dv =>
  refine⟨aZ H1 ρ1,ρ1,fun r ρ2=>match r with
   |.d w=>post .nx ((ρ2.set i (.d dv)).set j (.d w))
   |_=>False,E1.tail.wide,pp,fun w H2 r2 ρ2 E2 pp=>?_⟩
  cases r2 with
  | d dw =>
   have E3:REnv X.K Pr H2 (some w::some v::σ) (.d dw::.d dv::ρ2):=REnv.step (τ:=[some v]) (lam:=[.d dv]) (w:=[some w]) (μ:=[.d dw]) E1 rfl E2 rfl
   have il:i<σ.length:=by rw[hlen];exact(List.getElem?_eq_some_iff.mp hi).1
   have jl:j<σ.length:=by rw[hlen];exact(List.getElem?_eq_some_iff.mp hj).1
   obtain⟨_,e1,r1⟩:=E3.head_d
   cases e1
   have E4:REnv X.K Pr H2 (σ.set i (some v)) (ρ2.set i (.d dv)):=E3.tail.store il
   exact⟨v,w,rfl,_,(E4.cons_d r1).store (by simpa using jl),pp⟩
  |_=>exact pp.elim
 |_=>exact pp.elim
def yJ(is:List Nat)(te:W L):W Fl:=fun ρ post=>te ρ fun r ρ1=>toD r fun v=>jk is v ρ1 fun ρ2=>post .nx ρ2
theorem yK{tg:Expr}{is:List Nat}(hg:PT1 X tg (jk is))(he:PL X e te)(hs:swapsWithSole [tg] e pos.line X.env=pure false:=by rfl)(hw:swappedStores [tg] e X.env=pure none:=by rfl)
  (h1:(assignEach [tg] X.env).map (·.2)=[assign tg X.env]:=by rfl):PM X (.Assign [tg] e pos) (yJ is te):=by
 intro pins s σ H Pr ρ post I E h
 obtain⟨gg,hg,hgg⟩:=hg
 refine wpAny_Assign_stores (thn (he pins s σ H Pr ρ _ I E h) fun v s1 q=>?_) hs hw
 obtain⟨w,H1,d,ρ1,I1,r1,E1,q1⟩:=EL.frz (post:=fun d ρ1=>jk is d ρ1 fun ρ2=>post .nx ρ2) q
 rw[h1]
 obtain⟨_,e1,p1⟩:=E1.head_d
 cases e1
 exact thn (hg pins s1 σ H1 w v _ I1 r1 (hgg w σ H1 Pr ρ1 d _ I1.len E1.tail p1 q1)) fun _ s2 ⟨σ',H',I',e',_,ρ',E',q⟩=>by
  subst e'
  exact⟨σ',_,ρ',I',E',q⟩
def eqF:D→D→Bool
 |.non,.non=>true
 |.bl a,.bl b=>a == b
 |.bl a,.int b=>(if a then 1 else 0) == b
 |.int a,.bl b=>a == (if b then 1 else 0)
 |.int a,.int b=>a == b
 |.str a,.str b=>a == b
 |_,_=>false
def inF(x:D)(ys:List D):Bool:=ys.any fun y=>eqF y x
def PO'(X:Cx)(lo:Option Expr)(t:Option (W L)):Prop:=match lo,t with
 |none,none=>True
 |some e,some t=>PL X e t
 |_,_=>False
theorem nV{K:PySem.W.Frag}{H:Hp}{vs:List V}{xs:List D}(r:Reps K H vs xs)(l u:Option Int):Reps K H (cutV vs l u) (cutD xs l u):=by
 unfold cutV cutD
 rw[r.length]
 exact(r.drop _).take _
def tPO(K:PySem.W.Frag)(t:Option (W L)):TO:=fun σ H Q=>∃Pr ρ post,REnv K Pr H σ ρ∧rY t ρ post∧∀i H' ρ',REnv K Pr H' σ ρ'→post i ρ'→Q i H'
theorem A7{lo:Option Expr}{t:Option (W L)}(h:PO' X lo t):PO X lo (tPO X.K t):=by
 cases lo with
 | none =>
  cases t with
  | none =>
   intro pins s σ H Q I ⟨Pr,ρ,post,E,hw,q⟩
   exact yl pins s σ H Q I (q none H ρ E hw)
  |some t=>exact h.elim
 | some e =>
  cases t with
  |none=>exact h.elim
  | some t =>
   intro pins s σ H Q I ⟨Pr,ρ,post,E,hw,q⟩
   refine ym (PL.pe (show PL X e t from h)) pins s σ H Q I ⟨Pr,ρ,_,E,hw,fun v H' r ρ' E' pp=>?_⟩
   obtain⟨i,rfl,pp⟩:=cf pp
   obtain⟨_,e1,p1⟩:=E'.head_d
   cases e1
   cases p1
   exact⟨i,rfl,q (some i) H' ρ' E'.tail pp⟩
end
def selW{α:Type}(o:Option L)(t u:W α)(ρ:Ev)(post:α→Ev→Prop):Prop:=match o with
 |some (.own _ _)=>t ρ post
 |_=>u ρ post
def d8{α:Type}(i:Nat)(t u:W α):W α:=fun ρ post=>selW ρ[i]? t u ρ post
theorem we{α:Type}(a:Addr)(xs:List D)(t u:W α)(ρ:Ev)(post:α→Ev→Prop):selW (some (.own a xs)) t u ρ post=t ρ post:=(rfl)
theorem A8{α:Type}(x:D)(t u:W α)(ρ:Ev)(post:α→Ev→Prop):selW (some (.d x)) t u ρ post=u ρ post:=(rfl)
theorem yL{α:Type}(a:Option Addr)(ls:List L)(t u:W α)(ρ:Ev)(post:α→Ev→Prop):selW (some (.bx a ls)) t u ρ post=u ρ post:=(rfl)
theorem iR{X:Cx}{e:Expr}{i:Nat}{t u:W L}(h:PL X e t)(h':PL X e u):PL X e (d8 i t u):=fun pins s σ H Pr ρ post I E q=>by
 unfold d8 selW at q
 split at q
 ·
  exact h pins s σ H Pr ρ post I E q
 ·
  exact h' pins s σ H Pr ρ post I E q
theorem yM{K:PySem.W.Frag}{c:Str}{C:Addr}{T:String}(h:fZ K c C=true)(hm:PySem.W.kitMeta T=true):PySem.W.kitOne K (.ref C) (.type T)=some ((["ValueError","Exception","BaseException","object"]:List String).contains T):=by
 obtain⟨L,cd,S⟩:=cV h
 unfold PySem.W.kitOne PySem.W.kitCls
 rw[if_neg (show ¬((Value.ref C == Value.type T)=true)from fun z=>by cases z)]
 dsimp only
 rw[if_pos hm]
 show PySem.W.mroIn K C (.type T)=_
 rw[S.mroIn,kK]
theorem l8{T:String}(h0:∀K d,(∀c ns xs,d≠.exc c ns xs)→PySem.W.kitOne K (tyD d) (.type T)=some (isTy T d))(hm:PySem.W.kitMeta T=true):∀K d t,TyD K d t→PySem.W.kitOne K t (.type T)=some (isTy T d):=by
 intro K d t h
 cases d with
 | exc c ns xs =>
  obtain⟨C,e,h⟩:=h
  rw[e]
  exact yM h hm
 |_=>cases h;exact h0 K _ (fun _ _ _ z=>nomatch z)
theorem uq:∀ K d t,TyD K d t→PySem.W.kitOne K t (.type "int")=some (isTy "int" d):=l8 (fun K d hd=>by cases d <;> first | rfl | exact absurd rfl (hd _ _ _)) (by decide +kernel)
theorem kB:∀ K d t,TyD K d t→PySem.W.kitOne K t (.type "bool")=some (isTy "bool" d):=l8 (fun K d hd=>by cases d <;> first | rfl | exact absurd rfl (hd _ _ _)) (by decide +kernel)
theorem yN:∀ K d t,TyD K d t→PySem.W.kitOne K t (.type "str")=some (isTy "str" d):=l8 (fun K d hd=>by cases d <;> first | rfl | exact absurd rfl (hd _ _ _)) (by decide +kernel)
theorem fw:∀ K d t,TyD K d t→PySem.W.kitOne K t (.type "list")=some (isTy "list" d):=l8 (fun K d hd=>by cases d <;> first | rfl | exact absurd rfl (hd _ _ _)) (by decide +kernel)
theorem dJ:∀ K d t,TyD K d t→PySem.W.kitOne K t (.type "tuple")=some (isTy "tuple" d):=l8 (fun K d hd=>by cases d <;> first | rfl | exact absurd rfl (hd _ _ _)) (by decide +kernel)
theorem lO:∀ K d t,TyD K d t→PySem.W.kitOne K t (.type "ValueError")=some (isTy "ValueError" d):=l8 (fun K d hd=>by cases d <;> first | rfl | exact absurd rfl (hd _ _ _)) (by decide +kernel)
def pk(K:PySem.W.Frag)(mg:Str→Option Value)(x:Str)(d:D):Prop:=∃v u,mg x=some u∧RelV v u∧∀H,Rep K H v d
theorem pl_G{X:Cx}{x:Str}{d:D}{pos:Pos}(g:pk X.K X.mg x d)(hg:Gl X x) (hdb:(x == ("__debug__" : Str))=false:=by decide):PL X (.Name x pos) (wC d):=by
 obtain⟨v,u,h1,h2,h3⟩:=g
 exact yx hg h1 h2 h3 hdb
theorem iS{K:PySem.W.Frag}{mg:Str→Option Value}{x:Str}{s:Int}{t:Tok}(h1:mg x=some (.int s t)):pk K mg x (.int s):=⟨.int s,_,h1,⟨t,rfl⟩,fun H=>.int s⟩
theorem nW{K:PySem.W.Frag}{H:Hp}:∀ns:List Int,Reps K H (ns.map V.int) (ns.map D.int)
 |[]=>.nil
 |n::ns=>.cons (.int n) (nW ns)
theorem ur{K:PySem.W.Frag}{H:Hp}{a:Addr}{ns:List Int}{fs:FS}{n:Nat}(hl:ns.length≤n)(hO:Only H)(hS:SqL K H a (ns.map V.int))(h:fs [.d (.lst (ns.map .int))] (fun r _=>r=.d (.bl true))):spF K 1 fs [.ref a] H (fun v _=>v=.bl true) fun _ _ _=>False:=by
 have hz:SqZ K H a (ns.map V.int):=by
  rcases hS with(h|⟨o,h⟩)|h
  ·
   rcases hO a with z|⟨o,xs,z⟩|⟨q,z⟩
   ·
    rw[z]at h;cases h
   ·
    rw[z]at h;cases h
   ·
    rw[z]at h;cases h
  ·
   exact .inl ⟨o,h⟩
  ·
   exact .inr h
 refine⟨rfl,fun _=>none,[.d (.lst (ns.map .int))],_,⟨(fun b o e=>nomatch e),(show([]:List Addr).Nodup from List.nodup_nil),(fun a h=>absurd (show a∈([]:List Addr)from h) (by simp)),.cons ⟨.ref a,rfl,.lst hz (nW ns)⟩ .nil⟩,h,fun v H' r ls' E p=>?_⟩
 subst p
 obtain⟨_,e,r⟩:=E.head_d
 cases e
 cases r
 rfl
section
variable{X:Cx}
def pw:Op2:=fun x y k=>match y with
 |.non=>k (.d (.bl (match x with | .non=>true|_=>false)))
 |_=>False
def kW:Op2:=fun x y k=>match y with
 |.non=>k (.d (.bl (match x with | .non=>false|_=>true)))
 |_=>False
theorem uu:OpD X (compareOp .Is) pw:=A2.imp fun x y k h=>by
 unfold pw at h
 split at h
 ·
  exact⟨rfl,h⟩
 ·
  exact h.elim
theorem qG:OpD X (compareOp .IsNot) kW:=yF.imp fun x y k h=>by
 unfold kW at h
 split at h
 ·
  exact⟨rfl,h⟩
 ·
  exact h.elim
end
end L2
namespace L2
open PySem
theorem qH(a b:Int):Int.gcd b (a.fmod b)=Int.gcd a b:=by
 rw[Int.fmod_def,Int.gcd_sub_mul_left_right,Int.gcd_comm]
theorem hW(a:Int){b:Int}(h:b≠0):(a.fmod b).natAbs<b.natAbs:=by
 rw[Int.fmod_eq_emod]
 have h1:=Int.emod_nonneg a h
 have h2:a % b<(b.natAbs:Int):=Int.emod_lt a h
 split
 ·
  omega
 ·
  rename_i q
  have:a % b≠0:=fun e=>q (.inr (Int.dvd_of_emod_eq_zero e))
  omega
def frD(q:Rat):D:=.tup [.int q.num,.int (q.den:Int)]
theorem pA{t b:Int}(h:b≠0):0<Int.gcd t b:=Int.gcd_pos_of_ne_zero_right _ h
def cH(t b:Int):Int:=if b<0 then -(Int.gcd t b:Int)else(Int.gcd t b:Int)
theorem wg{t b:Int}(h:b≠0):cH t b≠0:=by
 have:=pA (t:=t) h
 unfold cH
 split<;>omega
theorem uv(t b:Int):(cH t b).natAbs=Int.gcd t b:=by
 unfold cH
 split<;>omega
theorem wj{t b:Int}(h:b≠0):(cH t b).natAbs≤b.natAbs:=by
 rw[uv]
 exact Nat.le_of_dvd (by omega) (by have:=Int.gcd_dvd_right t b;exact Int.natAbs_dvd_natAbs.mpr this |> fun q=>by simpa using q)
theorem kX{a g:Int}(hg:g≠0)(h:g∣a):a.fdiv (-g)=-(a / g):=by
 obtain⟨k,rfl⟩:=h
 rw[Int.mul_ediv_cancel_left _ hg,show g*k=(-g)*(-k) by rw[Int.neg_mul_neg],Int.mul_fdiv_cancel_left _ (by omega)]
theorem uw{t b:Int}(h:b≠0):t.fdiv (cH t b)=(Rat.divInt t b).num:=by
 have hg:=pA (t:=t) h
 have hd:(Int.gcd t b:Int)∣t:=Int.gcd_dvd_left t b
 rw[Rat.num_divInt,Int.gcd_comm b t]
 unfold cH
 split
 ·
  rename_i hb
  rw[kX (by omega) hd,Int.sign_eq_neg_one_of_neg hb,Int.neg_one_mul,Int.neg_ediv_of_dvd hd]
 ·
  rename_i hb
  rw[Int.sign_eq_one_of_pos (by omega),Int.one_mul,Int.fdiv_eq_ediv_of_nonneg _ (by omega)]
theorem yO{t b:Int}(h:b≠0):b.fdiv (cH t b)=((Rat.divInt t b).den:Int):=by
 have hg:=pA (t:=t) h
 have hd:(Int.gcd t b:Int)∣b:=Int.gcd_dvd_right t b
 rw[Rat.den_divInt,if_neg h,Int.gcd_comm b t,Int.natCast_ediv]
 unfold cH
 split
 ·
  rename_i hb
  rw[kX (by omega) hd,← Int.neg_ediv_of_dvd hd]
  congr 1
  omega
 ·
  rename_i hb
  rw[Int.fdiv_eq_ediv_of_nonneg _ (by omega)]
  congr 1
  omega
theorem xK{t b:Int}(h:b≠0):(Rat.divInt t b).den≤b.natAbs:=by
 rw[Rat.den_divInt,if_neg h]
 exact Nat.div_le_self _ _
theorem xM{t b:Int}(h:b≠0):(Rat.divInt t b).num.natAbs≤t.natAbs:=by
 rw[← uw h]
 exact PySem.natAbs_fdiv_le _ _
theorem den_pos(q:Rat):0<q.den:=Nat.pos_of_ne_zero q.den_nz
theorem A9(p q:Rat):Rat.divInt (p.num*(q.den:Int)+q.num*(p.den:Int)) ((p.den:Int)*(q.den:Int))=p+q:=by
 have hp:=den_pos p
 have hq:=den_pos q
 have:=Rat.divInt_add_divInt p.num q.num (d₁:=(p.den:Int)) (d₂:=(q.den:Int)) (by omega) (by omega)
 rw[Rat.num_divInt_den,Rat.num_divInt_den]at this
 exact this.symm
def RB(n:Nat)(q:Rat):Prop:=q.num.natAbs<2^n∧q.den<2^n
theorem RB.mono{m n:Nat}{q:Rat}(h:RB m q)(hl:m≤n):RB n q:=⟨Nat.lt_of_lt_of_le h.1 (Nat.pow_le_pow_right (by decide) hl),Nat.lt_of_lt_of_le h.2 (Nat.pow_le_pow_right (by decide) hl)⟩
theorem jq{a b m n:Nat}(h1:a<2^m)(h2:b<2^n):a*b<2^(m+n):=by
 rw[Nat.pow_add]
 exact Nat.mul_lt_mul'' h1 h2
theorem RB.add{m n:Nat}{p q:Rat}(hp:RB m p)(hq:RB n q):RB (m+n+1) (p+q):=by
 have dp:=den_pos p
 have dq:=den_pos q
 have hne:((p.den:Int)*(q.den:Int))≠0:=Int.mul_ne_zero (by omega) (by omega)
 rw[← A9 p q]
 have a1:=jq hp.1 hq.2
 have a2:=jq hq.1 hp.2
 have a3:=jq hp.2 hq.2
 have e:(2:Nat)^(m+n+1)=2^(m+n)+2^(m+n):=by rw[Nat.pow_succ];omega
 rw[Nat.add_comm n m]at a2
 constructor
 ·
  refine Nat.lt_of_le_of_lt (xM hne) ?_
  refine Nat.lt_of_le_of_lt (Int.natAbs_add_le _ _) ?_
  rw[Int.natAbs_mul,Int.natAbs_mul,Int.natAbs_natCast,Int.natAbs_natCast,e]
  omega
 ·
  refine Nat.lt_of_le_of_lt (xK hne) ?_
  rw[Int.natAbs_mul,Int.natAbs_natCast,Int.natAbs_natCast,e]
  omega
@[simp] theorem ik(i j:Int):eqD (.int i) (.int j)=decide (i=j):=by
 simp[eqD,toP,PyData.eqv]
 by_cases h:i=j<;>simp[h]
@[simp] theorem yP(i j:Str):eqD (.str i) (.str j)=decide (i=j):=by
 simp[eqD,toP,PyData.eqv]
 by_cases h:i=j<;>simp[h]
@[simp] theorem Ba(i j:Bool):eqD (.bl i) (.bl j)=decide (i=j):=by
 simp[eqD,toP,PyData.eqv]
 cases i<;>cases j<;>rfl
@[simp] theorem r9(i:Int):cF (.int i):=rfl
@[simp] theorem uy(i:Bool):cF (.bl i):=rfl
@[simp] theorem se:cF .non:=rfl
mutual
def okD:Nat→D→Bool
 |_,.non=>true
 |_,.bl _=>true
 |_,.int _=>true
 |_,.str x=>PyData.strOk x
 |0,.tup _=>false
 |0,.lst _=>false
 |n+1,.tup xs=>okDs n xs
 |n+1,.lst xs=>okDs n xs
 |_,.dct _=>false
 |_,.exc _ _ _=>false
 |_,.fn _ _=>false
def okDs:Nat→List D→Bool
 |_,[]=>true
 |n,x::xs=>okD n x && okDs n xs
end
mutual
theorem gp:∀(n:Nat)(d:D),okD n d=true→(toP d).canLay0=true∧(toP d).depth≤n
 |_,.non,_=>⟨rfl,Nat.zero_le _⟩
 |_,.bl _,_=>⟨rfl,Nat.zero_le _⟩
 |_,.int _,_=>⟨rfl,Nat.zero_le _⟩
 |_,.str x,h=>⟨by simpa[okD,toP,PyData.canLay0]using h,Nat.zero_le _⟩
 |0,.tup _,h=>by simp[okD]at h
 |0,.lst _,h=>by simp[okD]at h
 | n+1,.tup xs,h=>by
  obtain⟨h1,h2⟩:=mP n xs (by simpa[okD]using h)
  exact⟨h1,Nat.succ_le_succ h2⟩
 | n+1,.lst xs,h=>by
  obtain⟨h1,h2⟩:=mP n xs (by simpa[okD]using h)
  exact⟨h1,Nat.succ_le_succ h2⟩
 |_,.dct _,h=>by simp[okD]at h
 |_,.exc _ _ _,h=>by simp[okD]at h
 |_,.fn _ _,h=>by simp[okD]at h
theorem mP:∀(n:Nat)(ds:List D),okDs n ds=true→PyData.canLayAll0 (toPs ds)=true∧PyData.depthAll (toPs ds)≤n
 |_,[],_=>⟨rfl,Nat.zero_le _⟩
 | n,d::ds,h=>by
  have h':okD n d=true∧okDs n ds=true:=by simpa[okDs]using h
  obtain⟨a1,a2⟩:=gp n d h'.1
  obtain⟨b1,b2⟩:=mP n ds h'.2
  exact⟨by simp[toPs,PyData.canLayAll0,a1,b1],by simp only[toPs,PyData.depthAll];omega⟩
end
theorem cQ{n:Nat}{d:D}(h:okD n d=true)(hn:n≤64):cF d:=by
 obtain⟨h1,h2⟩:=gp n d h
 unfold cF SeqAt.shaped
 rw[h1,decide_eq_true (by omega)]
 rfl
theorem pB(xs ys:List D):eqD (.tup xs) (.tup ys)=PyData.eqvAll (toPs xs) (toPs ys):=by simp[eqD,toP,PyData.eqv]
theorem yQ(xs ys:List D):eqD (.lst xs) (.lst ys)=PyData.eqvAll (toPs xs) (toPs ys):=by simp[eqD,toP,PyData.eqv]
theorem eX(x y:D)(xs ys:List D):PyData.eqvAll (toPs (x::xs)) (toPs (y::ys))=(eqD x y && PyData.eqvAll (toPs xs) (toPs ys)):=by simp[toPs,PyData.eqvAll,eqD]
theorem mQ:PyData.eqvAll (toPs []) (toPs [])=true:=by simp[toPs,PyData.eqvAll]
theorem wk{n:Nat}{d:D}(h:okD n d=true):eqD d d=true:=SeqAt.eqv_refl _ (gp n d h).1
theorem wm(q:Rat):cF (frD q):=cQ (n:=1) (by simp[frD,okD,okDs]) (by decide)
theorem Bb(p q:Rat):eqD (frD p) (frD q)=decide (p=q):=by
 unfold frD
 rw[pB,eX,eX,mQ,ik,ik,Bool.and_true]
 by_cases h:p=q
 ·
  subst h;simp
 ·
  rw[decide_eq_false h]
  by_cases h1:p.num=q.num
  ·
   have:¬((p.den:Int)=(q.den:Int)):=fun e=>h (Rat.ext h1 (by omega))
   simp[this]
  ·
   simp[h1]
end L2
namespace L2
open PySem PySem.Spec PyProof.Rows
section
variable{X:Cx}{a b c:Expr}{pos p:Pos}{ta tb tc:W L}
def fR(o o':Op2)(ta tb tc:W L):W L:=fun ρ post=>ta ρ fun r ρ1=>iK r fun i=>tb ρ1 fun r ρ2=>iK r fun j=>o (.int i) (.int j) fun z=>isBl z fun k=>if k=true then tc ρ2 fun r ρ3=>iK r fun l=>o' (.int j) (.int l) fun z=>post z ρ3 else post (.d (.bl false)) ρ2
def CmpI(X:Cx)(op:CmpOp)(o:Op2):Prop:=∃f:Int→Int→Bool,OpR X (compareOp op) (rI0 fun i j=>.bl (f i j))∧∀i j k,o (.int i) (.int j) k→k (.d (.bl (f i j)))
theorem yR:CmpI X .Lt opLt:=⟨_,AE,fun _ _ _ h=>h⟩
theorem jr:CmpI X .LtE opLe:=⟨_,AF,fun _ _ _ h=>h⟩
theorem qI{op op':CmpOp}{o o':Op2}{f f':Int→Int→Bool}(h1:∀i j k,o (.int i) (.int j) k→k (.d (.bl (f i j))))(h2:∀i j k,o' (.int i) (.int j) k→k (.d (.bl (f' i j))))
  (σ:St) (H Pr:Hp) (ρ:Ev) (post:L→Ev→Prop) (Q:VK) (hQ:∀v H' r ρ',REnv X.K Pr H' (some v::σ) (r::ρ')→post r ρ'→Q v H') (E:REnv X.K Pr H σ ρ) (h:fR o o' ta tb tc ρ post) :
  tG (rI0 fun i j=>.bl (f i j)) (rI0 fun i j=>.bl (f' i j)) (tL X.K ta) (tL X.K tb) (tL X.K tc) σ H Q:=by
 refine⟨Pr,ρ,_,E,h,fun v H1 r ρ1 E1 p=>?_⟩
 obtain⟨i,rfl,p⟩:=cf p
 obtain⟨_,e1,r1⟩:=E1.head_d
 cases e1
 cases r1
 refine⟨Pr,ρ1,_,E1.tail,p,fun v H2 r ρ2 E2 p=>?_⟩
 obtain⟨j,rfl,p⟩:=cf p
 obtain⟨_,e1,r1⟩:=E2.head_d
 cases e1
 cases r1
 refine⟨i,j,rfl,rfl,f i j,rfl,?_⟩
 have q:=h1 i j _ p
 cases hk:f i j with
 | false =>
  rw[hk]at q
  exact hQ _ _ _ ρ2 (E2.tail.cons_d (.bl false)) q
 | true =>
  rw[hk]at q
  refine⟨Pr,ρ2,_,E2.tail,q,fun v H3 r ρ3 E3 p=>?_⟩
  obtain⟨l,rfl,p⟩:=cf p
  obtain⟨_,e1,r1⟩:=E3.head_d
  cases e1
  cases r1
  exact⟨j,l,rfl,rfl,hQ _ _ _ ρ3 (E3.tail.cons_d (.bl _)) (h2 j l _ p)⟩
theorem qJ{op op':CmpOp}{o o':Op2}(ho:CmpI X op o)(ho':CmpI X op' o')(ha:PL X a ta)(hb:PL X b tb)(hc:PL X c tc)(hm:lastMarks [op,op'] [b,c]=false:=by with_unfolding_all rfl) :
  PL X (.Compare a [op,op'] [b,c] pos) (fR o o' ta tb tc):=by
 obtain⟨f,r1,h1⟩:=ho
 obtain⟨f',r2,h2⟩:=ho'
 exact PL.of (vN r1 r2 ha.pe hb.pe hc.pe hm) fun σ H Pr ρ post E h=>qI (op:=op) (op':=op') h1 h2 σ H Pr ρ post _ (fun v H' r ρ' E' p=>⟨r,ρ',E',p⟩) E h
theorem gZ{op op':CmpOp}{o o':Op2}(ho:CmpI X op o)(ho':CmpI X op' o')(ha:PL X a ta)(hb:PL X b tb)(hc:PL X c tc)(hm:lastMarks [op,op'] [b,c]=false:=by with_unfolding_all rfl) :
  PB X (.Compare a [op,op'] [b,c] pos) (aB (fR o o' ta tb tc)):=by
 obtain⟨f,r1,h1⟩:=ho
 obtain⟨f',r2,h2⟩:=ho'
 intro pins s σ H Pr ρ post I E h
 refine thn (vO r1 r2 ha.pe hb.pe hc.pe hm pins s σ H (fun b H'=>∃ρ',REnv X.K Pr H' σ ρ'∧post b ρ') I ?_) fun b s1 ⟨H1,I1,ρ1,E1,p1⟩=>⟨H1,ρ1,I1,E1,p1⟩
 refine qI (op:=op) (op':=op') h1 h2 σ H Pr ρ (fun r ρ1=>isBl r fun b=>post b ρ1) _ (fun v H' r ρ' E' p=>?_) E h
 obtain⟨b,rfl,p⟩:=kN p
 obtain⟨_,e1,r1⟩:=E'.head_d
 cases e1
 cases r1
 exact⟨b,rfl,ρ',E'.tail,p⟩
end
end L2
namespace L2
open PySem PySem.Spec PyProof.Rows PySem.Builtin.Str
section
variable{X:Cx}{a:Expr}{pos p2:Pos}{ta:W L}{x:Str}
theorem Bc:SlR X (fun x lo hi H Q=>∃z,x=.str z∧z.length≤sizeLine∧Q (.str (Txt.slice z lo hi)) H):=by
 intro pins s σ H x v vl vu lo hi sl Q I rx hs pl pu h
 obtain⟨z,rfl,hz,q⟩:=h
 obtain⟨t,rfl⟩:=rx
 refine⟨"str",_,F.slot_str_getitem.lookup,typeIs_str _ _ _,?_⟩
 obtain⟨l',rfl,rfl⟩:∃l':Option (Int×Tok),vl=partValue l'∧lo=l'.map (·.1):=by
  cases pl
  ·
   exact⟨none,rfl,rfl⟩
  ·
   exact⟨some (_,_),rfl,rfl⟩
 obtain⟨u',rfl,rfl⟩:∃l':Option (Int×Tok),vu=partValue l'∧hi=l'.map (·.1):=by
  cases pu
  ·
   exact⟨none,rfl,rfl⟩
  ·
   exact⟨some (_,_),rfl,rfl⟩
 exact wpAny_getItem_str_slice (l:=l') (u:=u') (st:=none) hs rfl (post_val_or_str ⟨Nat.le_trans (Txt.slice_le z _ _) hz,fun t' k=>⟨.str _,H,I.tok k,⟨t',rfl⟩,q⟩⟩)
def wSl2(ta:W L)(lo hi:Option (W L)):W L:=fun ρ post=>ta ρ fun r ρ1=>toD r fun d=>rY lo ρ1 fun l ρ2=>rY hi ρ2 fun u ρ3=>match d with
 |.lst xs=>∀a,post (.own a (cutD xs l u)) ρ3
 |.str z=>z.length≤sizeLine∧post (.d (.str (Txt.slice z l u))) ρ3
 |.tup xs=>¬(HT.sIx xs.length 0 l=0∧HT.sIx xs.length xs.length u=xs.length)∧post (.d (.tup (cutD xs l u))) ρ3
 |_=>False
theorem bG{lo hi:Option Expr}{tl th:Option (W L)}(ha:PL X a ta)(hl:PO' X lo tl)(hh:PO' X hi th):PL X (.Subscript a (.Slice lo hi none p2) pos) (wSl2 ta tl th):=by
 refine PL.of (vS (SlR.or yn (SlR.or Bc AL)) (av ha).pe (A7 hl) (A7 hh)) fun σ H Pr ρ post E h=>?_
 refine⟨Pr,ρ,fun r ρ1=>match r with
  | .d d=>rY tl ρ1 fun l ρ2=>rY th ρ2 fun u ρ3=>match d with
   |.lst xs=>∀a,post (.own a (cutD xs l u)) ρ3
   |.str z=>z.length≤sizeLine∧post (.d (.str (Txt.slice z l u))) ρ3
   |.tup xs=>¬(HT.sIx xs.length 0 l=0∧HT.sIx xs.length xs.length u=xs.length)∧post (.d (.tup (cutD xs l u))) ρ3
   |_=>False
  |_=>False,E,h,fun v H1 r ρ1 E1 pp=>?_⟩
 cases r with
 | d d =>
  obtain⟨_,e1,p1⟩:=E1.head_d
  cases e1
  refine⟨aZ H1 ρ1,ρ1,_,E1.tail.wide,pp,fun l H2 ρ2 E2 pp=>?_⟩
  have F2:REnv X.K Pr H2 (some v::σ) (.d d::ρ2):=REnv.step (τ:=[some v]) (lam:=[.d d]) (w:=[]) (μ:=[]) E1 rfl E2 rfl
  refine⟨aZ H2 ρ2,ρ2,_,F2.tail.wide,pp,fun u H3 ρ3 E3 pp=>?_⟩
  have F3:REnv X.K Pr H3 (some v::σ) (.d d::ρ3):=REnv.step (τ:=[some v]) (lam:=[.d d]) (w:=[]) (μ:=[]) F2 rfl E3 rfl
  obtain⟨_,e1,p1⟩:=F3.head_d
  cases e1
  cases p1 with
  |lst hz rs=>exact .inl ⟨_,_,rfl,hz.l,fun q hq=>⟨_,_,F3.tail.cons_own hq (nV rs l u),pp q⟩⟩
  |str z=>exact .inr (.inl ⟨z,rfl,pp.1,_,_,F3.tail.cons_d (.str _),pp.2⟩)
  |tup hz rs=>exact .inr (.inr ⟨_,_,rfl,hz,by rw[rs.length];exact pp.1,fun q hq=>⟨_,_,F3.tail.cons_tup hq (nV rs l u),pp.2⟩⟩)
  |_=>exact pp.elim
 |_=>exact pp.elim
end
section
variable{X:Cx}{e a b c:Expr}{es:List Expr}{pos p apos:Pos}{x y:Str}
theorem Inv.turnedL{pins:List (Addr×Obj)}{σ:St}{H:Hp}{s:Shared}{h':Heap}{t':Nat}{fp:List Addr}(I:Inv X pins σ H s)(k:∀b o,b∉fp→s.heap.get? b=some o→h'.get? b=some o)(hf:∀b∈fp,FpOk X pins H b):Inv X pins σ H {s with heap:=h',toks:=t' }:=by
 have nit:∀b u,H b=some u→b∉fp:=fun b u e z=>by rw[(hf b z).1]at e;cases e
 refine I.step (g':=s.gens) (d':=s.drawn) (ch:=fp) (fun b hb=>?_) (fun b o _ _ hc e _=>k b o hc e) (fun b o _ _ hc e _=>⟨o.slots,k b o hc e⟩) (fun _ _ _ _ n=>n)
  (fun b o hc e=>⟨o,k b o hc e⟩) (fun _ _ e=>e) (fun _ _ _ e=>e) (fun _ _ e=>e) (fun m hm=>?_) (fun b u e=>?_) I.bare
 ·
  obtain⟨f0,f1,f2,f3,f4,f5⟩:=hf b hb
  exact⟨f3,f1,f4,f5⟩
 ·
  obtain⟨o,es,ep,ho,r⟩:=hm
  exact⟨o,es,ep,k _ o (fun z=>(hf _ z).2.1 rfl) ho,r⟩
 ·
  refine(I.hok b u e).stay (fun c v hc q=>k c v ?_ q) (fun _ q=>q) (fun _ _ q=>q) fun _ _ _ _ q=>q
  rcases hc with z|z
  ·
   rw[z];exact nit b u e
  ·
   exact nit c _ z
def Ite(K:PySem.W.Frag)(a:Addr):It :=
 ⟨fun i H=>∃xs x,SqL K H a xs∧xs[i]?=some x,fun i H v H'=>∃p x,v=.ref p∧H p=none∧H'=upd H p (.tup [.int i,x])∧∀xs,SqL K H a xs→xs[i]?=some x,fun i H=>∃xs,SqL K H a xs∧xs.length≤i⟩
theorem uz{P:Program}{w:World}{K:PySem.W.Frag}{k:Nat}(q it a:Addr)(hne:q≠it):Turn P w K (.Tuple es k pos) (Ite K a) [q,it] q (fun i h=>(∃old,IsEnum h q it i old)∧h.IsListIter it a i) where
 mem:=by simp
 obj:=fun i h st b hb=>by
  obtain⟨⟨old,he⟩,o,e,c,d⟩:=st
  rcases List.mem_cons.mp hb with rfl|hb
  ·
   exact⟨_,he,fun v z=>by
    have z':Data.fields _=Data.cell v:=z
    cases z'⟩
  ·
   have e':b=it:=by simpa using hb
   subst e'
   exact⟨o,e,fun v z=>by rw[d]at z;cases z⟩
 keep:=fun i h h' st kk=>⟨let ⟨old,he⟩:=st.1;⟨old,kk q (by simp) _ he⟩,st.2.at fun o e=>kk it (by simp) o e⟩
 item:=by
  intro X hP hw hK hc i pins s σ H E I hf st hg
  subst hP hw hK
  obtain⟨xs,x,hq,hx⟩:=hg
  obtain⟨its,rv,p,hz⟩:=I.list hq
  obtain⟨u,hu,ru⟩:=rv.get hx
  obtain⟨⟨old,he⟩,hit⟩:=st
  have hai:a≠it:=fun z=>by
   subst z
   obtain⟨o,e,c,d⟩:=hit
   obtain⟨o',e',c',_⟩:=p.isList
   rw[e]at e';cases e'
   rw[c]at c';exact absurd c' (by simp)
  have hqa:q≠a:=fun z=>by
   subst z
   obtain⟨o',e',c',_⟩:=p.isList
   rw[he]at e';cases e'
   exact absurd c' (by simp)
  have D:=Draws.list (prog:=X.prog) (w:=X.w) (A:=X.A.in1) (I.ok.hd hc) it a hai its.toArray
  have hlt:i<its.toArray.size:=by
   rw[List.size_toArray]
   exact(List.getElem?_eq_some_iff.mp hu).1
  refine wpAny_pyNext_enum_itemD D he ⟨hit,p.isList⟩ hlt hne (by simp[hne,hqa]) fun x' h' tk hPx hout hst' htup hsz hk=>?_
  have hx':x'=u:=by
   have:its.toArray[i]?=some u:=by simpa using hu
   rw[this]at hPx;exact(Option.some.inj hPx).symm
  subst hx'
  refine⟨.ref s.heap.objs.size,rfl,wpAny_letOwnedTupleGo_enum (s:={s with heap:=h',toks:=tk+1}) hout fun h'' he'' hs''=>?_⟩
  have qlt:q<s.heap.objs.size:=Heap.lt_size he
  have ilt:it<s.heap.objs.size:=by obtain⟨o,e,_⟩:=hit;exact Heap.lt_size e
  have I1:Inv X pins σ (upd H s.heap.objs.size (.tup [.int i,x])) {s with heap:=s.heap.push {cls:=.type "tuple",data:=.seq #[.int i tk,x'] },toks:=tk} :=
   I.laid (fun b ob q=>Heap.get?_push_of_some _ q) (Nat.le_refl _) ⟨by show 2≤sizeLine;decide,[.int i tk,x'],.cons ⟨tk,rfl⟩ (.cons ru .nil),⟨_,Heap.get?_push_size _ rfl,rfl,_,rfl⟩⟩
  have hf1:∀b∈[q,it],FpOk X pins (upd H s.heap.objs.size (.tup [.int i,x])) b:=fun b hb=>by
   refine⟨?_,(hf b hb).2⟩
   rw[aj ?_]
   ·
    exact(hf b hb).1
   ·
    rcases List.mem_cons.mp hb with rfl|hb
    ·
     exact Nat.ne_of_lt qlt
    ·
     rw[List.mem_singleton.mp hb];exact Nat.ne_of_lt ilt
  have I2:=I1.turnedL (h':=h'') (t':=tk+1) (fp:=[q,it]) (fun b o hb e=>by
   have hbq:b≠q:=fun z=>hb (by simp[z])
   have hbi:b≠it:=fun z=>hb (by simp[z])
   refine(hs''.2 b hbq).trans ?_
   rcases Heap.get?_push_cases e with⟨rfl,rfl⟩|e
   ·
    exact htup
   ·
    exact hk b o hbq hbi e) hf1
  refine⟨.ref s.heap.objs.size,_,I2,rfl,⟨_,x,rfl,I.fresh,rfl,fun ys hy=>by rw[I.list_inj hy hq];exact hx⟩,⟨⟨_,by simpa using he''⟩,hst'.1.extBut hs''.extBut (Ne.symm hne)⟩,fun b hb=>(hf1 b hb).1⟩
 done:=by
  intro X hP hw hK hc i pins s σ H E I hf st hg
  subst hP hw hK
  obtain⟨xs,hq,hx⟩:=hg
  obtain⟨its,rv,p,hz⟩:=I.list hq
  obtain⟨⟨old,he⟩,hit⟩:=st
  have hai:a≠it:=fun z=>by
   subst z
   obtain⟨o,e,c,d⟩:=hit
   obtain⟨o',e',c',_⟩:=p.isList
   rw[e]at e';cases e'
   rw[c]at c';exact absurd c' (by simp)
  have hl:=rv.length
  have hT:s.TypeIs (.ref q) "enumerate":=⟨_,he,rfl⟩
  unfold pyNext
  refine wpAny_bind (wpAny_attempt (wpAny_callSpecial?_slot (name:=Str.ofString "__next__") hT F.slot_enumerate_next
   (wpAny_call_entry F.slot_enumerate_next hT F.entry_enumerate_next ?_ (F.args_enumerate_next_1 _))))
  show wpAny _ _ (field (.ref q) 2 >>= _) _ _ _
  refine wpAny_bind (wpAny_field he rfl (x:=.ref it) rfl ?_)
  refine wpAny_bind (wpAny_nextOf_list_end (I.ok.hd hc) hit p.isList (by simp;omega) fun h' x he' hx'=>?_)
  obtain⟨o,ho,hcc⟩:=hx'
  refine wpAny_bind (wpAny_isInstance (T:="StopIteration") (b:=true) ⟨o,ho,hcc⟩ isSubtype_stop ?_)
  refine wpAny_pure ⟨rfl,?_⟩
  exact I.turnedL (t':=s.toks) (fp:=[q,it]) (fun b o hb e=>he' b o (fun z=>hb (by simp[z])) e) hf
 self:=fun _ _ _ _ _ st h=>let ⟨_,he⟩:=st.1;wpAny_pyIter_enum he h
def lP(xs:List D):List D:=xs.zipIdx.map fun p=>.tup [.int (p.2:Int),p.1]
theorem sf{K:PySem.W.Frag}{H:Hp}{a:Addr}{vs:List V}{xs:List D}(h:SqZ K H a vs)(r:Reps K H vs xs):rT K H (Ite K a) (lP xs):=fun H' p=>by
 have h':=(h.pres p).l
 have hlen:(lP xs).length=vs.length:=by rw[r.length];simp[lP]
 refine⟨fun i x e=>?_,⟨vs,h',by rw[hlen];exact Nat.le_refl _⟩⟩
 have hi:i<vs.length:=by rw[← hlen];exact(List.getElem?_eq_some_iff.mp e).1
 have hi2:i<xs.length:=by rw[← r.length];exact hi
 have ex:x=.tup [.int (i:Int),xs[i]]:=by
  have:(lP xs)[i]?=some (.tup [.int (i:Int),xs[i]]):=by simp[lP,hi2]
  rw[this]at e
  exact(Option.some.inj e).symm
 obtain⟨v,ev,rv⟩:=r.get (i:=i) (List.getElem?_eq_getElem hi2)
 refine⟨⟨vs,v,h',ev⟩,fun w H2 ⟨q,y,e1,e2,e3,e4⟩=>?_⟩
 have e5:=e4 vs h'
 rw[ev]at e5
 cases e5
 subst e1 e3 ex
 refine⟨.inr ⟨_,_,e2,rfl⟩,.tup (.inl (.inl (aC ..))) (.cons (.int _) (.cons ((rv.pres p).new e2) .nil))⟩
def uA(t:W L):W (List D):=fun ρ post=>t ρ fun r ρ1=>toD r fun d=>match d with
 |.lst xs=>post (lP xs) ρ1
 |_=>False
theorem mR{k:Nat}{t:W L} (hg:Gl X "enumerate") (hm:X.mg "enumerate"=none) (ha:PL X a t) (hs:starEach [a] X.env=[(false,eval a X.env)]:=by rfl):PIL X (.Tuple es k apos) (.Call (.Name "enumerate" p) [a] [] pos) (uA t):=by
 intro pins s σ H Pr ρ post I E h
 refine Call_ (jV I hg hm boot_enumerate (PyProof.Rows.callWith_type1 (thn (ae (av ha) ag hs pos pins s σ H Pr ρ (fun ls ρ1=>match ls with
  |[.d (.lst xs)]=>post (lP xs) ρ1
  |_=>False) I E ?_) fun us s1 ⟨vs,H1,ls,ρ1,I1,r1,hl,hb,E1,_,q1⟩=>?_) hs rfl))
 ·
  show t ρ _
  have e:(fun r ρ1=>toD r fun d=>match d with | .lst xs=>post (lP xs) ρ1|_=>False)=(fun r ρ1=>toD r fun x=>aNil ρ1 fun xs ρ2=>match L.d x::xs with | [.d (.lst xs)]=>post (lP xs) ρ2|_=>False):=by
   funext r ρ1
   cases r with
   |un=>rfl
   |d d=>cases d<;>rfl
   |own=>rfl
   | bx b ls =>
    show dF (bo (.bx b ls)) _=dF (bo (.bx b ls)) _
    cases bo (.bx b ls)with
    |none=>rfl
    |some d=>cases d<;>rfl
   |dic b ls=>rfl
  rw[← e]
  exact h
 ·
  dsimp only at q1
  split at q1
  ·
   rename_i xs
   cases vs with
   |nil=>exact absurd hl (by simp)
   | cons v vs =>
    have:vs=[]:=by
     have:vs.length=0:=by simpa using hl
     exact List.length_eq_zero_iff.mp this
    subst this
    obtain⟨_,e1,p1⟩:=REnv.head_d (σ:=σ) (ρ:=ρ1) E1
    cases e1
    cases p1 with
    | lst hz rs =>
     obtain⟨u,rfl,ru⟩:=r1.one
     cases ru
     obtain⟨its,rv,pl,hz'⟩:=I1.list hz.l
     refine call_enumerate_list pl.isList fun h' hE hI hsz hk=>?_
     refine wpAny_pyIter_enum (s:={s1 with heap:=h' }) hE ?_
     have E2:REnv X.K Pr H1 σ ρ1:=REnv.tail (σ:=σ) (ρ:=ρ1) E1
     refine⟨s1.heap.objs.size+1,[s1.heap.objs.size+1,s1.heap.objs.size],_,_,H1,_,ρ1,rfl,I1.kept (t':=s1.toks) hk,uz _ _ _ (Nat.succ_ne_self _),⟨⟨_,hE⟩,hI⟩,fun b hb=>?_,E2,sf hz rs,q1⟩
     have hb':s1.heap.objs.size≤b:=by
      rcases List.mem_cons.mp hb with rfl|hb
      ·
       exact Nat.le_succ _
      ·
       rw[List.mem_singleton.mp hb];exact Nat.le_refl _
     exact I1.fpOk hb' (I1.hok.fresh hb')
  ·
   exact q1.elim
end
end L2
namespace L2
open PySem PySem.Spec PyProof.Rows
mutual
def noL:D→Bool
 |.lst _=>false
 |.dct _=>false
 |.exc _ _ _=>false
 |.fn _ _=>false
 |.tup xs=>noLs xs
 |_=>true
def noLs:List D→Bool
 |[]=>true
 |x::xs=>noL x && noLs xs
end
mutual
def noLr:L→Bool
 |.un=>true
 |.d x=>noL x
 |.own _ xs=>noLs xs
 |.bx _ ls=>kY ls
 |.dic _ kvs=>kvs.all fun p=>noL p.2
def kY:List L→Bool
 |[]=>true
 |l::ls=>noLr l && kY ls
end
theorem pC:noLr .un=true:=by simp[noLr]
theorem Bd(x:D):noLr (.d x)=noL x:=by simp[noLr]
theorem wo(a:Addr)(xs:List D):noLr (.own a xs)=noLs xs:=by simp[noLr]
theorem yS(a:Option Addr)(ls:List L):noLr (.bx a ls)=kY ls:=by simp[noLr]
theorem wq(a:Addr)(kvs:List (Key×D)):noLr (.dic a kvs)=kvs.all fun p=>noL p.2:=by simp[noLr]
theorem uB:kY []=true:=by simp[kY]
theorem si(l:L)(ls:List L):kY (l::ls)=(noLr l && kY ls):=by simp[kY]
section
variable{X:Cx}{pins:List (Addr×Obj)}{σ:St}{H:Hp}{s:Shared}
theorem Inv.thaw{a:Addr}{o:Obj}{xs:List V}(I:Inv X pins σ H s)(h:H a=some (.frz o (.lst xs)))(h0:∀o u,X.H₀ a≠some (.frz o u)):Inv X pins σ (upd H a (.lst xs)) s:=by
 have ne:∀b,H b=none→b≠a:=fun b n e=>by subst e;rw[h]at n;cases n
 have nt:∀b xs,H b=some (.tup xs)→b≠a:=fun b xs n e=>by subst e;rw[h]at n;cases n
 have no:∀b z,H b=some (.own z)→b≠a:=fun b z n e=>by subst e;rw[h]at n;cases n
 have nf:∀b o,H b=some (.frz o (.own b))→b≠a:=fun b o n e=>by subst e;rw[h]at n;cases n
 have nw:=(I.hok a _ h).2
 refine⟨I.ok,I.os,I.bare,⟨I.base.keep,I.base.slot,fun b ob e n hx=>?_,I.base.there,fun b xs e=>?_,fun b ob z e=>?_,fun b ps e=>?_⟩,I.loc,I.cell,?_,fun x c e=>?_,fun p hp=>?_,fun b z e=>?_,I.len⟩
 ·
  have q:=I.base.free b ob e n hx
  rw[aj (ne b q)];exact q
 ·
  have q:=I.base.tups b xs e
  rw[aj (nt b xs q)];exact q
 ·
  have q:=I.base.frzs b ob z e
  rw[aj (fun y=>by subst y;exact h0 _ _ e)];exact q
 ·
  have q:=I.base.tbls b ps e
  rw[aj (fun z=>by subst z;rw[h]at q;cases q)];exact q
 ·
  rw[aj (ne _ I.free)];exact I.free
 ·
  rcases I.freeC x c e with z|⟨hf,o,z⟩
  ·
   exact .inl (by rw[aj (ne _ z)];exact z)
  ·
   exact .inr ⟨hf,o,by rw[aj (nf _ _ z)];exact z⟩
 ·
  obtain⟨e,n,r⟩:=I.pin p hp
  exact⟨e,by rw[aj (ne _ n)];exact n,r⟩
 ·
  by_cases hb:b=a
  ·
   subst hb
   rw[aC]at e
   cases e
   exact nw.stay (fun c v _ q=>q) (fun c q=>by rw[aj (no c _ q)];exact q) (fun c xs q=>by rw[aj (nt c xs q)];exact q) fun c ob _ _ q=>by rw[aj (nf c ob q)];exact q
  ·
   rw[aj hb]at e
   exact(I.hok b z e).stay (fun c v _ q=>q) (fun c q=>by rw[aj (no c _ q)];exact q) (fun c xs q=>by rw[aj (nt c xs q)];exact q) fun c ob _ _ q=>by rw[aj (nf c ob q)];exact q
end
def hX(H' H2:Hp)(S:List Addr):Prop:=(∀b,b∉S→H2 b=H' b)∧(∀a∈S,∃o vs,H' a=some (.frz o (.lst vs))∧H2 a=some (.lst vs))
theorem uC{X:Cx}{pins:List (Addr×Obj)}{σ:St}{s:Shared}:∀(S:List Addr){H:Hp},S.Nodup→Inv X pins σ H s→(∀a∈S,∃o vs,H a=some (.frz o (.lst vs)))→(∀a∈S,∀o u,X.H₀ a≠some (.frz o u))→∃H2,Inv X pins σ H2 s∧hX H H2 S
 |[],H,_,I,_,_=>⟨H,I,fun _ _=>rfl,fun _ h=>by simp at h⟩
 | a::S,H,nd,I,h,h0=>by
  obtain⟨na,nd⟩:=List.nodup_cons.mp nd
  obtain⟨o,vs,ea⟩:=h a List.mem_cons_self
  have I1:=I.thaw ea (h0 a List.mem_cons_self)
  obtain⟨H2,I2,T1,T2⟩:=uC S nd I1 (fun b hb=>by
   obtain⟨o,us,e⟩:=h b (List.mem_cons_of_mem _ hb)
   exact⟨o,us,by rw[aj (fun z:b=a=>na (by rw[← z];exact hb))];exact e⟩) fun b hb=>h0 b (List.mem_cons_of_mem _ hb)
  refine⟨H2,I2,fun b hb=>?_,fun b hb=>?_⟩
  ·
   rw[T1 b (fun z=>hb (List.mem_cons_of_mem _ z)),aj (fun z:b=a=>hb (by rw[z];exact List.mem_cons_self))]
  ·
   rcases List.mem_cons.mp hb with rfl|hb
   ·
    exact⟨o,vs,ea,by rw[T1 b na,aC]⟩
   ·
    obtain⟨o',us,e1,e2⟩:=T2 b hb
    rw[aj (fun z:b=a=>na (by rw[← z];exact hb))]at e1
    exact⟨o',us,e1,e2⟩
section
variable{K:PySem.W.Frag}{H' H2:Hp}{S:List Addr}
mutual
theorem Rep.thaw(T:hX H' H2 S):∀{v:V}{d:D},noL d=true→Rep K H' v d→Rep K H2 v d
 |_,_,_,.non=>.non
 |_,_,_,.bl b=>.bl b
 |_,_,_,.int i=>.int i
 |_,_,_,.str x=>.str x
 | _,_,h,.tup hs r=>by
  refine .tup ?_ (Reps.thaw T (by simpa[noL]using h) r)
  rcases hs with(e|⟨u,e⟩)|e
  ·
   exact .inl (.inl (by rw[T.1 _ fun z=>by obtain⟨o,vs,e1,_⟩:=T.2 _ z;rw[e1]at e;cases e];exact e))
  ·
   exact .inl (.inr ⟨u,by rw[T.1 _ fun z=>by obtain⟨o,vs,e1,_⟩:=T.2 _ z;rw[e1]at e;cases e];exact e⟩)
  ·
   exact .inr e
 |_,_,h,.lst hs r=>by simp[noL]at h
 |_,_,h,.dct e=>by simp[noL]at h
 |_,_,h,.exc _ _ _ _ _ _ _ _=>by simp[noL]at h
 |_,_,h,.fn _ _ _ _ _ _ _ _ _=>by simp[noL]at h
theorem Reps.thaw(T:hX H' H2 S):∀{vs:List V}{ds:List D},noLs ds=true→Reps K H' vs ds→Reps K H2 vs ds
 |_,_,_,.nil=>.nil
 | _,_,h,.cons r t=>by
  simp only[noLs,Bool.and_eq_true]at h
  exact .cons (Rep.thaw T h.1 r) (Reps.thaw T h.2 t)
end
theorem hX.lst(T:hX H' H2 S){a:Addr}{vs:List V}(h:H' a=some (.lst vs)):a∉S∧H2 a=some (.lst vs):=by
 have n:a∉S:=fun z=>by
  obtain⟨o,us,e,_⟩:=T.2 a z
  rw[h]at e;cases e
 exact⟨n,(T.1 a n).trans h⟩
theorem hX.tup(T:hX H' H2 S){a:Addr}{vs:List V}(h:SqT K H' a vs):SqT K H2 a vs:=by
 rcases h with(e|⟨u,e⟩)|e
 ·
  exact .inl (.inl (by rw[T.1 _ fun z=>by obtain⟨o,vs,e1,_⟩:=T.2 _ z;rw[e1]at e;cases e];exact e))
 ·
  exact .inl (.inr ⟨u,by rw[T.1 _ fun z=>by obtain⟨o,vs,e1,_⟩:=T.2 _ z;rw[e1]at e;cases e];exact e⟩)
 ·
  exact .inr e
mutual
theorem aN.thaw(T:hX H' H2 S):∀{s:Option V}(l:L),noLr l=true→aN K H' s l→aN K H2 s l
 |_,.un,_,_=>by unfold aN;exact True.intro
 | _,.d x,h,q=>by
  unfold aN at q ⊢
  obtain⟨v,e,r⟩:=q
  exact⟨v,e,r.thaw T (by simpa[noLr]using h)⟩
 | _,.own a xs,h,q=>by
  unfold aN at q ⊢
  obtain⟨e,vs,ha,r⟩:=q
  exact⟨e,vs,(T.lst ha).2,r.thaw T (by simpa[noLr]using h)⟩
 | _,.bx none ls,h,q=>by
  unfold aN at q ⊢
  obtain⟨a,vs,e,ha,r⟩:=q
  exact⟨a,vs,e,T.tup ha,bE.thaw T ls (by simpa[noLr]using h) r⟩
 | _,.bx (some a) ls,h,q=>by
  unfold aN at q ⊢
  obtain⟨e,vs,ha,r⟩:=q
  exact⟨e,vs,(T.lst ha).2,bE.thaw T ls (by simpa[noLr]using h) r⟩
 | _,.dic a kvs,h,q=>by
  unfold aN at q ⊢
  obtain⟨e,vs,ha,r⟩:=q
  have h':∀p∈kvs,noL p.2=true:=by simpa[noLr]using h
  refine⟨e,vs,?_,Paired.impMem r fun p hp q z=>⟨z.1,z.2.thaw T (h' p hp)⟩⟩
  rw[T.1 a fun z=>by obtain⟨o,us,e1,_⟩:=T.2 _ z;rw[e1]at ha;cases ha]
  exact ha
theorem bE.thaw(T:hX H' H2 S):∀{vs:List V}(ls:List L),kY ls=true→bE K H' vs ls→bE K H2 vs ls
 |_,[],_,q=>by unfold bE at q ⊢;exact q
 | _,l::ls,h,q=>by
  unfold bE at q ⊢
  simp only[kY,Bool.and_eq_true]at h
  obtain⟨v,us,e,h1,h2⟩:=q
  exact⟨v,us,e,aN.thaw T l h.1 h1,bE.thaw T ls h.2 h2⟩
end
end
def ip:L→Bool
 |.d _=>true
 |l=>noLr l
theorem wu:ip .un=true:=by simp[ip,noLr]
theorem yT(x:D):ip (.d x)=true:=rfl
theorem nX(a:Addr)(xs:List D):ip (.own a xs)=noLs xs:=by simp[ip,noLr]
theorem uD(a:Addr)(kvs:List (Key×D)):ip (.dic a kvs)=kvs.all fun p=>noL p.2:=by simp[ip,noLr]
theorem wx(a:Option Addr)(ls:List L):ip (.bx a ls)=kY ls:=by simp[ip,noLr]
def dM(i:Nat)(ρ:Ev):Bool:=(ρ.set i .un).all ip
theorem l9{K:PySem.W.Frag}{H0 H' H2:Hp}{S:List Addr}(T:hX H' H2 S)(p:Pres H0 H2):∀{σ:St}{ρ ρ0:Ev},ρ.length=ρ0.length →
  (∀(j:Nat)(l:L),ρ[j]?=some l→noLr l=true∨∃x,l=.d x∧ρ0[j]?=some (.d x))→Paired (aN K H0) σ ρ0→Paired (aN K H') σ ρ→Paired (aN K H2) σ ρ
 |[],[],_,_,_,_,_=>.nil
 | s::σ,l::ρ,l0::ρ0,hl,h,.cons q0 t0,.cons q t=>by
  refine .cons ?_ (l9 T p (by simpa using hl) (fun j l e=>h (j+1) l e) t0 t)
  rcases h 0 l rfl with hh|⟨x,rfl,e⟩
  ·
   exact q.thaw T l hh
  ·
   have e:l0=.d x:=by simpa using e
   subst e
   exact q0.pres p (.d x) fun a ha=>by simp[aP]at ha
 |[],_::_,_,_,_,_,t=>nomatch t
 |_::_,[],_,_,_,_,t=>nomatch t
mutual
theorem aN.lsts{K:PySem.W.Frag}{H:Hp}:∀{s:Option V}(l:L){x:D},aN K H s l→bo l=some x→∀a∈aP l,∃vs,H a=some (.lst vs)
 |_,.un,_,_,_,a,ha=>by simp[aP]at ha
 |_,.d x,_,_,_,a,ha=>by simp[aP]at ha
 |_,.dic _ _,_,_,h,_,_=>by simp[bo]at h
 | _,.own b xs,_,h,_,a,ha=>by
  simp only[aN]at h
  have e:a=b:=by simpa[aP]using ha
  subst e
  obtain⟨_,vs,q,_⟩:=h
  exact⟨_,q⟩
 | _,.bx none ls,_,h,hx,a,ha=>by
  simp only[aN]at h
  simp only[bo,Option.map_eq_some_iff]at hx
  obtain⟨xs,hx,_⟩:=hx
  obtain⟨b,vs,e,_,r⟩:=h
  exact bE.lsts ls r hx a (by simpa[aP]using ha)
 | _,.bx (some b) ls,_,h,hx,a,ha=>by
  simp only[aN]at h
  simp only[bo,Option.map_eq_some_iff]at hx
  obtain⟨xs,hx,_⟩:=hx
  obtain⟨e,vs,q,r⟩:=h
  rcases(by simpa[aP]using ha:a=b∨a∈cU ls)with z|z
  ·
   subst z;exact⟨_,q⟩
  ·
   exact bE.lsts ls r hx a z
theorem bE.lsts{K:PySem.W.Frag}{H:Hp}:∀{vs:List V}(ls:List L){xs:List D},bE K H vs ls→bK ls=some xs→∀a∈cU ls,∃vs,H a=some (.lst vs)
 |_,[],_,_,_,a,ha=>by simp[cU]at ha
 | _,l::ls,_,h,hx,a,ha=>by
  simp only[bE]at h
  obtain⟨v,us,e,h1,h2⟩:=h
  simp only[bK]at hx
  split at hx
  ·
   rename_i x1 xs1 e1 e2
   rcases(by simpa[cU]using ha:a∈aP l∨a∈cU ls)with z|z
   ·
    exact aN.lsts l h1 e1 a z
   ·
    exact bE.lsts ls h2 e2 a z
  ·
   cases hx
end
def pkW(o:Option L)(i:Nat)(t:W L)(ρ:Ev)(post:L→Ev→Prop):Prop:=match o with
 |some (.own _ xs)=>dM i ρ=true∧t (ρ.set i (.d (.lst xs))) fun r ρ'=>noLr r=true∧ρ'=ρ.set i (.d (.lst xs))∧post r ρ
 |some (.bx b ls)=>dM i ρ=true∧toDB b ls fun x=>t (ρ.set i (.d x)) fun r ρ'=>noLr r=true∧ρ'=ρ.set i (.d x)∧post r ρ
 |_=>t ρ post
theorem yU(a:Addr)(xs:List D)(i:Nat)(t:W L)(ρ:Ev)(post:L→Ev→Prop):pkW (some (.own a xs)) i t ρ post=(dM i ρ=true∧t (ρ.set i (.d (.lst xs))) fun r ρ'=>noLr r=true∧ρ'=ρ.set i (.d (.lst xs))∧post r ρ):=(rfl)
theorem Be(b:Option Addr)(ls:List L)(i:Nat)(t:W L)(ρ:Ev)(post:L→Ev→Prop):pkW (some (.bx b ls)) i t ρ post=(dM i ρ=true∧toDB b ls fun x=>t (ρ.set i (.d x)) fun r ρ'=>noLr r=true∧ρ'=ρ.set i (.d x)∧post r ρ):=(rfl)
theorem Ci(x:D)(i:Nat)(t:W L)(ρ:Ev)(post:L→Ev→Prop):pkW (some (.d x)) i t ρ post=t ρ post:=(rfl)
theorem yV{X:Cx}{pins:List (Addr×Obj)}{s:Shared}{σ:St}{H Pr:Hp}{ρ:Ev}{i:Nat}{k:L}{x:D}(I:Inv X pins σ H s)(E:REnv X.K Pr H σ ρ)(hi:ρ[i]?=some k)(hx:bo k=some x):∃H1,Inv X pins σ H1 s∧REnv X.K Pr H1 σ (ρ.set i (.d x))∧jZ H H1 (aP k)∧∀a∈aP k,∃vs,H a=some (.lst vs):=by
 obtain⟨sv,hs,sl⟩:=E.slot hi
 obtain⟨H1,I1,E1,F⟩:=frzL k I (E.outL hi hs) hx
 have hil:i<ρ.length:=(List.getElem?_eq_some_iff.mp hi).1
 have E2:=E1.back (i:=i) (by rw[List.getElem?_set_self hil]) hs
 rw[List.set_set]at E2
 exact⟨H1,I1,E2,F,sl.lsts k hx⟩
def pkB(o:Option L)(i:Nat)(t:W Bool)(ρ:Ev)(post:Bool→Ev→Prop):Prop:=match o with
 |some (.own _ xs)=>dM i ρ=true∧t (ρ.set i (.d (.lst xs))) fun r ρ'=>ρ'=ρ.set i (.d (.lst xs))∧post r ρ
 |some (.bx b ls)=>dM i ρ=true∧toDB b ls fun x=>t (ρ.set i (.d x)) fun r ρ'=>ρ'=ρ.set i (.d x)∧post r ρ
 |_=>t ρ post
theorem yW(a:Addr)(xs:List D)(i:Nat)(t:W Bool)(ρ:Ev)(post:Bool→Ev→Prop):pkB (some (.own a xs)) i t ρ post=(dM i ρ=true∧t (ρ.set i (.d (.lst xs))) fun r ρ'=>ρ'=ρ.set i (.d (.lst xs))∧post r ρ):=(rfl)
theorem Bf(b:Option Addr)(ls:List L)(i:Nat)(t:W Bool)(ρ:Ev)(post:Bool→Ev→Prop):pkB (some (.bx b ls)) i t ρ post=(dM i ρ=true∧toDB b ls fun x=>t (ρ.set i (.d x)) fun r ρ'=>ρ'=ρ.set i (.d x)∧post r ρ):=(rfl)
theorem Cj(x:D)(i:Nat)(t:W Bool)(ρ:Ev)(post:Bool→Ev→Prop):pkB (some (.d x)) i t ρ post=t ρ post:=(rfl)
variable{X:Cx}
variable{X:Cx}
variable{X:Cx}
section
variable{X:Cx}{e a b c:Expr}{es:List Expr}{pos p p2:Pos}{ta:W L}{x y:Str}
def j3:List (Op2×W L)→D→W L
 |[],_=>fun _ _=>False
 |[(o,t)],dx=>fun ρ post=>t ρ fun y ρ1=>toD y fun dy=>o dx dy fun r=>isBl r fun k=>post (.d (.bl k)) ρ1
 |(o,t)::q::r,dx=>fun ρ post=>t ρ fun y ρ1=>toD y fun dy=>o dx dy fun z=>isBl z fun k=>if k=true then j3 (q::r) dy ρ1 post else post (.d (.bl false)) ρ1
def pD(ta:W L)(ls:List (Op2×W L)):W L:=fun ρ post=>ta ρ fun x ρ1=>toD x fun dx=>j3 ls dx ρ1 post
inductive pE (X:Cx):List CmpOp→List Expr→List (Op2×W L)→Prop where
 |one {op:CmpOp} {e:Expr} {o:Op2} {t:W L} (ho:OpD X (compareOp op) o) (h:PL X e t):pE X [op] [e] [(o,t)]
 |cons {op:CmpOp} {e:Expr} {o:Op2} {t:W L} {ops:List CmpOp} {es:List Expr} {ls:List (Op2×W L)} (ho:OpD X (compareOp op) o) (h:PL X e t) (r:pE X ops es ls):pE X (op::ops) (e::es) ((o,t)::ls)
theorem mS{op:CmpOp}{o:Op2}{pins:List (Addr×Obj)}{s:Shared}{σ:St}{H Pr:Hp}{ρ:Ev}{v:V}{u:Value}{dx:D}{R:Bool→D→Ev→Prop}{t:W L}{Q:Value→Value→Shared→Prop}(ho:OpD X (compareOp op) o)(h:PL X e t)
  (I:Inv X pins σ H s) (rv:RelV v u) (E:REnv X.K Pr H (some v::σ) (.d dx::ρ)) (ht:t ρ fun y ρ1=>toD y fun dy=>o dx dy fun r=>isBl r fun k=>R k dy ρ1)
  (hQ:∀u2 s3 w2 dy H3 ρ1 k,Inv X pins σ H3 s3→RelV w2 u2→REnv X.K Pr H3 (some w2::σ) (.d dy::ρ1)→R k dy ρ1→Q u2 (.bool k) s3) :
  wpAny (model X.prog X.w) X.A (eval e X.env) (fun b s₁=>wpAny (model X.prog X.w) X.A (compareOp op u b) (fun c s₂=>Q b c s₂) X.xe s₁) X.xe s:=by
 refine thn (h pins s σ H _ ρ _ I E.tail.wide ht) fun u2 s2 q=>?_
 obtain⟨y,H2,dy,ρ2,I2,r2,E2,q2⟩:=EL.frz (post:=fun dy ρ1=>o dx dy fun r=>isBl r fun k=>R k dy ρ1) q
 have E3:REnv X.K Pr H2 (some y::some v::σ) (.d dy::.d dx::ρ2):=REnv.step (τ:=[some v]) (lam:=[.d dx]) (w:=[some y]) (μ:=[.d dy]) E rfl E2 rfl
 obtain⟨_,e1,p1⟩:=E3.head_d
 obtain⟨_,e2,p2⟩:=E3.tail.head_d
 cases e1
 cases e2
 have E4:REnv X.K Pr H2 σ ρ2:=E3.tail.tail
 have E5:REnv X.K Pr H2 (some y::σ) (.d dy::ρ2):=E4.cons_d p1
 have E5w:=E5
 refine thn (ho pins s2 σ H2 (aZ H2 ρ2) ρ2 v y u u2 dx dy _ I2 rv r2 E4.wide p2 p1 q2) fun w s3 ⟨z,H3,r,I3,rz,E6,pp⟩=>?_
 obtain⟨k,rfl,pp⟩:=kN pp
 obtain⟨_,e3,p3⟩:=E6.head_d
 cases e3
 cases p3
 cases rz
 have P3:Pres H2 H3:=mH E4 E6.sub
 have E7:REnv X.K Pr H3 σ ρ2:=E4.narrow E6.tail
 exact hQ u2 s3 y dy H3 ρ2 k I3 r2 (E7.cons_d (p1.pres P3)) pp
theorem wy{ops:List CmpOp}{es:List Expr}{ls:List (Op2×W L)}(h:pE X ops es ls):∀(pins:List (Addr×Obj))(s:Shared)(σ:St)(H Pr:Hp)(ρ:Ev)(post:L→Ev→Prop)(v:V)(u:Value)(dx:D)(pos:Pos),Inv X pins σ H s→RelV v u→REnv X.K Pr H (some v::σ) (.d dx::ρ)→j3 ls dx ρ post →
  wpAny (model X.prog X.w) X.A (compareChain pos u ops (evalEach es X.env)) (EL X pins σ Pr post) X.xe s:=by
 induction h with
 | one ho h =>
  intro pins s σ H Pr ρ post v u dx pos I rv E hl
  refine chain_last ?_
  exact mS (R:=fun k _ ρ1=>post (.d (.bl k)) ρ1) (Q:=fun _ c s=>EL X pins σ Pr post c s) ho h I rv E hl fun u2 s3 w2 dy H3 ρ1 k I3 r3 E3 q=>⟨.bl k,H3,_,ρ1,I3,rfl,E3.tail.cons_d (.bl k),q⟩
 | @cons op e o t ops es ls ho h r ih =>
  intro pins s σ H Pr ρ post v u dx pos I rv E hl
  cases r with
  | one ho2 h2 =>
   refine chain_link (mS (R:=fun k dy ρ1=>if k=true then j3 [_] dy ρ1 post else post (.d (.bl false)) ρ1) (Q:=fun b c s=>wpAny (model X.prog X.w) X.A (truthy c) (fun t s₃=>if t then _ else EL X pins σ Pr post c s₃) X.xe s) ho h I rv E hl fun u2 s3 w2 dy H3 ρ1 k I3 r3 E3 q=>?_)
   refine wpAny_truthy_bool ?_
   cases k with
   |false=>exact ite_ff ⟨.bl false,H3,_,ρ1,I3,rfl,E3.tail.cons_d (.bl false),q⟩
   |true=>exact ite_tt (ih pins s3 σ H3 Pr ρ1 post w2 u2 dy pos I3 r3 E3 q)
  | cons ho2 h2 r2 =>
   cases r2 with
   | one ho3 h3 =>
    refine chain_link (mS (R:=fun k dy ρ1=>if k=true then j3 (_::_::_) dy ρ1 post else post (.d (.bl false)) ρ1) (Q:=fun b c s=>wpAny (model X.prog X.w) X.A (truthy c) (fun t s₃=>if t then _ else EL X pins σ Pr post c s₃) X.xe s) ho h I rv E hl fun u2 s3 w2 dy H3 ρ1 k I3 r3 E3 q=>?_)
    refine wpAny_truthy_bool ?_
    cases k with
    |false=>exact ite_ff ⟨.bl false,H3,_,ρ1,I3,rfl,E3.tail.cons_d (.bl false),q⟩
    |true=>exact ite_tt (ih pins s3 σ H3 Pr ρ1 post w2 u2 dy pos I3 r3 E3 q)
   | cons ho3 h3 r3 =>
    refine chain_link (mS (R:=fun k dy ρ1=>if k=true then j3 (_::_::_) dy ρ1 post else post (.d (.bl false)) ρ1) (Q:=fun b c s=>wpAny (model X.prog X.w) X.A (truthy c) (fun t s₃=>if t then _ else EL X pins σ Pr post c s₃) X.xe s) ho h I rv E hl fun u2 s3 w2 dy H3 ρ1 k I3 r3 E3 q=>?_)
    refine wpAny_truthy_bool ?_
    cases k with
    |false=>exact ite_ff ⟨.bl false,H3,_,ρ1,I3,rfl,E3.tail.cons_d (.bl false),q⟩
    |true=>exact ite_tt (ih pins s3 σ H3 Pr ρ1 post w2 u2 dy pos I3 r3 E3 q)
theorem uE{op op':CmpOp}{ops:List CmpOp}{r1 r2:Expr}{rs:List Expr}{ls:List (Op2×W L)}(ha:PL X a ta)(h:pE X (op::op'::ops) (r1::r2::rs) ls)(hm:lastMarks (op::op'::ops) (r1::r2::rs)=false:=by with_unfolding_all rfl):PL X (.Compare a (op::op'::ops) (r1::r2::rs) pos) (pD ta ls):=by
 intro pins s σ H Pr ρ post I E ht
 refine Compare_chain (thn (ha pins s σ H Pr ρ _ I E ht) fun u s1 q=>?_) hm
 obtain⟨v,H1,dx,ρ1,I1,rv,E1,q1⟩:=EL.frz (post:=fun dx ρ1=>j3 ls dx ρ1 post) q
 exact wy h pins s1 σ H1 Pr ρ1 post v u dx pos I1 rv E1 q1
def pF(x y:Str):Bool:=!decide (y.cps.toList<x.cps.toList)
theorem uF:OpR X (compareOp .LtE) (fun x y H Q=>∃i j,x=.str i∧y=.str j∧Q (.bl (pF i j)) H):=by
 intro pins s σ H x y v u Q I rx ry ⟨i,j,ex,ey,q⟩
 subst ex ey
 obtain⟨t,rfl⟩:=rx
 obtain⟨t',rfl⟩:=ry
 refine PySem.P.le_str ⟨.bl _,H,I,rfl,?_⟩
 have e:(pF i j)=(!(decide (j.cps.toList<i.cps.toList))):=rfl
 rw[e]at q
 exact q
def wz:Op2:=fun x y k=>match x,y with
 |.int i,.int j=>k (.d (.bl (decide (i≤j))))
 |.str i,.str j=>k (.d (.bl (pF i j)))
 |_,_=>False
theorem xN:OpD X (compareOp .LtE) wz:=(OpD.or A1 (OpD.of (op:=fun x y k=>∃i j,x=.str i∧y=.str j∧k (.d (.bl (pF i j)))) uF fun σ H Pr ρ x y dx dy post E px py ⟨i,j,e1,e2,h⟩=>by
 subst e1 e2
 cases px
 cases py
 exact⟨i,j,rfl,rfl,_,E.cons_d (.bl _),h⟩)).imp fun x y k h=>by
 cases x<;>cases y<;>first|exact h.elim|exact .inl h|exact .inr ⟨_,_,rfl,rfl,h⟩
theorem pG{prog:Program}{w:World}{A:Around}{ks:List Bool}{us:List Value}(h:us=ks.map Value.bool):TruthOf prog w A (fun i v=>us.toArray[i]?=some v) (fun i=>ks.getD i true):=fun i v s Q E hv hQ=>by
 subst h
 rw[List.getElem?_toArray,List.getElem?_map]at hv
 cases q:ks[i]? with
 |none=>rw[q]at hv;cases hv
 | some k =>
  rw[q]at hv
  cases hv
  refine wpAny_truthy_bool ?_
  have:ks.getD i true=k:=by rw[List.getD_eq_getElem?_getD,q];rfl
  have hQ':Q (ks.getD i true) s:=hQ
  rw[this]at hQ'
  exact hQ'
theorem uG(ks:List Bool):(List.range ks.length).all (fun i=>ks.getD i true)=ks.all id:=by
 apply Bool.eq_iff_iff.mpr
 simp only[List.all_eq_true,List.mem_range,id]
 constructor
 ·
  intro h x hx
  obtain⟨i,hi,e⟩:=List.getElem_of_mem hx
  have:=h i hi
  rw[List.getD_eq_getElem?_getD,List.getElem?_eq_getElem hi]at this
  simpa[e]using this
 ·
  intro h i hi
  rw[List.getD_eq_getElem?_getD,List.getElem?_eq_getElem hi]
  exact h _ (List.getElem_mem hi)
theorem ma:∀{ks:List Bool}{us:List Value},Vals (ks.map V.bl) us→us=ks.map Value.bool
 |[],_,.nil=>rfl
 | k::ks,_,.cons r t=>by
  have e:=ma t
  subst e
  cases r
  rfl
theorem nY(hc:X.calm=true):fT X (.builtin "all") (fun xs H Q=>∃(p:Addr)(ks:List Bool),xs=[.ref p]∧SqL X.K H p (ks.map V.bl)∧Q (.bl (ks.all id)) H):=by
 intro pins s σ H xs us Q I r ⟨p,ks,e,hq,q⟩
 subst e
 obtain⟨u,rfl,r1⟩:=mB r
 cases r1
 obtain⟨its,rv,pl,hz⟩:=I.list hq
 have e:=ma rv
 refine call_all_walk (wpAny_pyIter_list pl.isList ?_)
 have hne:p≠s.heap.objs.size:=fun z=>by
  obtain⟨o,n,eo,_⟩:=pl
  have:=Heap.lt_size eo
  rw[z]at this
  exact absurd this (Nat.lt_irrefl _)
 refine⟨s.heap.objs.size,_,_,_,_,_,(fun i=>ks.getD i true),rfl,Walks.list (A:=X.A.in1) (I.ok.hd hc) _ p hne its.toArray,⟨⟨_,Heap.get?_push_size _ rfl,rfl,rfl⟩,pl.isList.at fun o eo=>Heap.get?_push_of_some _ eo⟩,pG e,fun h' tk hk=>?_⟩
 have hl:its.toArray.size=ks.length:=by rw[e];simp
 rw[hl,uG]
 refine⟨.bl _,H,I.kept (h':=h') (t':=tk) fun b o eb=>hk b o (fun hm=>?_) (Heap.get?_push_of_some _ eb),rfl,q⟩
 have e2:b=s.heap.objs.size:=by simpa using hm
 have:=Heap.lt_size eb
 rw[e2]at this
 exact absurd this (Nat.lt_irrefl _)
theorem iT{K:PySem.W.Frag}{H:Hp}:∀{vs:List V}{ks:List Bool},Reps K H vs (ks.map D.bl)→vs=ks.map V.bl
 |[],[],_=>rfl
 | _::_,k::ks,.cons r t=>by
  cases r
  rw[iT t];rfl
 |[],_::_,r=>nomatch r
 |_::_,[],r=>nomatch r
def Bg:OpN:=fun ds k=>∃ks:List Bool,ds=[.lst (ks.map D.bl)]∧k (.d (.bl (ks.all id)))
theorem Bh(hc:X.calm=true):eI X (.builtin "all") Bg:=eI.of (nY hc) fun σ H Pr ρ vs ds post E ps ⟨ks,e,h⟩=>by
 subst e
 obtain⟨v,rfl,r⟩:=km ps
 cases r with
 | lst hz rs =>
  have e:=iT rs
  subst e
  exact⟨_,ks,rfl,hz.l,_,E.cons_d (.bl _),h⟩
end
end L2
set_option exponentiation.threshold 2000
namespace L2
open PySem PySem.Spec PyProof.Rows
section
variable{X:Cx}{e a b:Expr}{pos p:Pos}{ta tb:W L}{x y:Str}
mutual
def a0:D→Bool
 |.int i=>decide (i.natAbs<2^1900)
 |.tup xs=>bA xs
 |.lst xs=>bA xs
 |_=>true
def bA:List D→Bool
 |[]=>true
 |x::xs=>a0 x && bA xs
end
theorem yX:(2:Nat)^1900<10^600:=by decide +kernel
theorem uH{i:Int}(h:i.natAbs<2^1900):(PyData.shown (.int i)).length≤601:=by
 have e:=PySem.int_text_length_le10 (k:=600) (by decide) (Nat.lt_trans h yX)
 show(Str.ofString (toString i)).length≤601
 rw[PySem.ofString_length];exact e
mutual
theorem g6:∀d:D,a0 d=true→(toP d).intsShort 601=true∧(toP d).showable=true
 |.non,_=>⟨rfl,rfl⟩
 |.bl _,_=>⟨rfl,rfl⟩
 |.str _,_=>⟨rfl,rfl⟩
 |.dct _,_=>⟨rfl,rfl⟩
 |.exc _ _ _,_=>⟨rfl,rfl⟩
 |.fn _ _,_=>⟨rfl,rfl⟩
 | .int i,h=>by
  have h':i.natAbs<2^1900:=by simpa only[a0,decide_eq_true_eq]using h
  refine⟨by simp only[toP,PyData.intsShort,decide_eq_true_eq];exact uH h',?_⟩
  simp only[toP,PyData.showable,decide_eq_true_eq]
  by_cases h0:i.natAbs=0
  ·
   rw[h0];decide
  ·
   exact(Nat.log2_lt h0).mpr (Nat.lt_of_lt_of_le h' (Nat.pow_le_pow_right (by decide) (by decide)))
 | .tup xs,h=>by
  obtain⟨h1,h2⟩:=kZ xs (by simpa only[a0]using h)
  exact⟨by simpa only[toP,PyData.intsShort]using h1,by simpa only[toP,PyData.showable]using h2⟩
 | .lst xs,h=>by
  obtain⟨h1,h2⟩:=kZ xs (by simpa only[a0]using h)
  exact⟨by simpa only[toP,PyData.intsShort]using h1,by simpa only[toP,PyData.showable]using h2⟩
theorem kZ:∀ds:List D,bA ds=true→PyData.intsShortAll 601 (toPs ds)=true∧PyData.showableAll (toPs ds)=true
 |[],_=>⟨rfl,rfl⟩
 | d::ds,h=>by
  simp only[bA,Bool.and_eq_true]at h
  obtain⟨h1,h2⟩:=g6 d h.1
  obtain⟨h3,h4⟩:=kZ ds h.2
  exact⟨by simp only[toPs,PyData.intsShortAll,h1,h3,Bool.and_self],by simp only[toPs,PyData.showableAll,h2,h4,Bool.and_self]⟩
end
def wB(d:D):Str:=(toP d).shown
structure qK (d:D):Prop where
 ok:okD 40 d=true
 sh:a0 d=true
 wt:(toP d).weight≤20000
theorem qK.len{d:D}(h:qK d):(toP d).shown.length≤sizeLine:=by
 have h1:=PyData.shown_le 601 (by decide) (toP d) (PyData.leavesShort_of_canLay0 601 _ (gp 40 d h.ok).1 (g6 d h.sh).1)
 have h2:=h.wt
 have e:sizeLine=16777216:=by decide
 rw[e]
 omega
def wRep(ta tb:W L):W L:=fun ρ post=>ta ρ fun r ρ1=>match r with
 |.own _ xs=>tb ρ1 fun r2 ρ2=>iK r2 fun j=>(0≤j∧j≤100000)∧xs.length*j.toNat≤sizeLine∧∀p,post (.own p (List.replicate j.toNat xs).flatten) ρ2
 |_=>False
theorem Reps.rep{K:PySem.W.Frag}{H:Hp}{vs:List V}{ds:List D}(r:Reps K H vs ds):∀k:Nat,Reps K H (List.replicate k vs).flatten (List.replicate k ds).flatten
 |0=>.nil
 | k+1=>by
  rw[List.replicate_succ,List.replicate_succ,List.flatten_cons,List.flatten_cons]
  exact r.append (Reps.rep r k)
theorem Bi(ha:PL X a ta)(hb:PL X b tb):PL X (.BinOp a .Mult b pos) (wRep ta tb):=by
 intro pins s σ H Pr ρ post I E h
 refine wpAny_BinOp (thn (ha pins s σ H Pr ρ _ I E h) fun u s1 ⟨v,H1,r,ρ1,I1,r1,E1,q1⟩=>?_)
 dsimp only at q1
 split at q1
 rotate_left
 ·
  exact q1.elim
 rename_i l xs
 refine thn (hb pins s1 σ H1 _ ρ1 _ I1 E1.tail.wide q1) fun u2 s2 ⟨y,H2,r2,ρ2,I2,ry,E2,q2⟩=>?_
 obtain⟨j,rfl,⟨h1,h2⟩,hz,q2⟩:=cf q2
 have E3:REnv X.K Pr H2 (some y::some v::σ) (.d (.int j)::.own l xs::ρ2):=REnv.step (τ:=[some v]) (lam:=[.own l xs]) (w:=[some y]) (μ:=[.d (.int j)]) E1 rfl E2 rfl
 obtain⟨_,e1,p1⟩:=E3.head_d
 cases e1
 cases p1
 obtain⟨hs,vs,hl,rs⟩:=E3.ownAt (i:=1) rfl
 have ev:v=.ref l:=by simpa using hs
 subst ev
 have E4:REnv X.K Pr H2 σ ρ2:=E3.tail.tail
 refine thn (AQ pins s2 σ H2 _ _ u u2 (fun z H'=>∃p,H2 p=none∧z=.ref p∧H'=upd H2 p (.lst (List.replicate j.toNat vs).flatten)) I2 r1 ry ⟨l,j,vs,rfl,rfl,hl,by omega,by omega,by rw[rs.length];exact hz,fun p hp=>⟨p,hp,rfl,rfl⟩⟩) fun w s3 ⟨z,H3,I3,rz,p,hp,e1,e2⟩=>?_
 subst e1 e2
 exact⟨.ref p,_,_,ρ2,I3,rz,E4.cons_own hp (rs.rep _),q2 p⟩
def wD:Op2:=fun x y k=>match x,y with
 |.str a,.str b=>k (.d (.bl (decide (a=b))))
 |_,_=>False
def wF:Op2:=fun x y k=>match x,y with
 |.str a,.str b=>k (.d (.bl (!decide (a=b))))
 |_,_=>False
theorem Bj:OpD X (compareOp .Eq) wD:=OpD.of B7 fun σ H Pr ρ x y dx dy post E px py h=>by
 unfold wD at h
 split at h
 ·
  cases px
  cases py
  rename_i a b
  refine⟨rfl,_,E.cons_d (.bl _),?_⟩
  have e:decide (V.str a=V.str b)=decide (a=b):=by simp
  rw[e]
  exact h
 ·
  exact h.elim
theorem Bk:OpD X (compareOp .NotEq) wF:=OpD.of B8 fun σ H Pr ρ x y dx dy post E px py h=>by
 unfold wF at h
 split at h
 ·
  cases px
  cases py
  rename_i a b
  refine⟨rfl,_,E.cons_d (.bl _),?_⟩
  have e:decide (V.str a=V.str b)=decide (a=b):=by simp
  rw[e]
  exact h
 ·
  exact h.elim
def fzW(f:Fl)(o:Option L)(j:Nat)(ρ1:Ev)(post:Fl→Ev→Prop):Prop:=match f with
 | .nx=>(match o with
  |some (.own _ xs)=>post .nx (ρ1.set j (.d (.lst xs)))
  |_=>post .nx ρ1)
 |f=>post f ρ1
theorem yY(a:Addr)(xs:List D)(j:Nat)(ρ1:Ev)(post:Fl→Ev→Prop):fzW .nx (some (.own a xs)) j ρ1 post=post .nx (ρ1.set j (.d (.lst xs))):=(rfl)
theorem Ck(x:D)(j:Nat)(ρ1:Ev)(post:Fl→Ev→Prop):fzW .nx (some (.d x)) j ρ1 post=post .nx ρ1:=(rfl)
end
section
variable{X:Cx}{pins:List (Addr×Obj)}{σ:St}{H Pr:Hp}{s:Shared}{ρ:Ev}{pos:Pos}
theorem Inv.past(I:Inv X pins σ H s):(s.heap.objs.size == sysModules)=false:=by
 have h:mainGlobals<s.heap.objs.size:=(I.mod.glob.keeps I.bk).lt
 exact beq_eq_false_iff_ne.mpr (Ne.symm (Nat.ne_of_lt (Nat.lt_trans (by decide) h)))
def yZ(n:Nat):W L:=fun ρ post=>post (.d (.dct n)) ρ
theorem REnv.cons_dct{a:Addr}{o:Obj}{kvs:List (Key×V)}(E:REnv X.K Pr H σ ρ)(h:H a=none):REnv X.K Pr (upd H a (.frz o (.dK kvs))) (some (.ref a)::σ) (.d (.dct kvs.length)::ρ) :=
 (E.new h).cons_d (.dct aC)
theorem wG:PL X (.Dict [] [] pos) (yZ 0):=by
 intro pins s σ H Pr ρ post I E hq
 have hf:H s.heap.objs.size=none:=I.hok.fresh (Nat.le_refl _)
 have I1:=I.laid (a:=s.heap.objs.size) (o:=.dK []) (h':=s.heap.push {cls:=.type "dict",data:=.dict #[] }) (t':=s.toks) (fun _ _ q=>Heap.get?_push_of_some _ q) (Nat.le_refl _) ⟨Nat.zero_le _,I.past,[],.nil,Heap.DictOf.new s.heap⟩
 obtain⟨o,I2⟩:=I1.freezeD aC
 rw[ya]at I2
 exact wpAny_Dict_empty ⟨.ref s.heap.objs.size,_,.d (.dct 0),ρ,I2,rfl,E.cons_dct (kvs:=[]) hf,hq⟩
def Itx(x:Str):It:=⟨fun i _=>i<x.cps.size,fun i H v H'=>(∃c,x.cps[i]?=some c∧v=.str ⟨#[c]⟩)∧H'=H,fun i _=>x.cps.size≤i⟩
theorem wH{P:Program}{w:World}{K:PySem.W.Frag}{tg:Expr}(it:Addr)(x:Str)(t:Tok):Turn P w K tg (Itx x) [it] it (fun i h=>h.IsStrIter it "str_ascii_iterator" x t i) where
 mem:=by simp
 obj:=fun i h st b hb=>by
  have e:b=it:=by simpa using hb
  subst e
  obtain⟨o,e,c,d⟩:=st
  exact⟨o,e,fun v z=>by rw[d]at z;cases z⟩
 keep:=fun i h h' st k=>by
  obtain⟨o,e,c,d⟩:=st
  exact⟨o,k it (by simp) o e,c,d⟩
 item:=by
  intro X hP hw hK hc i pins s σ H E I hf st hg
  subst hP hw hK
  obtain⟨f0,f1,f2,f3,f4,f5⟩:=hf it (by simp)
  refine wpAny_pyNext_ascii_item st (Array.getElem?_eq_getElem hg) fun h' st' sb=>?_
  have I1:Inv X pins σ H {s with heap:=h',toks:=s.toks+1}:=I.turned (t':=s.toks+1) (fun b o hb e=>(sb.2 b hb).trans e) f0 f1 f3 f4 f5
  obtain⟨o,e,c,d⟩:=id st'
  exact⟨_,rfl,vM (s:={s with heap:=h',toks:=s.toks+1}) e c d (by decide) ⟨.str ⟨#[x.cps[i]]⟩,H,I1,⟨_,rfl⟩,⟨⟨_,Array.getElem?_eq_getElem hg,rfl⟩,rfl⟩,st',fun b hb=>(hf b hb).1⟩⟩
 done:=by
  intro X hP hw hK hc i pins s σ H E I hf st hg
  subst hP hw hK
  obtain⟨f0,f1,f2,f3,f4,f5⟩:=hf it (by simp)
  exact wpAny_pyNext_ascii_end (I.ok.hd hc) st (Array.getElem?_eq_none hg) fun h' eb=>⟨rfl,I.turned (t':=s.toks) (fun b o hb e=>eb b o hb e) f0 f1 f3 f4 f5⟩
 self:=fun _ _ _ _ _ st h=>wpAny_pyIter_striter_ascii st h
def j4(x:Str):List D:=x.cps.toList.map fun c=>.str ⟨#[c]⟩
theorem uI{K:PySem.W.Frag}{H:Hp}(x:Str):rT K H (Itx x) (j4 x):=fun H' p=>by
 refine⟨fun i y e=>?_,?_⟩
 ·
  unfold j4 at e
  rw[List.getElem?_map]at e
  cases hc:x.cps.toList[i]? with
  |none=>rw[hc]at e;cases e
  | some c =>
   rw[hc]at e
   have ey:D.str ⟨#[c]⟩=y:=Option.some.inj e
   subst ey
   have hi:i<x.cps.size:=by simpa using(List.getElem?_eq_some_iff.mp hc).1
   refine⟨hi,fun v H2 ⟨⟨c',e1,e2⟩,e3⟩=>?_⟩
   have:x.cps[i]?=some c:=by simpa using hc
   rw[this]at e1
   cases e1
   subst e2 e3
   exact⟨.inl rfl,.str _⟩
 ·
  show x.cps.size≤(j4 x).length
  simp[j4]
def pH(d:D)(k:List D→Prop):Prop:=match d with
 |.str x=>x.cps.all (· < 128)=true∧k (j4 x)
 |_=>False
def y1(t:W L):W (List D):=fun ρ post=>t ρ fun r ρ1=>toD r fun x=>pH x fun xs=>post xs ρ1
theorem y2{e tg:Expr}{t:W L}(h:PL X e t):PIL X tg e (y1 t):=by
 intro pins s σ H Pr ρ post I E ht
 refine thn (h pins s σ H Pr ρ _ I E ht) fun u s1 q=>?_
 obtain⟨v,H1,x,ρ1,I1,r1,E1,q2⟩:=EL.frz (post:=fun x ρ1=>pH x fun xs=>post xs ρ1) q
 obtain⟨_,e1,p⟩:=E1.head_d
 cases e1
 cases p with
 | str y =>
  obtain⟨t,rfl⟩:=r1
  obtain⟨ha,q3⟩:y.cps.all (· < 128)=true∧post (j4 y) ρ1:=q2
  refine wpAny_pyIter_ascii ha ?_
  refine⟨s1.heap.objs.size,[s1.heap.objs.size],_,_,H1,_,ρ1,rfl,I1.kept (t':=s1.toks) fun b o e=>Heap.get?_push_of_some _ e,wH _ y t,⟨_,Heap.get?_push_size _ rfl,rfl,rfl⟩,fun b hb=>?_,E1.tail,uI y,q3⟩
  have e:b=s1.heap.objs.size:=by simpa using hb
  subst e
  exact I1.fpOk (Nat.le_refl _) (I1.hok.fresh (Nat.le_refl _))
 |_=>exact q2.elim
end
structure FX (K:PySem.W.Frag) (mg:Str→Option Value) (g:Str) (st:Stmt) (a:Addr) (fd:FuncData) (P:List Str):Prop where
 f:Fun K g g st a fd
 b:iE K fd P []
 m:mg g=some (.ref a)
abbrev fdM(g:Str)(st:Stmt)(md:Value)(c:Nat):FuncData:=PySem.W.fnOf g g (fY st) (bV st) (aq st) .none .none .none md none (.ref c) .none
theorem FX.mk'{K:PySem.W.Frag}{mg:Str→Option Value}{h:Heap}(X:K.In h)(G:h.Ns mainGlobals mg){g:Str}{st:Stmt}{a:Addr}{c:Nat}{md:Value}{P:List Str}(e1:PySem.W.nsIn K mainGlobals g=some (some (.ref a)))
  (e2:K.lookup a=some ⟨.type "function",none,.func (fdM g st md c),#[]⟩) (e3:PySem.W.codeIn K (.ref c) g=true) (e4:PySem.W.keepIn K (.ref a)=true)
  (e5:∀(kV doc pm:Value)(an:Option Addr)(cdv ct:Value)(us:List Value),us.length=P.length→bindArgs (PySem.W.fnOf g g (fY st) (bV st) (aq st) .none kV doc pm an cdv ct) ⟨us,[]⟩=pure (P.zip us)):FX K mg g st a (fdM g st md c) P :=
 ⟨jW e2 e3 e4,(jW e2 e3 e4).binds e5,PySem.W.mg_of X G e1⟩
section
variable{X:Cx}{k k' n:Nat}{f:Addr}{fd:FuncData}{ps:List Str}{fs:FS}{g:Str}{st:Stmt}{e:Expr}{es:List Expr}{bs:List (Option Nat)}{t:W (List L)}{p pos:Pos}
theorem bI(F:FnOk X.prog X.w X.K X.mg X.base CX0 k f fd ps (spF X.K n fs))(T:FX X.K X.mg g st f fd ps)(hr:Room k' X.A)(ha:PAL X (e::es) bs t)(hk:k≤k':=by decide)(hg:Gl X g:=by rfl)(hn:bs.length=n:=by rfl) (hdb:(g == ("__debug__" : Str))=false:=by decide) (he:starEach (e::es) X.env=(false,eval e X.env)::starEach es X.env:=by rfl) (hpl:(backTo pos (starEach es X.env)).any (·.1)=false:=by rfl) :
  PL X (.Call (.Name g p) (e::es) [] pos) (br fs t):=yy F (hr.mono hk) hg T.m T.f.kp T.b yp ha hn hdb he hpl
theorem bH(F:FnOk X.prog X.w X.K X.mg X.base CX0 k f fd ps (spF X.K n fs))(T:FX X.K X.mg g st f fd ps)(hr:Room k' X.A)(j i:Nat)(ha:PAL X (e::es) bs t)(hk:k≤k':=by decide)(hg:Gl X g:=by rfl)(hj:bs[j]?=some (some i):=by rfl)(hn:bs.length=n:=by rfl) (hdb:(g == ("__debug__" : Str))=false:=by decide) (he:starEach (e::es) X.env=(false,eval e X.env)::starEach es X.env:=by rfl) (hpl:(backTo pos (starEach es X.env)).any (·.1)=false:=by rfl) :
  PL X (.Call (.Name g p) (e::es) [] pos) (a8 fs j i t):=v9 F (hr.mono hk) hg T.m T.f.kp T.b yp j i ha hj hn hdb he hpl
end
mutual
def depD:D→Nat
 |.tup xs=>pJ xs+1
 |.lst xs=>pJ xs+1
 |_=>0
def pJ:List D→Nat
 |[]=>0
 |x::xs=>max (depD x) (pJ xs)
end
theorem qL{n:Nat}:∀{xs:List D},(∀x∈xs,depD x≤n)→pJ xs≤n
 |[],_=>Nat.zero_le _
 | y::ys,h=>by
  simp only[pJ]
  have:=h y List.mem_cons_self
  have:=qL (xs:=ys) fun x hx=>h x (List.mem_cons_of_mem _ hx)
  omega
section
variable{X:Cx}{a:Expr}
theorem uJ{h:Heap}{a:Addr}{its:Array Value}(z:IsTup h a its):∃ dd n sl,h.get? a=some ⟨.type "tuple",dd,.seq its n,sl⟩:=by
 obtain⟨o,e,c,n,d⟩:=z
 obtain⟨c',dd,dt,sl⟩:=o
 cases c
 cases d
 exact⟨dd,n,sl,e⟩
theorem uK{pins:List (Addr×Obj)}{σ:St}{H:Hp}{s:Shared}{x:V}{u:Value}{d:D}{b:Bool}{tp:Addr}{its:List Value}{Q:Value→Shared→Prop}{A:Around}{E:Value→Shared→Prop}(I:Inv X pins σ H s)(rx:RelV x u)(r:Rep X.K H x d)(ht:IsTup s.heap tp its.toArray)
  (e:∀ t,TyD X.K d t→PySem.W.kitAny X.K t its=some b) (h:∀ tk,Q (.bool b) {s with toks:=tk}):wpAny (model X.prog X.w) A (call (.builtin "isinstance") [u,.ref tp]) Q E s:=by
 obtain⟨dd,n,sl,ht⟩:=uJ ht
 cases r with
 |non=>cases rx;exact PySem.W.kia_tup PySem.W.kitx_none I.kIn True.intro ht (e _ rfl) (fun z=>nomatch z) h
 |bl y=>cases rx;exact PySem.W.kia_tup PySem.W.kitx_bool I.kIn True.intro ht (e _ rfl) (fun z=>nomatch z) h
 |int i=>obtain⟨t,rfl⟩:=rx;exact PySem.W.kia_tup PySem.W.kitx_int I.kIn True.intro ht (e _ rfl) (fun z=>nomatch z) h
 |str y=>obtain⟨t,rfl⟩:=rx;exact PySem.W.kia_tup PySem.W.kitx_str I.kIn True.intro ht (e _ rfl) (fun z=>nomatch z) h
 | lst hz rs =>
  cases rx
  obtain⟨its',_,⟨o,n',e1,c1,_,_⟩,_⟩:=I.list hz.l
  exact PySem.W.kia_tup PySem.W.kitx_list I.kIn ⟨o,e1,c1⟩ ht (e _ rfl) (fun z=>nomatch z) h
 | tup hz rs =>
  cases rx
  obtain⟨its',_,⟨o,e1,c1,_⟩,_⟩:=I.tuple hz
  exact PySem.W.kia_tup PySem.W.kitx_tuple I.kIn ⟨o,e1,c1⟩ ht (e _ rfl) (fun z=>nomatch z) h
 | @dct a' o kvs hz =>
  cases rx
  obtain⟨_,_,_,vs,_,o',es,ep,h1,h2,_⟩:=(show b9 X.prog X.w H s.heap a' (.frz o (.dK kvs))from I.hok a' _ hz)
  exact PySem.W.kia_tup PySem.W.kitx_dict I.kIn ⟨o',h1,h2.1⟩ ht (e _ rfl) (fun z=>nomatch z) h
 | @exc a o u cc C ns vs ds h1 hv hc hn hs hq hf rs =>
  cases rx
  obtain⟨od,Ia,_⟩:=mM I h1 hc hn hf
  obtain⟨LL,cd,S⟩:=cV hs
  exact PySem.W.kia_tup (qt S) I.kIn ⟨_,_,Ia⟩ ht (e _ ⟨C,rfl,hs⟩) (fun z=>nomatch z) h
 | fn hl hf hq hc hz hd hv hm r =>
  cases rx
  exact PySem.W.kia_tup tV I.kIn ⟨_,(I.hok _ _ hf).1,rfl⟩ ht (e _ rfl) (fun z=>nomatch z) h
end
end L2
namespace L2
open PySem PySem.Spec PyProof.Rows PySem.Builtin.Str
inductive Sk where
 |l|t
abbrev Zi:=Sk×Addr×Addr
def Zi.ofs(js:List Zi):List Addr:=js.map (·.2.1)
def Bl(z O:Addr)(js:List Zi)(h h':Heap):Prop:=∀c o,c∉z::O::Zi.ofs js→h.get? c=some o→h'.get? c=some o
def Sk.nm:Sk→String
 |.l=>"list_iterator"
 |.t=>"tuple_iterator"
section
variable{z O:Addr}{js:List Zi}
theorem Bl.mono{h h':Heap}(k:Bl z O js h h'){c:Addr}{o:Obj}(hc:c∉z::O::Zi.ofs js)(e:h.get? c=some o):h'.get? c=some o:=k c o hc e
end
end L2
namespace L2
open PySem PySem.Spec PyProof.Rows
end L2
namespace L2
open PySem PySem.Spec PyProof.Rows PySem.W
def y3(K:Frag)(C fI:Addr):Bool:=(match K.lookup C with
 | some ⟨.type "type",_,.cls cd,sl⟩=>(match cd.mro,sl.toList with
  |.ref C'::bm,[_,_,_,_,some (.builtin n),_]=>C' == C && n == "ValueError.__new__" && !cd.hasDel && bm.contains (.type "ValueError") && !(bm.contains (.type "AttributeError")) && !(bm.contains (.type "NameError"))
  |_,_=>false)
 |_=>false) && findIn K (.ref C) "__init__" == some (some (.ref fI)) && typeIn K (.ref fI) == some (.type "function")
structure XMk (K:Frag) (C fI:Addr):Prop where
 ex:∃ nm q N bs bm hdct sn sub ab col dd k0 k1 k2 k3 k5,K.lookup C=some (excClassObj nm q C N bs bm hdct sn sub ab col dd k0 k1 k2 k3 k5 "ValueError.__new__")∧bm.contains (.type "ValueError")=true∧bm.contains (.type "AttributeError")=false∧bm.contains (.type "NameError")=false
 init:findIn K (.ref C) "__init__"=some (some (.ref fI))
 fn:typeIn K (.ref fI)=some (.type "function")
theorem Bm{K:Frag}{C fI:Addr}(h:y3 K C fI=true):XMk K C fI:=by
 unfold y3 at h
 simp only[Bool.and_eq_true,beq_iff_eq]at h
 obtain⟨⟨h,h1⟩,h2⟩:=h
 refine⟨?_,h1,h2⟩
 split at h
 ·
  rename_i dd cd sl ho
  split at h
  ·
   rename_i C' bm k0 k1 k2 k3 n k5 hm hs
   simp only[Bool.and_eq_true,beq_iff_eq,Bool.not_eq_true']at h
   obtain⟨⟨⟨⟨⟨rfl,rfl⟩,hdel⟩,e1⟩,e2⟩,e3⟩:=h
   obtain⟨nm,bs,mro,ns,qn,hd,sn,sub,ab,col,del⟩:=cd
   dsimp only at hm hdel
   subst hm hdel
   obtain⟨l⟩:=sl
   simp only at hs
   subst hs
   exact⟨nm,qn,ns,bs,bm,hd,sn,sub,ab,col,dd,k0,k1,k2,k3,k5,ho,e1,e2,e3⟩
  ·
   cases h
 ·
  cases h
section
variable{prog:Program}{w:World}{A:Around}{E:Value→Shared→Prop}{h:Heap}{g:Array GenState}{d:Drawn}{t:Nat}{os:OsState}
variable{nm q:Str}{C N:Addr}{bs bm:List Value}{hdct:Bool}{sn:List Str}{sub:List Value}{ab:Bool}{col:Option Bool}{dd:Option Addr}{k0 k1 k2 k3 k5:Option Value}
theorem sj{M:Model}{rest:List Value}{Q:Unit→Shared→Prop} (hC:h.get? C=some (excClassObj nm q C N bs bm hdct sn sub ab col dd k0 k1 k2 k3 k5 "ValueError.__new__")) (hv:bm.contains (.type "ValueError")=true)
  (hq:Q () ⟨h,g,d,t,os⟩):wpAny M A (checkBuiltinCall "ValueError.__new__" ⟨.ref C::rest,[]⟩) Q E ⟨h,g,d,t,os⟩:=by
 have FB:=F.excBase_ValueError
 have hb:(Value.ref C::bm).contains (.type "ValueError")=true:=by rw[List.contains_cons,hv,Bool.or_true]
 have hst:=FB.noStar
 simp only[checkBuiltinCall,FB.newKind,FB.newSplit,FB.newRow]
 repeat (first|refine wpAny_loadPart_at hC ?_|(refine wpAny_isSubtype_exc hC ?_;rw[hb])|refine wpAny_staticBase_exc hC ?_|refine wpAny_madeBy_exc hC ?_|simp only[bne_self_eq_false,Bool.false_eq_true,if_false] | wp_step)
 exact hq
theorem wJ{rest:List Value}{R:Result→Shared→Prop} (hC:h.get? C=some (excClassObj nm q C N bs bm hdct sn sub ab col dd k0 k1 k2 k3 k5 "ValueError.__new__")) (hv:bm.contains (.type "ValueError")=true) (ha:bm.contains (.type "AttributeError")=false) (hn:bm.contains (.type "NameError")=false)
  (hz:rest.length≤sizeLine) (hq:R (.ok (.ret (.ref (h.objs.size+1)))) ⟨(h.push {cls:=.type "tuple",data:=.seq rest.toArray}).push {cls:=.ref C,data:=.fields #[.ref h.objs.size,.none,.none,.none,.bool false,.none] },g,d,t,os⟩) :
  codeAny (model prog w) A (.builtin "ValueError.__new__" ⟨.ref C::rest,[]⟩) R ⟨h,g,d,t,os⟩:=by
 have FB:=F.excBase_ValueError
 have hends:=FB.ends
 have c1:(Value.ref C::bm).contains (.type "ValueError")=true:=by rw[List.contains_cons,hv,Bool.or_true]
 have c2:(Value.ref C::bm).contains (.type "AttributeError")=false:=by rw[List.contains_cons,ha]; rfl
 have c3:(Value.ref C::bm).contains (.type "NameError")=false:=by rw[List.contains_cons,hn]; rfl
 refine codeAny_builtinAt FB.entry ?_
 unfold Builtin.«BaseException.__new__»
 refine PySem.wpAt_bind ?_
 show PySem.wpAt _ _ _ (stack >>= _) _ _ _
 refine PySem.wpAt_bind (PySem.wpAt_stack fun p below=>PySem.wpAt_of_wpAny ?_)
 wp_walk
 refine PySem.wpAt_of_wpAny ?_
 rw[FB.owner]
 repeat (first|with_reducible refine wpAny_madeHere_exc FB.canon hC ?_|with_reducible refine wpAny_loadPart_at hC ?_|(with_reducible refine wpAny_isSubtype_exc hC ?_;first|rw[c1] | rw[c2] | rw[c3])|wp_step)
 show R _ _
 rw[Heap.size_push]
 exact hq
theorem Cm{K:Frag}{fI:Addr}{rest:List Value}{Q:Value→Shared→Prop}(X:K.In h)(M:XMk K C fI)(hz:rest.length≤sizeLine)
  (hq:∀ h' e,Heap.MadeExcOf h h' e (.ref C) rest→h.objs.size≤e→wpAny (model prog w) (A.under (.builtin "type.__call__" ⟨.ref C::rest,[]⟩)) (call (.ref fI) (.ref e::rest)) (fun r s'=>r=.none∧Q (.ref e) s') E ⟨h',g,d,t,os⟩) :
  wpAny (model prog w) A (call (.ref C) rest) Q E ⟨h,g,d,t,os⟩:=by
 obtain⟨nm,q,N,bs,bm,hdct,sn,sub,ab,col,dd,k0,k1,k2,k3,k5,hK,b1,b2,b3⟩:=M.ex
 have hC:=X _ _ hK
 have FB:=F.excBase_ValueError
 have f1:=tc_lookup
 have f2:=tc_bind (.ref C)
 have hT:(⟨h,g,d,t,os⟩:Shared).TypeIs (.ref C) "type":=⟨_,hC,rfl⟩
 refine wpAny_call (codeAny_of_tree ?_)
 show wpAny _ _ (callAny (.ref C) _) _ _ _
 repeat (any_goals (first|assumption|with_reducible refine wpAny_loadPart_at hC ?_|wp_step))
 refine⟨rfl,?_⟩
 refine codeAny_call_builtin_at (Code.quiet_builtin _ (by decide +kernel)) entry_typeCall (wpAny_check_type_call_sub hC ?_)
 repeat (first|with_reducible refine wpAny_loadPart_at hC ?_|with_reducible refine wpAny_madeBy_exc hC ?_|wp_step)
 refine codeAny_call_builtin_code (Code.quiet_builtin _ FB.quiet) (sj hC b1 ?_)
 refine wJ hC b1 b2 b3 hz ?_
 have kp:∀ b o,h.get? b=some o→((h.push {cls:=.type "tuple",data:=.seq rest.toArray}).push {cls:=.ref C,data:=.fields #[.ref h.objs.size,.none,.none,.none,.bool false,.none] }).get? b=some o:=fun b o e=>Heap.get?_push_of_some _ (Heap.get?_push_of_some _ e)
 have hC1:=kp _ _ hC
 have X1:K.In _:=X.keeps kp
 have hg:((h.push {cls:=.type "tuple",data:=.seq rest.toArray}).push {cls:=.ref C,data:=.fields #[.ref h.objs.size,.none,.none,.none,.bool false,.none] }).get? (h.objs.size+1)=some {cls:=.ref C,data:=.fields #[.ref h.objs.size,.none,.none,.none,.bool false,.none] }:=by heap_get
 have cC:(Value.ref C::bm).contains (.ref C)=true:=by simp
 show wpAny _ _ _ _ _ ⟨(h.push {cls:=.type "tuple",data:=.seq rest.toArray}).push {cls:=.ref C,data:=.fields #[.ref h.objs.size,.none,.none,.none,.bool false,.none] },g,d,t,os⟩
 unfold isInstance
 repeat (first|with_reducible refine wpAny_loadPart_at hg ?_|(with_reducible refine wpAny_isSubtype_exc hC1 ?_;rw[cC])|wp_step)
 have L1:=looks_findIn (M:=model prog w) X1 M.init
 have L2:=bind_fn (M:=model prog w) X1 (.ref (h.objs.size+1)) M.fn
 show wpAny _ _ (typeLookup (.ref C) _) _ _ _
 refine L1.at (wpAny_holding (wpAny_bind (L2.at ?_)))
 refine wpAny_bind (wpAny_mono (hq _ (h.objs.size+1) ⟨kp,Heap.get?_none_of_le (Nat.le_succ _),h.objs.size,hg,Heap.get?_none_of_le (Nat.le_refl _),Heap.get?_push_of_some _ (Heap.get?_push_at rfl rfl)⟩ (Nat.le_succ _)) (fun r s' hr=>?_) fun _ _ x=>x)
 obtain⟨rfl,hQ⟩:=hr
 wp_walk
 exact hQ
end
section
variable{prog:Program}{w:World}{A:Around}{E:Value→Shared→Prop}{s:Shared}{K:Frag}{c:Str}{C L:Addr}{cd:ClassData}{env:Env}
structure Fly (h:Heap) (e:Addr) (cls:Value) (dx T:Option Addr):Prop where
 ex:∃vs sl,h.get? e=some ⟨cls,dx,.fields vs,sl⟩∧1<vs.size∧(match T with
  |none=>vs[1]?=some .none
  |some t=>vs[1]?=some (.ref t)∧t≠e∧∃ot ts,h.get? t=some ot∧ot.data=.fields ts∧ts[3]?=some .none)
theorem Bn{x:Sem Value}{Q:Flow→Shared→Prop}(S:XStd K c C L cd)(hh:A.handled=none)
  (h:wpAny (model prog w) A x (fun v s1=>∃e dx,v=.ref e∧K.In s1.heap∧Fly s1.heap e (.ref C) dx none∧E (.ref e) s1) E s):wpAny (model prog w) A (raiseStmt env (some x) none) Q E s:=by
 unfold raiseStmt
 refine wpAny_bind (wpAny_mono h (fun v s1 h1=>?_) fun _ _ z=>z)
 obtain⟨e,dx,rfl,X,⟨vs,sl,he,hz,h1⟩,hE⟩:=h1
 obtain⟨hp,g,d,tk,os⟩:=s1
 have h1:vs[1]?=some .none:=h1
 have he:hp.get? e=some ⟨.ref C,dx,.fields vs,sl⟩:=he
 obtain⟨oc,odc,slc,hK⟩:=kM S.cls
 have hC:hp.get? C=some ⟨oc,odc,.cls cd,slc⟩:=X _ _ hK
 have hoc:oc=.type "type":=by
  have z:(K.lookup C).map (·.cls)=some (.type "type"):=S.ty
  rw[hK]at z
  exact Option.some.inj z
 subst hoc
 have Lb:=S.isT (M:=model prog w) X "BaseException"
 have eb:(["ValueError","Exception","BaseException","object"]:List String).contains "BaseException"=true:=by decide
 rw[eb]at Lb
 repeat (first|with_reducible refine wpAny_loadPart_at he ?_|with_reducible refine wpAny_loadPart_at hC ?_|with_reducible refine Lb.at ?_|with_reducible refine wpAny_field he rfl h1 ?_|wp_step)
 exact wpAny_raiseNew_none hh hE
theorem y4{base:Heap}{outer:List Env}{F e:Addr}{cls:Value}{dx T:Option Addr}{Q:Unit→Shared→Prop}
  (hfr:A.frames=some (env::outer)) (hl:s.heap.FunFrames base (env::outer)) (hf:env.frame=some F) (fl:Fly s.heap e cls dx T)
  (hq:∀h' T',Fly h' e cls dx (some T')→s.heap.objs.size≤T'→(∀b o,b≠e→some b≠T→b∉frs (env::outer)→s.heap.get? b=some o→h'.get? b=some o) →
   (∀b o,b≠e→some b≠T→s.heap.get? b=some o→∃sl,h'.get? b=some {o with slots:=sl})→Q () {s with heap:=h' }) :
  wpAny (model prog w) A (noteFrame (.ref e) env) (fun _ s2=>wpAny (model prog w) A (setFlight (.ref e) none) Q E s2) E s:=by
 obtain⟨vs,sl,he,hz,hT⟩:=fl
 have nof:∀b o vs',s.heap.get? b=some o→o.data=.fields vs'→b∉frs (env::outer):=fun b o vs' hb hd hm=>by
  obtain⟨_,o',ho',hn'⟩:=hl.mem hm
  rw[hb]at ho';cases ho'
  exact hn' _ hd
 have entry:∀(s1:Shared)(vs1:Array Value)(head:Value)(hn:Bool),s1.heap.get? e=some ⟨cls,dx,.fields vs1,sl⟩→1<vs1.size→s1.heap.FunFrames base (env::outer) →
   (∀b o,b≠e→some b≠T→s.heap.get? b=some o→s1.heap.get? b=some o)→s1.heap.objs.size=s.heap.objs.size→s1={s with heap:=s1.heap} →
   wpAny (model prog w) A (do let a ← frameOf env;let pl ← entryPlaceOf F hn;let b ← EntryCells.newEntry head a .none (rawInt F) .none pl;setField (.ref e) 1 b) (fun _ s2=>wpAny (model prog w) A (setFlight (.ref e) none) Q E s2) E s1:=by
  intro s1 vs1 head hn he1 hz1 hl1 kp sz es
  have nof1:∀b o vs',s1.heap.get? b=some o→o.data=.fields vs'→b∉frs (env::outer):=fun b o vs' hb hd hm=>by
   obtain⟨_,o',ho',hn'⟩:=hl1.mem hm
   rw[hb]at ho';cases ho'
   exact hn' _ hd
  refine wpAny_bind (wpAny_frameOf_fun hfr hl1 hf fun h1 hs1=>?_)
  refine wpAny_bind (wpAny_entryPlaceOf fun pl hpl=>?_)
  unfold EntryCells.newEntry newFields
  refine wpAny_bind (wpAny_newObj_type ?_ (hpl.sizeOk5 _ _ _ _ _))
  generalize hob:({cls:=.type "traceback",dict:=none,data:=.fields ([head,Value.ref F,.none,rawInt F,.none]++(if pl.isEmpty then List.replicate 6 Value.none else pl)).toArray}:Obj)=ob
  have hod:∃ts,ob.data=.fields ts∧3<ts.size:=by
   subst hob
   exact⟨_,rfl,by simp only[List.size_toArray,List.length_append,List.length_cons,List.length_nil];omega⟩
  obtain⟨ts,hod,hts⟩:=hod
  have he2:h1.get? e=some ⟨cls,dx,.fields vs1,sl⟩:=(hs1.2.1 e (nof1 _ _ _ he1 rfl)).trans he1
  have he3:=Heap.get?_push_of_some (h:=h1) ob he2
  have ne:h1.objs.size≠e:=Nat.ne_of_gt (Heap.lt_size he2)
  refine wpAny_setField he3 rfl hz1 ?_
  have he4:=Heap.get?_update_self (Obj.mapFields (·.setIfInBounds 1 (Value.ref h1.objs.size))) he3 rfl
  have hT4:=(Heap.get?_update_other (h1.push ob) (Obj.mapFields (·.setIfInBounds 1 (Value.ref h1.objs.size))) (Ne.symm ne)).trans (Heap.get?_push_size h1 (by obtain⟨_,_,dt,_⟩:=ob;cases hod;rfl))
  unfold setFlight
  refine wpAny_bind (wpAny_field he4 rfl (x:=.ref h1.objs.size) (by simp[hz1]) ?_)
  rw[if_pos (show(Value.ref h1.objs.size != Value.none)=true from by simp)]
  refine wpAny_setField hT4 hod hts ?_
  rw[es]
  have keep:∀b o,b≠e→h1.get? b=some o→(((h1.push ob).update e (Obj.mapFields (·.setIfInBounds 1 (Value.ref h1.objs.size)))).update h1.objs.size (Obj.mapFields (·.setIfInBounds 3 ((none:Option Addr).elim Value.none fun f=>rawInt f)))).get? b=some o:=fun b o hb e1=>by
   rw[Heap.get?_update_other _ _ (Nat.ne_of_gt (Heap.lt_size e1)),Heap.get?_update_other _ _ (Ne.symm hb)]
   exact Heap.get?_push_of_some _ e1
  refine hq _ h1.objs.size ⟨vs1.setIfInBounds 1 (.ref h1.objs.size),sl,?_,by simpa using hz1,by simp[hz1],ne,_,_,Heap.get?_update_self _ hT4 (Obj.isFreed_of_fields (Obj.data_mapFields hod _)),Obj.data_mapFields hod _,by simp[hts]⟩ ?_ (fun b o hb hbT hbf e1=>?_) fun b o hb hbT e1=>?_
  ·
   rw[Heap.get?_update_other _ _ ne];exact he4
  ·
   rw[hs1.1,sz];exact Nat.le_refl _
  ·
   exact keep b o hb ((hs1.2.1 b hbf).trans (kp b o hb hbT e1))
  ·
   obtain⟨sl',e2⟩:=hs1.2.2 b o (kp b o hb hbT e1)
   exact⟨sl',keep b _ hb e2⟩
 unfold noteFrame
 simp only[hf]
 cases T with
 | none =>
  refine wpAny_bind (wpAny_field he rfl hT ?_)
  rw[if_neg (by decide)]
  exact entry s vs .none _ he hz hl (fun _ _ _ _ e1=>e1) rfl rfl
 | some t =>
  obtain⟨h1,hte,ot,ts,ht,hdt,h3⟩:=hT
  refine wpAny_bind (wpAny_field he rfl h1 ?_)
  rw[if_pos (show(Value.ref t != Value.none)=true from by simp)]
  refine wpAny_bind (wpAny_field ht hdt h3 ?_)
  rw[if_neg (show ¬((Value.none == rawInt F)=true)from by simp[rawInt])]
  refine wpAny_bind (wpAny_setField ht hdt (Array.getElem?_eq_some_iff.mp h3).1 ?_)
  have oth:∀b,b≠t→(s.heap.update t (Obj.mapFields (·.setIfInBounds 3 Value.none))).get? b=s.heap.get? b:=fun b hb=>Heap.get?_update_other _ _ (Ne.symm hb)
  refine entry _ vs (.ref t) _ ((oth e (Ne.symm hte)).trans he) hz (hl.of_keeps fun b o hb hnf=>⟨o,(oth b fun q=>?_).trans hb,rfl⟩) (fun b o hb hbT e1=>(oth b fun q=>hbT (by rw[q])).trans e1) (by simp) rfl
  rw[q,ht]at hb;cases hb;exact hnf ts hdt
theorem Bo{e T:Addr}{cls:Value}{dx:Option Addr}{Q:Unit→Shared→Prop}(fl:Fly s.heap e cls dx (some T))
  (hq:∀h',Fly h' e cls dx (some T)→(∀b o,b≠T→s.heap.get? b=some o→h'.get? b=some o)→Q () {s with heap:=h' }):wpAny (model prog w) A (setFlight (.ref e) none) Q E s:=by
 obtain⟨vs,sl,he,hz,h1,hte,ot,ts,ht,hdt,h3⟩:=fl
 have hts:=(Array.getElem?_eq_some_iff.mp h3).1
 unfold setFlight
 refine wpAny_bind (wpAny_field he rfl h1 ?_)
 rw[if_pos (show(Value.ref T != Value.none)=true from by simp)]
 refine wpAny_setField ht hdt hts (hq _ ⟨vs,sl,?_,hz,h1,hte,_,_,Heap.get?_update_self _ ht (Obj.isFreed_of_fields (Obj.data_mapFields hdt _)),Obj.data_mapFields hdt _,by simp[hts]⟩ fun b o hb e1=>?_)
 ·
  rw[Heap.get?_update_other _ _ hte];exact he
 ·
  rw[Heap.get?_update_other _ _ (Ne.symm hb)];exact e1
end
def del(H:Hp)(e:Addr):Hp:=fun b=>if b=e then none else H b
theorem b7{H:Hp}{e b:Addr}(h:b≠e):del H e b=H b:=by unfold del;rw[if_neg h]
theorem iU{H:Hp}{e:Addr}:del H e e=none:=by unfold del;rw[if_pos rfl]
theorem d9{H:Hp}{e b:Addr}(h:H b=none):del H e b=none:=by unfold del;split;rfl;exact h
section
variable{X:Cx}{pins:List (Addr×Obj)}{σ:St}{H:Hp}{s:Shared}
theorem Inv.forget{e:Addr}{φ:Heap→Prop}(I:Inv X pins σ H s)(h:H e=some (.ext φ)):Inv X pins σ (del H e) s:=by
 have ne:∀b o,H b=some o→(∀ψ,o≠.ext ψ)→b≠e:=fun b o q n z=>by subst z;rw[h]at q;cases q;exact n _ rfl
 refine⟨I.ok,I.os,I.bare,⟨I.base.keep,I.base.slot,fun b o e1 n hx=>d9 (I.base.free b o e1 n hx),I.base.there,fun b xs q=>?_,fun b o u q=>?_,fun b ps q=>?_⟩,I.loc,I.cell,d9 I.free,fun x c q=>(I.freeC x c q).imp d9 fun⟨hf,o,z⟩=>⟨hf,o,by rw[b7 (ne c _ z fun _ q=>nomatch q)];exact z⟩,fun p hp=>?_,fun b u q=>?_,I.len⟩
 ·
  have z:=I.base.tups b xs q
  rw[b7 (ne b _ z fun _ q=>nomatch q)];exact z
 ·
  have z:=I.base.frzs b o u q
  rw[b7 (ne b _ z fun _ q=>nomatch q)];exact z
 ·
  have z:=I.base.tbls b ps q
  rw[b7 (ne b _ z fun _ q=>nomatch q)];exact z
 ·
  obtain⟨a1,a2,a3⟩:=I.pin p hp
  exact⟨a1,d9 a2,a3⟩
 ·
  have hb:b≠e:=fun z=>by subst z;rw[iU]at q;cases q
  rw[b7 hb]at q
  exact(I.hok b u q).stay (fun c v _ z=>z) (fun c z=>by rw[b7 (ne c _ z fun _ q=>nomatch q)];exact z) (fun c xs z=>by rw[b7 (ne c _ z fun _ q=>nomatch q)];exact z) fun c ob _ _ z=>by rw[b7 (ne c _ z fun _ q=>nomatch q)];exact z
theorem Inv.track{e:Addr}{o:HO}(I:Inv X pins σ H s)(hn:H e=none)(h0:X.s₀.heap.objs.size≤e)(hL:e≠X.env.locals)(hc:∀x c,X.env.cells.lookup x=some c→c≠e)(hp:∀p∈X.pn++pins,p.1≠e)
  (new:b9 X.prog X.w (upd H e o) s.heap e o):Inv X pins σ (upd H e o) s:=by
 have ne:∀b u,H b=some u→b≠e:=fun b u q z=>by subst z;rw[hn]at q;cases q
 refine⟨I.ok,I.os,I.bare,⟨I.base.keep,I.base.slot,fun b u e1 n hx=>?_,I.base.there,fun b xs q=>?_,fun b u z q=>?_,fun b ps q=>?_⟩,I.loc,I.cell,?_,fun x c q=>?_,fun p hq=>?_,fun b u q=>?_,I.len⟩
 ·
  rw[aj (fun z=>by subst z;exact absurd (Heap.lt_size e1) (Nat.not_lt.mpr h0))];exact I.base.free b u e1 n hx
 ·
  have z:=I.base.tups b xs q
  rw[aj (ne b _ z)];exact z
 ·
  have z:=I.base.frzs b _ _ q
  rw[aj (ne b _ z)];exact z
 ·
  have z:=I.base.tbls b ps q
  rw[aj (ne b _ z)];exact z
 ·
  rw[aj (Ne.symm hL)];exact I.free
 ·
  rw[aj (hc x c q)];exact I.freeC x c q
 ·
  obtain⟨a1,a2,a3⟩:=I.pin p hq
  exact⟨a1,by rw[aj (hp p hq)];exact a2,a3⟩
 ·
  by_cases hb:b=e
  ·
   subst hb;rw[aC]at q;cases q;exact new
  ·
   rw[aj hb]at q
   exact(I.hok b u q).stay (fun c v _ z=>z) (fun c z=>by rw[aj (ne c _ z)];exact z) (fun c xs z=>by rw[aj (ne c _ z)];exact z) fun c ob _ _ z=>by rw[aj (ne c _ z)];exact z
end
def vis(o:HO):Prop:=Pers o∧vV o
open Classical in
noncomputable def hidH(H:Hp):Hp:=fun b=>match H b with
 |some o=>if vis o then some o else none
 |none=>none
theorem dN{H:Hp}{b:Addr}(h:H b=none):hidH H b=none:=by unfold hidH;rw[h]
theorem bj{H:Hp}{b:Addr}{o:HO}(h:H b=some o)(v:vis o):hidH H b=some o:=by unfold hidH;rw[h];exact if_pos v
theorem y9{H:Hp}{b:Addr}{o:HO}(h:hidH H b=some o):H b=some o∧vis o:=by
 unfold hidH at h
 split at h
 ·
  rename_i u e
  split at h
  ·
   rename_i v;cases h;exact⟨e,v⟩
  ·
   cases h
 ·
  cases h
theorem zb{H:Hp}{b:Addr}{o:HO}(h:H b=some o)(v:¬vis o):hidH H b=none:=by unfold hidH;rw[h];exact if_neg v
theorem b9.stayN{P:Program}{w:World}{H H':Hp}{h h':Heap}{a:Addr}:∀{o:HO},vV o→b9 P w H h a o→(∀u,h.get? a=some u→h'.get? a=some u)→(∀b xs,H b=some (.tup xs)→H' b=some (.tup xs))→(∀b o q,hU o q→H b=some (.frz o (.own b))→H' b=some (.frz o (.own b)))→b9 P w H' h' a o
 |.lst xs,_,x,k,_,_=>by obtain⟨z,its,n,r,e⟩:=x;exact⟨z,its,n,r,k _ e⟩
 |.tup xs,_,x,k,_,_=>by obtain⟨z,its,r,ob,e,c⟩:=x;exact⟨z,its,r,ob,k _ e,c⟩
 |.dK kvs,_,x,k,_,_=>by obtain⟨z,y,vs,r,ob,es,ep,e,c⟩:=x;exact⟨z,y,vs,r,ob,es,ep,k _ e,c⟩
 | .dT kvs,_,x,k,ht,_=>by
  obtain⟨z,y,xs,r,ob,es,ep,e,c⟩:=x
  exact⟨z,y,xs,Paired.mapP r fun p q z=>⟨z.1,ht _ _ z.2.1,z.2.2⟩,ob,es,ep,k _ e,c⟩
 |.set S n,_,x,k,_,_=>by obtain⟨ob,es,ep,t,e,c⟩:=x;exact⟨ob,es,ep,t,k _ e,c⟩
 |.ins C dx fs,n,_,_,_,_=>n.elim
 |.own y,_,x,k,_,_=>by obtain⟨ob,e⟩:=x;exact⟨ob,k _ e⟩
 |.xd fs,_,x,k,_,_=>by obtain⟨mA,⟨od,es,ep,e,c⟩,r⟩:=x;exact⟨mA,⟨od,es,ep,k _ e,c⟩,r⟩
 |.rng lo hi,_,x,k,_,_=>by obtain⟨t,u,v,e⟩:=x;exact⟨t,u,v,k _ e⟩
 |.frz ob u,n,x,k,ht,hf=>by obtain⟨e,q⟩:=x;exact⟨k _ e,b9.stayN (o:=u) n q k ht hf⟩
 | .tbl t,_,x,k,_,hf=>by
  obtain⟨ps,e,tr,m⟩:=x
  exact⟨ps,k _ e,tr,fun pos cv z=>let ⟨c',oc,a1,a2,a3⟩:=m pos cv z;⟨c',oc,a1,hf _ _ _ a3 a2,a3⟩⟩
 | .met f y,_,x,k,_,_=>by
  have e:h.get? a=some (PySem.W.methodObj (.ref f) (.ref y)):=x
  exact(k _ e:h'.get? a=some (PySem.W.methodObj (.ref f) (.ref y)))
 |.ext φ,_,x,k,_,_=>by obtain⟨p,⟨o,e⟩,st⟩:=x;exact⟨st _ _ p k,⟨o,k _ e⟩,st⟩
theorem pK(xs:List V):vis (.tup xs):=⟨True.intro,True.intro⟩
theorem uL(q:Str):vis (.tbl q):=⟨True.intro,True.intro⟩
theorem iV(o:Obj)(y:Addr):vis (.frz o (.own y)):=⟨True.intro,True.intro⟩
section
variable{X:Cx}{pins:List (Addr×Obj)}{σ:St}{H H':Hp}{s s':Shared}
theorem Inv.hide(I:Inv X pins σ H s):Env0 X.prog X.w X.K X.mg X.base X.A X.stack s (hidH H):=by
 have e0:=I.env0
 refine⟨e0.frames,e0.mod,fun b o e=>⟨(e0.bs b o e).1,dN (e0.bs b o e).2⟩,e0.bsz,e0.funs,fun b hb=>dN (e0.frf b hb),fun b o e=>?_,e0.bare,fun x hx c P e=>bj (e0.tbs x hx c P e) (uL _)⟩
 obtain⟨e1,v⟩:=y9 e
 exact b9.stayN v.2 (e0.hok b o e1) (fun _ z=>z) (fun c xs z=>bj z (pK xs)) fun c ob _ _ z=>bj z (iV ob c)
open Classical in
noncomputable def mrg(H H':Hp):Hp:=fun b=>match H' b with
 |some o=>some o
 |none=>H b
theorem cR{b:Addr}{o:HO}(h:H' b=some o):mrg H H' b=some o:=by unfold mrg;rw[h]
theorem g7{b:Addr}(h:H' b=none):mrg H H' b=H b:=by unfold mrg;rw[h]
theorem Inv.unhide(I:Inv X pins σ H s)(ho:s'.os=s.os)(hg:AllBare s'.gens)(u:Un (frs X.stack) [] (hidH H) H' s.heap s'.heap)(hok:HOk X.prog X.w H' s'.heap) :
  Inv X pins σ (mrg H H') s'∧(∀b o,H b=some o→mrg H H' b=some o)∧(∀b o,H' b=some o→hidH H b=none→H b=none):=by
 have gone:∀b o,H b=some o→¬vis o→hidH H b=none∧H' b=none:=fun b o e v=>by
  have z:=zb e v
  obtain⟨ob,hb⟩:∃ob,s.heap.get? b=some ob:=by
   cases q:s.heap.get? b with
   |some ob=>exact⟨ob,rfl⟩
   | none =>
    exfalso
    cases o with
    |lst xs=>obtain⟨_,_,_,_,e⟩:=I.hok b _ e;rw[q]at e;cases e
    |tup xs=>exact v (pK xs)
    |dK kvs=>obtain⟨_,_,_,_,o,_,_,e,_⟩:=I.hok b _ e;rw[q]at e;cases e
    |dT kvs=>obtain⟨_,_,_,_,o,_,_,e,_⟩:=I.hok b _ e;rw[q]at e;cases e
    |set S n=>obtain⟨o,_,_,_,e,_⟩:=I.hok b _ e;rw[q]at e;cases e
    |ins C dx fs=>obtain⟨_,_,_,e,_⟩:=I.hok b _ e;rw[q]at e;cases e
    |own y=>obtain⟨_,e⟩:=I.hok b _ e;rw[q]at e;cases e
    |xd fs=>obtain⟨_,⟨_,_,_,e,_⟩,_⟩:=I.hok b _ e;rw[q]at e;cases e
    |rng lo hi=>obtain⟨_,_,_,e⟩:=I.hok b _ e;rw[q]at e;cases e
    |frz ob u=>obtain⟨e,_⟩:=I.hok b _ e;rw[q]at e;cases e
    |tbl t=>exact v (uL t)
    |met f y=>have e:=(show s.heap.get? b=some _ from I.hok b _ e);rw[q]at e;cases e
    |ext φ=>obtain⟨_,⟨_,e⟩,_⟩:=I.hok b _ e;rw[q]at e;cases e
  exact⟨z,u.free b ob hb z (by simp)⟩
 have ext:∀b o,H b=some o→mrg H H' b=some o:=fun b o e=>by
  by_cases v:vis o
  ·
   have z:=bj e v
   cases o with
   |tup xs=>exact cR (u.tups b xs z)
   |frz ob w=>exact cR (u.frzs b ob w z)
   |tbl t=>exact cR (u.tbls b t z)
   |_=>exact v.1.elim
  ·
   rw[g7 (gone b o e v).2];exact e
 have back:∀b o,H' b=some o→hidH H b=none→H b=none:=fun b o e z=>by
  cases q:H b with
  |none=>rfl
  | some o' =>
   by_cases v:vis o'
   ·
    rw[bj q v]at z;cases z
   ·
    rw[(gone b o' q v).2]at e;cases e
 have hok2:HOk X.prog X.w (mrg H H') s'.heap:=fun b o e=>by
  unfold mrg at e
  split at e
  ·
   rename_i o' q
   cases e
   exact(hok b _ q).stay (fun c w _ z=>z) (fun c z=>cR z) (fun c xs z=>cR z) fun c ob _ _ z=>cR z
  ·
   rename_i q
   have nv:¬vis o:=fun v=>by
    have z:=bj e v
    cases o with
    |tup xs=>rw[u.tups b xs z]at q;cases q
    |frz ob w=>rw[u.frzs b ob w z]at q;cases q
    |tbl t=>rw[u.tbls b t z]at q;cases q
    |_=>exact v.1.elim
   have keepT:∀c o',H c=some o'→¬vis o'→∀w,s.heap.get? c=some w→s'.heap.get? c=some w:=fun c o' e' v' w hw=>by
    refine u.keep c w hw (gone c o' e' v').1 (fun hm=>?_) (by simp)
    have:=I.stkFree c hm
    rw[e']at this;cases this
   refine(I.hok b o e).stay (fun c w hc z=>?_) (fun c z=>ext c _ z) (fun c xs z=>ext c _ z) fun c ob _ _ z=>ext c _ z
   rcases hc with rfl|hc
   ·
    exact keepT c o e nv w z
   ·
    exact keepT c _ hc (fun v=>v.1) w z
 refine⟨I.call' (ch:=[]) ho ⟨fun b o e n hf hx=>u.keep b o e (dN n) hf hx,fun b o e n hf hx=>u.slot b o e (dN n) hf hx,fun b o e n hx=>?_,u.there,fun b xs e=>ext b _ e,fun b o w e=>ext b _ e,fun b ps e=>ext b _ e⟩ hok2 hg (fun b z=>absurd z (by simp)),ext,back⟩
 rw[g7 (u.free b o e (dN n) hx)];exact n
end
section
variable{K:Frag}{Pr H H':Hp}{σ:St}{ρ:Ev}
theorem REnv.exten(E:REnv K Pr H σ ρ)(h:∀b o,H b=some o→H' b=some o):REnv K Pr H' σ ρ :=
 ⟨fun b o e=>h b o (E.sub b o e),E.nd,E.off,Paired.impMem E.sl fun l hl s q=>q.pres (fun b u _ e=>h b u e) l fun a e=>by
  obtain⟨vs,e,_⟩:=E.at_own (d5.mpr ⟨l,hl,e⟩)
  rw[h _ _ e,e]⟩
end
mutual
theorem Rep.hid{K:Frag}{H:Hp}:∀{v:V}{d:D},Rep K H v d→Rep K (hidH H) v d
 |_,_,.non=>.non
 |_,_,.bl b=>.bl b
 |_,_,.int i=>.int i
 |_,_,.str x=>.str x
 | _,_,.tup h r=>.tup (by
   rcases h with(h|⟨o,h⟩)|h
   ·
    exact .inl (.inl (bj h (pK _)))
   ·
    exact .inl (.inr ⟨o,bj h ⟨True.intro,True.intro⟩⟩)
   ·
    exact .inr h) (Reps.hid r)
 | _,_,.lst h r=>.lst (by
   rcases h with⟨o,h⟩|h
   ·
    exact .inl ⟨o,bj h ⟨True.intro,True.intro⟩⟩
   ·
    exact .inr h) (Reps.hid r)
 |_,_,.dct h=>.dct (bj h ⟨True.intro,True.intro⟩)
 | _,_,.exc h hv hc hn hs hq hf r=>.exc (bj h ⟨True.intro,hv⟩) hv hc hn hs hq (by
   rcases hf with hf|⟨d,od,e,h,l⟩
   ·
    exact .inl hf
   ·
    exact .inr ⟨d,od,e,bj h ⟨True.intro,True.intro⟩,l⟩) (Reps.hid r)
 |_,_,.fn hl hf hq hc hz hd hv hm r=>.fn hl (bj hf (iV _ _)) (bj hq (iV _ _)) hc (bj hz (iV _ _)) hd hv hm (Rep.hid r)
theorem Reps.hid{K:Frag}{H:Hp}:∀{vs:List V}{ds:List D},Reps K H vs ds→Reps K (hidH H) vs ds
 |_,_,.nil=>.nil
 |_,_,.cons h t=>.cons (Rep.hid h) (Reps.hid t)
end
theorem Cn:typeOf (.type "ValueError")=pure (.type "type"):=kitMeta_of (by decide +kernel)
theorem Co:Manifest.isStub "ValueError"=false:=by decide +kernel
theorem Cp:handedIn (.builtin "ValueError.__init__")=true:=by decide +kernel
theorem uM(K:Frag):findCls K (.type "ValueError") (.type "type") "__init__"=some (.val (.builtin "ValueError.__init__")):=by kernel_rfl
theorem Fly.at{h h':Heap}{e:Addr}{cls:Value}{dx:Option Addr}(f:Fly h e cls dx none)(k:∀o,h.get? e=some o→h'.get? e=some o):Fly h' e cls dx none:=by
 obtain⟨vs,sl,he,hz,h1⟩:=f
 exact⟨vs,sl,k _ he,hz,h1⟩
def XO(e:Addr)(cls:Value)(dx:Option Addr):HO:=.ext fun h=>Fly h e cls dx none
def XD(d:Addr)(fs:List (Str×V)):HO:=.ext fun h=>∃mA,h.Ns1 d mA∧(∀f,RelO (fs.lookup f) (mA f))∧PySem.Within mA (fs.map (·.1))
theorem XO.ok{P:Program}{w:World}{H:Hp}{h:Heap}{e:Addr}{cls:Value}{dx:Option Addr}(f:Fly h e cls dx none):b9 P w H h e (XO e cls dx):=by
 obtain⟨vs,sl,he,hz,h1⟩:=f
 exact⟨⟨vs,sl,he,hz,h1⟩,⟨_,he⟩,fun h1 h2 p k=>p.at k⟩
theorem XD.ok{P:Program}{w:World}{H:Hp}{h:Heap}{d:Addr}{fs:List (Str×V)}{mA:Str→Option Value}(n:h.Ns1 d mA)(r:∀f,RelO (fs.lookup f) (mA f))(wi:PySem.Within mA (fs.map (·.1))):b9 P w H h d (XD d fs) :=
 ⟨⟨mA,n,r,wi⟩,let ⟨o,_,_,e,_⟩:=n;⟨o,e⟩,fun h1 h2 ⟨mA,n,r⟩ k=>⟨mA,n.at k,r⟩⟩
theorem Bp{H:Hp}{a:Addr}{o:HO}(h:H a=some o):upd H a o=H:=by
 funext b;unfold upd;split
 ·
  rename_i e;rw[e,h]
 ·
  rfl
section
variable{X:Cx}{pins:List (Addr×Obj)}{σ:St}{H:Hp}{s:Shared}
theorem Inv.xo{e:Addr}{cls:Value}{dx:Option Addr}(I:Inv X pins σ H s)(h:H e=some (XO e cls dx)):Fly s.heap e cls dx none:=(I.hok e _ h).1
theorem Inv.xd{d:Addr}{fs:List (Str×V)}(I:Inv X pins σ H s)(h:H d=some (XD d fs)):∃mA,s.heap.Ns1 d mA∧(∀f,RelO (fs.lookup f) (mA f))∧PySem.Within mA (fs.map (·.1)):=(I.hok d _ h).1
theorem Fly.inst{h:Heap}{e C:Addr}{dx T:Option Addr}(f:Fly h e (.ref C) dx T)(hd:∀d,dx=some d→∃o,h.get? d=some o):∃vs sl od,InstAt h e ⟨.ref C,dx,.fields vs,sl⟩ C od∧1<vs.size:=by
 obtain⟨vs,sl,he,hz,_⟩:=f
 cases dx with
 |none=>exact⟨vs,sl,none,⟨he,rfl,rfl,trivial⟩,hz⟩
 | some d =>
  obtain⟨o,ho⟩:=hd d rfl
  exact⟨vs,sl,some o,⟨he,rfl,rfl,ho⟩,hz⟩
end
section
variable{X:Cx}{a b:Expr}{p1 p2 pos:Pos}{t:TA}
def nZ(K:Frag)(t:TA):TE:=fun σ H Q=>t σ H fun vs H1=>∃e tx c C L cd,vs=[.ref e,tx]∧H1 e=some (XO e (.ref C) none)∧XStd K c C L cd∧Q .non H1
theorem wK{pl:Sem Bool} (hg:Gl X "ValueError") (hm:X.mg "ValueError"=none) (ha:PA X [a,b] t) (hs:starEach [a,b] X.env=(false,eval a X.env)::starEach [b] X.env:=by rfl) (hpl:(backTo pos (starEach [b] X.env)).any (·.1)=false:=by rfl)
  (ht:eval (.Call (.Attribute (.Name "ValueError" p1) "__init__" p2) [a,b] [] pos) X.env=(do
   let ov ← eval (.Name "ValueError" p1) X.env
   standAt p2.atName
   let (f,first) ← holding [ov] (getMethod ov "__init__" pl)
   callWith pos f first (backTo pos (starEach [a,b] X.env)) (backToKw pos (keywordEach [] X.env))):=by rfl) :
  PE X (.Call (.Attribute (.Name "ValueError" p1) "__init__" p2) [a,b] [] pos) (nZ X.K t):=by
 intro pins s σ H Q I h
 refine methodCall_KW (jV I hg hm (show bootBuiltins "ValueError"=some (.type "ValueError") by decide +kernel) ?_) ht
 obtain⟨m,F⟩:=I.fr
 have k4:=uM X.K
 refine @method_type _ _ _ _ _ X.K _ _ _ _ _ _ _ _ F I.ok.mod.kin Cn Co k4 Cp ?_
 have I1:=I.tok (s.toks+1)
 have hA:=ha pos pins _ σ H _ I1 h
 rw[hs]at hA ⊢
 refine Calls.callWith_builtin (by show(false ||(backTo pos (starEach [b] X.env)).any (·.1))=false;rw[hpl]<;>rfl) (Calls.evalArgs_plain (thn hA fun us s2 ⟨vs,H2,I2,r,e,tx,c,C,L,cd,ev,he,S,q⟩=>?_))
 subst ev
 obtain⟨u1,u2,rfl,r1,r2⟩:=rH r
 cases r1
 obtain⟨vs,sl,od,Ia,hz⟩:=(I2.xo he).inst (fun d z=>nomatch z)
 refine Cg S I2.kIn Ia rfl (by omega) fun t'=>⟨.non,H2,?_,rfl,q⟩
 have hx1:=Heap.get?_push_of_some (h:=s2.heap) {cls:=.type "tuple",data:=.seq #[u2] } Ia.at_
 have z:=I2.write (x:=e) (e:=e) (o:=XO e (.ref C) none) (h':=(s2.heap.push {cls:=.type "tuple",data:=.seq #[u2] }).update e (Obj.mapFields (·.setIfInBounds 0 (.ref s2.heap.objs.size)))) (t':=t') (by rw[he]; exact True.intro) (.inl rfl) (fun b u hb e1=>(Heap.get?_update_other _ _ (Ne.symm hb)).trans (Heap.get?_push_of_some _ e1)) ⟨_,Heap.get?_update_self _ hx1 rfl⟩ (XO.ok ?_)
 ·
  rw[Bp he]at z;exact z
 ·
  obtain⟨vs',sl',he',hz',h1'⟩:=I2.xo he
  have e2:=Ia.at_.symm.trans he'
  cases e2
  refine⟨vs.setIfInBounds 0 (.ref s2.heap.objs.size),sl,Heap.get?_update_self _ hx1 rfl,by simpa using hz',?_⟩
  show(vs.setIfInBounds 0 _)[1]?=some .none
  rw[Array.getElem?_setIfInBounds_ne (by decide)];exact h1'
def spLI(K:Frag):Sp:=fun vs H Q _=>∃e tx c C L cd,vs=[.ref e,tx]∧H e=some (XO e (.ref C) none)∧XStd K c C L cd∧Q .non H
structure uN (K:Frag) (mg:Str→Option Value) (L fL:Addr) (fd:FuncData) (st:Stmt):Prop where
 m:mg "LoadError"=some (.ref L)
 rd:readsIn K L (.type "type")=true
 sg:specialIn K (.ref L) "__getattribute__"=some (some (.builtin "type.__getattribute__"))
 fc:findCls K (.ref L) (.type "type") "__init__"=some (.val (.ref fL))
 f:Fun K "__init__" "LoadError.__init__" st fL fd
 b:iE K fd ["self","text"] []
theorem qM{pl:Sem Bool}{k L fL:Addr}{fd:FuncData}{st:Stmt}(T:uN X.K X.mg L fL fd st) (F:FnOk X.prog X.w X.K X.mg X.base CX0 k fL fd ["self","text"] (spLI X.K)) (hr:Room k X.A) (hg:Gl X "LoadError") (ha:PA X [a,b] t)
  (hs:starEach [a,b] X.env=(false,eval a X.env)::starEach [b] X.env:=by rfl) (hpl:(backTo pos (starEach [b] X.env)).any (·.1)=false:=by rfl)
  (ht:eval (.Call (.Attribute (.Name "LoadError" p1) "__init__" p2) [a,b] [] pos) X.env=(do
   let ov ← eval (.Name "LoadError" p1) X.env
   standAt p2.atName
   let (f,first) ← holding [ov] (getMethod ov "__init__" pl)
   callWith pos f first (backTo pos (starEach [a,b] X.env)) (backToKw pos (keywordEach [] X.env))):=by rfl) :
  PE X (.Call (.Attribute (.Name "LoadError" p1) "__init__" p2) [a,b] [] pos) (nZ X.K t):=by
 intro pins s σ H Q I h
 refine methodCall_KW (eF I hg T.m ?_) ht
 refine method_cls I.kIn T.sg (cls_read I.kIn T.rd T.fc (wpAny_pure ?_))
 have k3:handedIn (.ref fL)=true:=rfl
 show wpAny _ _ (handedOut (.ref fL)) _ _ _
 rw[handedOut_of k3]
 refine wpAny_pure ?_
 have I1:=I.tok (s.toks+1)
 refine callWith_K (h₀:=X.base) I.ok.mod.kin T.f.kp (thn (ha pos pins _ σ H _ I1 h) fun us s1 ⟨vs,H1,I2,r,q⟩=>⟨I2.kIn,?_⟩) hs hpl
 refine tM F hr T.b .nil yp I2 r ?_
 rw[List.append_nil]
 exact q
def wL(K:Frag)(ta tv:TE)(f:Str):TS:=fun D σ H=>tv σ H fun y H1=>ta σ H1 fun x H2=>∃e c C L cd,x=.ref e∧XStd K c C L cd∧findIn K (.ref C) f=some none ∧
 ((H2 e=some (XO e (.ref C) none)∧∀d,H2 d=none→d≠e→D.nx σ (upd (upd H2 d (XD d [(f,y)])) e (XO e (.ref C) (some d)))) ∨
  ∃d fs,H2 e=some (XO e (.ref C) (some d))∧H2 d=some (XD d fs)∧fs.lookup f=none∧fs.length≤900∧D.nx σ (upd H2 d (XD d (fs++[(f,y)]))))
theorem me{α:Type}{f g:Str}{y:α}:∀{fs:List (Str×α)},fs.lookup f=none→(fs++[(f,y)]).lookup g=if g=f then some y else fs.lookup g
 | [],_=>by
  by_cases h:g=f
  ·
   subst h;simp
  ·
   have:(g == f)=false:=beq_eq_false_iff_ne.mpr h
   simp[List.lookup,this,h]
 | (k,v)::fs,h=>by
  have h':(f == k)=false∧fs.lookup f=none:=by
   cases e:(f == k)with
   |true=>simp[List.lookup,e]at h
   |false=>exact⟨rfl,by simpa[List.lookup,e]using h⟩
  have ih:=me (g:=g) (y:=y) h'.2
  cases e:(g == k)with
  | true =>
   have:g≠f:=fun z=>by subst z;rw[h'.1]at e;cases e
   simp[List.lookup,e,this]
  | false =>
   simp only[List.cons_append,List.lookup,e]
   exact ih
theorem pL{o value:Expr}{f:Str}{pos':Pos}{ta tv:TE}(ha:PE X o ta)(hv:PE X value tv)(hs:swapsWith value (some (.Attribute o f pos')) pos.line X.env=pure false:=by rfl):PS X (.Assign [.Attribute o f pos'] value pos) (wL X.K ta tv f):=by
 intro pins s σ H D I h
 refine plainObj_wpAny_Assign_Attribute (thn (hv pins s σ H _ I h) fun u s1 ⟨y,H1,I1,ry,q⟩=>thn (ha pins s1 σ H1 _ I1 q) fun ov s2 ⟨x,H2,I2,rx,e,c,C,L,cd,ex,S,hf,q2⟩=>?_) hs
 subst ex
 obtain rfl:ov=Value.ref e:=rx
 rcases q2 with⟨he,q2⟩|⟨d,fs,he,hd,hl,hz,q2⟩
 ·
  obtain⟨vs,sl,od,Ia,hz⟩:=(I2.xo he).inst (fun d z=>nomatch z)
  have dn:H2 s2.heap.objs.size=none:=I2.hok.fresh (Nat.le_refl _)
  have dne:s2.heap.objs.size≠e:=Nat.ne_of_gt (Heap.lt_size Ia.at_)
  refine vW S I2.kIn Ia rfl hf fun h' tk e1 n1 k1=>⟨σ,_,?_,q2 s2.heap.objs.size dn dne⟩
  have hd1:b9 X.prog X.w (upd (upd H2 s2.heap.objs.size (XD s2.heap.objs.size [(f,y)])) e (XO e (.ref C) (some s2.heap.objs.size))) h' s2.heap.objs.size (XD s2.heap.objs.size [(f,y)]):=by
   refine XD.ok n1 (fun g=>?_) fun g hg=>?_
   ·
    by_cases z:g=f
    ·
     subst z;simp[RelO,ry]
    ·
     have:(g == f)=false:=beq_eq_false_iff_ne.mpr z
     simp[List.lookup,this,z,RelO]
   ·
    by_cases z:g=f
    ·
     simp[z]
    ·
     simp[z]at hg
  obtain⟨vs0,sl0,he0,hz0,h10⟩:=I2.xo he
  have e2:=Ia.at_.symm.trans he0
  cases e2
  have ho1:b9 X.prog X.w (upd (upd H2 s2.heap.objs.size (XD s2.heap.objs.size [(f,y)])) e (XO e (.ref C) (some s2.heap.objs.size))) h' e (XO e (.ref C) (some s2.heap.objs.size)):=XO.ok ⟨vs,sl,e1,hz0,h10⟩
  have tr:∀b o,H2 b=some o→b≠e→upd (upd H2 s2.heap.objs.size (XD s2.heap.objs.size [(f,y)])) e (XO e (.ref C) (some s2.heap.objs.size)) b=some o:=fun b o q hb=>by
   rw[aj hb,aj (aL q dn)];exact q
  have nx:∀b o,H2 b=some o→(∀ψ,o≠.ext ψ)→b≠e:=fun b o q n z=>by subst z;rw[he]at q;cases q;exact n _ rfl
  refine I2.un ⟨fun b o hb n _ _=>k1 b o (fun z=>by subst z;rw[he]at n;cases n) hb,fun b o hb n _ _=>⟨o.slots,k1 b o (fun z=>by subst z;rw[he]at n;cases n) hb⟩,fun b o hb n _=>?_,fun b o hb _=>?_,fun b xs q=>tr b _ q (nx b _ q fun _ z=>nomatch z),fun b o' u' q=>tr b _ q (nx b _ q fun _ z=>nomatch z),fun b ps q=>tr b _ q (nx b _ q fun _ z=>nomatch z)⟩ fun b o q=>?_
  ·
   rw[aj (fun z=>by subst z;rw[he]at n;cases n),aj (Nat.ne_of_lt (Heap.lt_size hb))];exact n
  ·
   by_cases z:b=e
   ·
    subst z;exact⟨_,e1⟩
   ·
    exact⟨o,k1 b o z hb⟩
  ·
   by_cases hb:b=e
   ·
    subst hb;rw[aC]at q;cases q;exact ho1
   ·
    by_cases hb2:b=s2.heap.objs.size
    ·
     subst hb2;rw[aj hb,aC]at q;cases q;exact hd1
    ·
     rw[aj hb,aj hb2]at q
     refine(I2.hok b o q).stay (fun c v hc z=>k1 c v ?_ z) (fun c z=>tr c _ z (nx c _ z fun _ z=>nomatch z)) (fun c xs z=>tr c _ z (nx c _ z fun _ z=>nomatch z)) fun c ob _ _ z=>tr c _ z (nx c _ z fun _ z=>nomatch z)
     rcases hc with rfl|hc
     ·
      exact hb
     ·
      exact nx c _ hc fun _ z=>nomatch z
 ·
  obtain⟨mA,nA,rA,wA⟩:=I2.xd hd
  obtain⟨od,_,_,hod,_⟩:=id nA
  obtain⟨vs,sl,od',Ia,hz'⟩:=(I2.xo he).inst (fun d' z=>by cases z;exact⟨od,hod⟩)
  refine vX S I2.kIn Ia rfl nA wA (by rw[List.length_map];omega) hf fun h' tk n1 sb=>⟨σ,_,?_,q2⟩
  refine I2.write (x:=d) (e:=d) (by rw[hd];exact True.intro) (.inl rfl) (fun b u hb e1=>(sb.2 b hb).trans e1) (let ⟨o,_,_,e1,_⟩:=n1;⟨o,e1⟩) (XD.ok n1 (fun g=>?_) fun g hg=>?_)
  ·
   rw[me hl]
   by_cases z:g=f
   ·
    subst z;simp[RelO,ry]
   ·
    rw[if_neg z,if_neg z];exact rA g
  ·
   by_cases z:g=f
   ·
    subst z;simp
   ·
    rw[if_neg z]at hg
    have:=wA g hg
    simp at this ⊢
    exact .inl this
end
def spXI(K:Frag)(ns:List Str):Sp:=fun vs H Q _=>∃e vals c C L cd,vs=.ref e::vals∧H e=some (XO e (.ref C) none)∧XStd K c C L cd∧(∀f∈ns,findIn K (.ref C) f=some none)∧vals.length=ns.length ∧
 ∀d,H d=none→d≠e→Q .non (upd (upd H d (XD d (ns.zip vals))) e (XO e (.ref C) (some d)))
def tLI(K:Frag):TS:=vJ (nZ K (oW (tVar 0) (oW (tVar 1) tNil)))
def tI1(K:Frag)(x:V)(f:Str):TS:=tSeq (vJ (nZ K (oW (tVar 0) (oW (tC x) tNil)))) (wL K (tVar 0) (tVar 1) f)
def tI2(K:Frag)(x:V)(f g:Str):TS:=tSeq (vJ (nZ K (oW (tVar 0) (oW (tC x) tNil)))) (tSeq (wL K (tVar 0) (tVar 1) f) (wL K (tVar 0) (tVar 2) g))
theorem zd{K:Frag}{vs:List V}{H:Hp}{Q:VK}{E:XK}{a b:Str}(h:spLI K vs H Q E):tLI K {nx:=fun _ H'=>Q .non H',rt:=Q} (iF [a,b] vs) H:=by
 obtain⟨e,tx,c,C,L,cd,rfl,he,S,q⟩:=h
 exact⟨_,rfl,_,rfl,e,tx,c,C,L,cd,rfl,he,S,q⟩
theorem ze{K:Frag}{vs:List V}{H:Hp}{Q:VK}{E:XK}{a b f:Str}{x:V}(h:spXI K [f] vs H Q E):tI1 K x f {nx:=fun _ H'=>Q .non H',rt:=Q} (iF [a,b] vs) H:=by
 obtain⟨e,vals,c,C,L,cd,rfl,he,S,hf,hl,q⟩:=h
 match vals,hl with
 |[v],_=>exact⟨_,rfl,e,x,c,C,L,cd,rfl,he,S,_,rfl,_,rfl,e,c,C,L,cd,rfl,S,hf f (by simp),.inl ⟨he,fun d hd hde=>q d hd hde⟩⟩
theorem zg{K:Frag}{vs:List V}{H:Hp}{Q:VK}{E:XK}{a b b2 f g:Str}{x:V}(hfg:f≠g)(h:spXI K [f,g] vs H Q E):tI2 K x f g {nx:=fun _ H'=>Q .non H',rt:=Q} (iF [a,b,b2] vs) H:=by
 obtain⟨e,vals,c,C,L,cd,rfl,he,S,hf,hl,q⟩:=h
 match vals,hl with
 | [v,v2],_ =>
  refine⟨_,rfl,e,x,c,C,L,cd,rfl,he,S,_,rfl,_,rfl,e,c,C,L,cd,rfl,S,hf f (by simp),.inl ⟨he,fun d hd hde=>?_⟩⟩
  refine⟨_,rfl,_,rfl,e,c,C,L,cd,rfl,S,hf g (by simp),.inr ⟨d,[(f,v)],aC,?_,?_,by simp,?_⟩⟩
  ·
   rw[aj hde,aC]
  ·
   have:(g == f)=false:=beq_eq_false_iff_ne.mpr (Ne.symm hfg)
   simp[List.lookup,this]
  ·
   have z:=q d hd hde
   have e1:upd (upd (upd H d (XD d [(f,v)])) e (XO e (.ref C) (some d))) d (XD d ([(f,v)]++[(g,v2)]))=upd (upd H d (XD d ([f,g].zip [v,v2]))) e (XO e (.ref C) (some d)):=by
    funext b
    unfold upd
    by_cases h1:b=d
    ·
     subst h1;rw[if_pos rfl,if_neg hde,if_pos rfl];rfl
    ·
     rw[if_neg h1]
     by_cases h2:b=e
     ·
      rw[if_pos h2,if_pos h2]
     ·
      rw[if_neg h2,if_neg h2,if_neg h1,if_neg h1]
   show Q .non _
   rw[e1]
   exact z
structure Xc where
 c:Str
 ns:List Str
 ds:List D
def XFly(K:Frag)(H:Hp)(cls:Value)(dx:Option Addr)(x:Xc):Prop:=∃C vs,cls=.ref C∧fZ K x.c C=true∧(∀f∈x.ns,findIn K (.ref C) f=some none)∧XF H dx x.ns vs∧Reps K H vs x.ds
theorem XFly.ext{K:Frag}{H H':Hp}{cls:Value}{dx:Option Addr}{x:Xc}(f:XFly K H cls dx x)(h:∀b o,H b=some o→H' b=some o):XFly K H' cls dx x:=by
 obtain⟨C,vs,e,s,fq,a,r⟩:=f
 exact⟨C,vs,e,s,fq,a.pres fun b o _ q=>h b o q,r.pres fun b o _ q=>h b o q⟩
def CXr(P:Program)(w:World):CXT:=fun outer H s E e s'=>∃a cls dx T H',e=.ref a∧s'.os=s.os∧AllBare s'.gens∧Un (frs outer) [] H H' s.heap s'.heap∧HOk P w H' s'.heap∧Fly s'.heap a cls dx (some T)∧H' a=none∧H' T=none ∧
 s.heap.objs.size≤a∧s.heap.objs.size≤T∧E cls dx H'
section
variable{X:Cx}{pins:List (Addr×Obj)}{σ:St}{H:Hp}{s:Shared}
theorem HOk.there{P:Program}{w:World}{H:Hp}{h:Heap}(x:HOk P w H h){b:Addr}{o:HO}(e:H b=some o):∃u,h.get? b=some u:=by
 have lt:=x.lt e
 cases o with
 |lst xs=>obtain⟨_,_,_,_,e⟩:=x b _ e;exact⟨_,e⟩
 |tup xs=>obtain⟨_,_,_,o,e,_⟩:=x b _ e;exact⟨_,e⟩
 |dK kvs=>obtain⟨_,_,_,_,o,_,_,e,_⟩:=x b _ e;exact⟨_,e⟩
 |dT kvs=>obtain⟨_,_,_,_,o,_,_,e,_⟩:=x b _ e;exact⟨_,e⟩
 |set S n=>obtain⟨o,_,_,_,e,_⟩:=x b _ e;exact⟨_,e⟩
 |ins C dx fs=>obtain⟨_,_,_,e,_⟩:=x b _ e;exact⟨_,e⟩
 |own y=>obtain⟨_,e⟩:=x b _ e;exact⟨_,e⟩
 |xd fs=>obtain⟨_,⟨_,_,_,e,_⟩,_⟩:=x b _ e;exact⟨_,e⟩
 |rng lo hi=>obtain⟨_,_,_,e⟩:=x b _ e;exact⟨_,e⟩
 |frz ob u=>obtain⟨e,_⟩:=x b _ e;exact⟨_,e⟩
 |tbl t=>obtain⟨_,e,_⟩:=x b _ e;exact⟨_,e⟩
 |met f y=>exact⟨_,(show h.get? b=some _ from x b _ e)⟩
 |ext φ=>obtain⟨_,⟨_,e⟩,_⟩:=x b _ e;exact⟨_,e⟩
structure New (X:Cx) (pins:List (Addr×Obj)) (b:Addr):Prop where
 s0:X.s₀.heap.objs.size≤b
 loc:b≠X.env.locals
 cel:∀x c,X.env.cells.lookup x=some c→c≠b
 pin:∀p∈X.pn++pins,p.1≠b
theorem Inv.newer(I:Inv X pins σ H s){b:Addr}(h:s.heap.objs.size≤b):New X pins b:=by
 refine⟨Nat.le_trans I.sz h,fun z=>?_,fun x c e z=>?_,fun p hp z=>?_⟩
 ·
  have:=I.lt;rw[← z]at this;exact absurd this (Nat.not_lt.mpr h)
 ·
  obtain⟨v,o,ho,_⟩:=I.cell x c e
  have:=Heap.lt_size ho;rw[z]at this;exact absurd this (Nat.not_lt.mpr h)
 ·
  have:=Heap.lt_size (I.pin p hp).1;rw[z]at this;exact absurd this (Nat.not_lt.mpr h)
structure qN (X:Cx) (pins:List (Addr×Obj)) (H:Hp) (s:Shared) (a:Addr) (cls:Value) (dx T:Option Addr):Prop where
 fly:Fly s.heap a cls dx T
 na:H a=none
 nt:∀t,T=some t→H t=none
 wa:New X pins a
 wt:∀t,T=some t→New X pins t
def XOK(X:Cx)(xp:Xc→Prop):Prop:=∀(pins:List (Addr×Obj))(σ:St)(H:Hp)(s:Shared)(a:Addr)(cls:Value)(dx T:Option Addr)(x:Xc),Inv X pins σ H s→qN X pins H s a cls dx T→XFly X.K H cls dx x→xp x→X.xe (.ref a) s
end
theorem dO{P:Program}{w:World}{K:Frag}{mg:Str→Option Value}{base:Heap}{N:List Str}{qual:Str}{scope:Scope}{f:Addr}{cd:Value}{A:Around}{outer:List Env}{s:Shared}{H:Hp}{E:XK}{xp:Xc→Prop}
  (h:∀cls dx H' x,XFly K H' cls dx x→xp x→E cls dx H'):XOK (cxOf (CXr P w) P w K mg base N qual scope f cd A outer s H E) xp:=by
 intro pins σ H1 s1 a cls dx T x I R F q
 show wpAny (model P w) _ (leaving _ (.ref a)) _ _ s1
 unfold leaving
 have hl:=I.stack
 refine wpAny_bind (y4 (F:=s.heap.objs.size) I.ok.frames hl rfl R.fly fun h' T' fl hT k1 k2=>?_)
 have neL:∀b o,s.heap.get? b=some o→b≠s.heap.objs.size:=fun b o e=>Nat.ne_of_lt (Heap.lt_size e)
 have neA:∀b o,s.heap.get? b=some o→b≠a:=fun b o e=>Nat.ne_of_lt (Nat.lt_of_lt_of_le (Heap.lt_size e) R.wa.s0)
 have neT:∀b o,s.heap.get? b=some o→some b≠T:=fun b o e z=>absurd (Heap.lt_size e) (Nat.not_lt.mpr (R.wt b z.symm).s0)
 have tra:∀b o,H1 b=some o→b≠a∧some b≠T∧b∉frs (envOfC qual scope s.heap.objs.size f cd::outer):=fun b o e=>by
  refine⟨fun z=>(by subst z;rw[R.na]at e;cases e),fun z=>(by rw[R.nt b z.symm]at e;cases e),fun z=>?_⟩
  have:=I.stkFree b z
  rw[e]at this;cases this
 refine⟨a,cls,dx,T',H1,rfl,I.os,I.bare,⟨fun b o e n hf hx=>?_,fun b o e n hf hx=>?_,fun b o e n hx=>I.base.free b o e n hx,fun b o e hx=>?_,I.base.tups,I.base.frzs,I.base.tbls⟩,fun b o e=>?_,fl,R.na,?_,R.wa.s0,Nat.le_trans I.sz hT,h cls dx H1 x F q⟩
 ·
  refine k1 b o (neA b o e) (neT b o e) (fun hm=>?_) (I.base.keep b o e n hf hx)
  rcases List.mem_cons.mp (show b∈s.heap.objs.size::frs outer from hm)with z|z
  ·
   exact neL b o e z
  ·
   exact hf z
 ·
  obtain⟨sl,e1⟩:=I.base.slot b o e n hf hx
  obtain⟨sl',e2⟩:=k2 b _ (neA b o e) (neT b o e) e1
  exact⟨sl',e2⟩
 ·
  obtain⟨o',e1⟩:=I.base.there b o e hx
  obtain⟨sl',e2⟩:=k2 b _ (neA b o e) (neT b o e) e1
  exact⟨_,e2⟩
 ·
  refine(I.hok b o e).stay (fun c v hc z=>?_) (fun _ z=>z) (fun _ _ z=>z) fun _ _ _ _ z=>z
  have ht:∃o',H1 c=some o':=by
   rcases hc with rfl|hc
   ·
    exact⟨o,e⟩
   ·
    exact⟨_,hc⟩
  obtain⟨o',ho'⟩:=ht
  obtain⟨t1,t2,t3⟩:=tra c o' ho'
  exact k1 c v t1 t2 t3 z
 ·
  exact I.hok.fresh hT
abbrev FSX:=List D→(L→Prop)→(Xc→Prop)→Prop
def spX(K:Frag)(n:Nat)(fs:FSX):Sp:=fun vs H Q E=>vs.length=n∧∃ds post xp,Reps K H vs ds∧fs ds post xp∧(∀v H' r,REnv K H H' [some v] [r]→post r→Q v H')∧∀cls dx H' x,XFly K H' cls dx x→xp x→E cls dx H'
def n4(fs:FSX)(xp:Xc→Prop)(t:W (List L)):W L:=fun ρ post=>t ρ fun ls ρ1=>toDs ls fun ds=>fs ds (fun r=>post r ρ1) xp
theorem REnv.ds{K:Frag}{H:Hp}:∀{vs:List V}{ds:List D},Reps K H vs ds→Paired (aN K H) (vs.map some) (ds.map .d)
 |_,_,.nil=>.nil
 |_,_,.cons h t=>.cons ⟨_,rfl,h⟩ (REnv.ds t)
section
variable{X:Cx}{k n:Nat}{f:Addr}{fd:FuncData}{ps:List Str}{fs:FSX}{x:Str}{p pos:Pos}{e:Expr}{es:List Expr}{bs:List (Option Nat)}{t:W (List L)}{xp:Xc→Prop}
theorem Bq{pins:List (Addr×Obj)}{σ:St}{H Pr:Hp}{s:Shared}{ρ:Ev}{us:List Value}{vs:List V}{ds:List D}{post:L→Ev→Prop}{Ex:Value→Shared→Prop}(F:FnOk X.prog X.w X.K X.mg X.base (CXr X.prog X.w) k f fd ps (spX X.K n fs))(hr:Room k X.A)(hb:iE X.K fd ps [])(hl:vs.length=n)
  (I:Inv X pins σ H s) (E:REnv X.K Pr H σ ρ) (r:Vals vs us) (rs:Reps X.K H vs ds) (h:fs ds (fun r=>post r ρ) xp)
  (hx:∀(s':Shared)(H':Hp)(a:Addr)(cls:Value)(dx T:Option Addr)(y:Xc),Inv X pins σ H' s'→REnv X.K Pr H' σ ρ→qN X pins H' s' a cls dx T→XFly X.K H' cls dx y→xp y→Ex (.ref a) s') :
  wpAny (model X.prog X.w) X.A (call (.ref f) us) (EL X pins σ Pr post) Ex s:=by
 have hsp:spX X.K n fs vs (hidH H) (fun v H'=>∃r,REnv X.K (hidH H) H' [some v] [r]∧post r ρ) (fun cls dx H'=>∃y,XFly X.K H' cls dx y∧xp y) :=
  ⟨hl,ds,_,xp,rs.hid,h,fun v H' r E1 p=>⟨r,E1,p⟩,fun cls dx H' y q1 q2=>⟨y,q1,q2⟩⟩
 have hl':us.length=ps.length:=by rw[← r.length];exact F.len _ _ _ _ hsp
 have bt:=hb s us I.kIn (by rw[List.append_nil];exact hl')
 rw[List.append_nil]at bt
 refine wpAny_call (codeAny_mono (F.run X.A X.stack s (hidH H) ⟨us,[]⟩ us vs _ _ hr I.hide bt r hsp) fun res s' hq=>?_)
 cases res with
 | error e =>
  obtain⟨a,cls,dx,T,H',rfl,os,bare,un,hok,fl,na,nt,za,zt,y,q1,q2⟩:=hq
  obtain⟨I2,ext,back⟩:=I.unhide os bare un hok
  refine hx s' _ a cls dx (some T) y I2 (E.exten ext) ⟨fl,?_,fun t et=>?_,I.newer za,fun t et=>by cases et;exact I.newer zt⟩ (q1.ext fun b o q=>cR q) q2
  ·
   rw[g7 na];exact I.hok.fresh za
  ·
   cases et;rw[g7 nt];exact I.hok.fresh zt
 | ok fl =>
  cases fl with
  | ret u =>
   obtain⟨v,H',os,bare,un,hok,rv,r,E2,p⟩:=hq
   obtain⟨I2,ext,back⟩:=I.unhide os bare un hok
   have E3:=E.exten ext
   have fr:∀a∈aP r,H a=none∧∃vs,H' a=some vs∧OMut vs:=fun a ha=>by
    have ha':a∈owns [r]:=by rw[ay];exact List.mem_append_left _ ha
    obtain⟨vs',e1,m1⟩:=E2.at_own ha'
    exact⟨back a _ e1 (E2.off a ha'),vs',e1,m1⟩
   refine⟨v,_,r,ρ,I2,rv,⟨E3.sub,?_,fun a ha=>?_,.cons ?_ E3.sl⟩,p⟩
   ·
    rw[ay]
    have n1:=E2.nd
    rw[ay]at n1
    refine List.nodup_append.mpr ⟨(List.nodup_append.mp n1).1,E3.nd,fun a ha b hb z=>?_⟩
    subst z
    obtain⟨vs',e1,_⟩:=E.at_own hb
    rw[(fr a ha).1]at e1;cases e1
   ·
    rw[ay]at ha
    rcases List.mem_append.mp ha with z|z
    ·
     cases q:Pr a with
     |none=>rfl
     |some o=>have:=E.sub a o q;rw[(fr a z).1]at this;cases this
    ·
     exact E3.off a z
   ·
    have sl:=E2.sl
    cases sl with
    | cons q t =>
     exact q.pres (fun b o _ e=>cR e) r fun a ha=>by
      obtain⟨_,vs',e1,_⟩:=fr a ha
      rw[cR e1,e1]
  |next=>exact False.elim hq
  |brk=>exact False.elim hq
  |cont=>exact False.elim hq
theorem wM(F:FnOk X.prog X.w X.K X.mg X.base (CXr X.prog X.w) k f fd ps (spX X.K n fs))(hr:Room k X.A)(hg:Gl X x)(hm:X.mg x=some (.ref f))(hk:PySem.W.keepIn X.K (.ref f)=true)(hb:iE X.K fd ps [])(hx:XOK X xp)
  (ha:PAL X (e::es) bs t) (hn:bs.length=n) (hdb:(x == ("__debug__" : Str))=false:=by decide) (he:starEach (e::es) X.env=(false,eval e X.env)::starEach es X.env:=by rfl) (hpl:(backTo pos (starEach es X.env)).any (·.1)=false:=by rfl) :
  PL X (.Call (.Name x p) (e::es) [] pos) (n4 fs xp t):=by
 intro pins s σ H Pr ρ post I E0 h
 refine wpAny_Call_Name_kw (eF I hg hm ?_ hdb)
 refine PySem.W.callWith_K (h₀:=X.base) I.ok.mod.kin hk (thn (ha pos pins s σ H Pr ρ _ I E0 h) fun us s1 ⟨vs,H1,ls,ρ1,I1,r,hl,hbl,E1,hv,q⟩=>⟨I1.kIn,?_⟩) he hpl
 obtain⟨ds,rfl,q1⟩:=gb q
 have hlen:vs.length=ds.length:=by simpa using hl
 exact Bq (post:=post) F hr hb (hbl.trans hn) I1 (E1.drop (by simp[hlen])) r (gh hlen E1) q1 fun s' H' a cls dx T y I2 _ R q1 q2=>hx pins σ H' s' a cls dx T y I2 R q1 q2
def sk(ns:List Str)(ds:List D):List D:=if ns=[]then[]else ds
def gu(c:Str)(ns:List Str)(xp:Xc→Prop)(t:W (List L)):W Fl:=fun ρ _=>t ρ fun ls _=>toDs ls fun ds=>(ns=[]∨ds.length=ns.length)∧ds.length≤8∧xp ⟨c,ns,sk ns ds⟩
structure XT (K:Frag) (mg:Str→Option Value) (c:Str) (C fI:Addr) (fd:FuncData) (ps:List Str) (ns:List Str):Prop where
 m:mg c=some (.ref C)
 s:fZ K c C=true
 mkx:XMk K C fI
 b:iE K fd ps []
 kp:PySem.W.keepIn K (.ref C)=true
 fn:∀f∈ns,findIn K (.ref C) f=some none
def uO(K:Frag)(sp:Sp)(C:Addr)(ns:List Str)(vs:List V):Prop:=∀(e:Addr)(H:Hp)(Q:VK),H e=some (XO e (.ref C) none) →
 (∀H2 dx,(∀b,b≠e→∀o,H b=some o→H2 b=some o)→H2 e=some (XO e (.ref C) dx)→((ns=[]∧dx=none)∨∃d,dx=some d∧d≠e∧H2 d=some (XD d (ns.zip vs))∧H d=none∧ns.length=vs.length)→Q .non H2)→sp (.ref e::vs) H Q E0
theorem zh{K:Frag}{c:Str}{C:Addr}{ns:List Str}{vs:List V}(h:fZ K c C=true)(hf:∀f∈ns,findIn K (.ref C) f=some none)(hl:vs.length=ns.length):uO K (spXI K ns) C ns vs:=fun e H Q he q=>by
 obtain⟨L,cd,S⟩:=cV h
 refine⟨e,vs,c,C,L,cd,rfl,he,S,hf,hl,fun d hd hde=>q _ (some d) (fun b hb o z=>?_) aC (.inr ⟨d,rfl,hde,?_,hd,hl.symm⟩)⟩
 ·
  rw[aj hb,aj (aL z hd)];exact z
 ·
  rw[aj hde,aC]
theorem uP{c:Str}{C fI:Addr}{ns:List Str}{sp:Sp}{pins:List (Addr×Obj)}{σ:St}{H:Hp}{s:Shared}{us:List Value}{vs:List V}{Q:Value→Shared→Prop}(T:XT X.K X.mg c C fI fd ps ns)(F:FnOk X.prog X.w X.K X.mg X.base CX0 k fI fd ps sp)(hi:uO X.K sp C ns vs)(hr:Room (k+1) X.A)(hz:us.length≤sizeLine)
  (I:Inv X pins σ H s) (r:Vals vs us)
  (hq:∀(s':Shared)(H':Hp)(e:Addr)(dx:Option Addr),Inv X pins σ H' s'→(∀b o,H b=some o→H' b=some o)→H' e=none→s.heap.objs.size≤e→Fly s'.heap e (.ref C) dx none→((ns=[]∧dx=none)∨∃d od,dx=some d∧H' d=some (.frz od (.xd (ns.zip vs)))∧ns.length=vs.length)→Q (.ref e) s') :
  wpAny (model X.prog X.w) X.A (call (.ref C) us) Q X.xe s:=by
 obtain⟨hh,g,d0,tk,os⟩:=s
 refine Cm I.kIn T.mkx hz fun h' e hm hsz=>?_
 obtain⟨tt,he,_,_⟩:=hm.there
 have hn:H e=none:=I.hok.fresh hsz
 have I1:Inv X pins σ (upd H e (XO e (.ref C) none)) ⟨h',g,d0,tk,os⟩:=I.laid (t':=tk) hm.keeps hsz (XO.ok ⟨_,_,he,by simp,rfl⟩)
 have hsp:=hi e (upd H e (XO e (.ref C) none)) (fun v H2=>v=.non∧∃dx,(∀b,b≠e→∀o,upd H e (XO e (.ref C) none) b=some o→H2 b=some o)∧H2 e=some (XO e (.ref C) dx)∧((ns=[]∧dx=none)∨∃d,dx=some d∧d≠e∧H2 d=some (XD d (ns.zip vs))∧upd H e (XO e (.ref C) none) d=none∧ns.length=vs.length)) aC fun H2 dx a b c=>⟨rfl,dx,a,b,c⟩
 have r2:Vals (V.ref e::vs) (Value.ref e::us):=.cons rfl r
 have hl:(Value.ref e::us).length=ps.length:=by rw[← r2.length];exact F.len _ _ _ _ hsp
 have bt:=T.b _ (Value.ref e::us) I1.kIn (by rw[List.append_nil];exact hl)
 rw[List.append_nil]at bt
 refine wpAny_call (codeAny_mono (F.run _ X.stack _ _ ⟨Value.ref e::us,[]⟩ (Value.ref e::us) _ _ E0 (hr.make C us []) (I1.env0.make C us []) bt r2 hsp) fun res s' hq'=>?_)
 cases res with
 |error x=>exact hq'.elim
 | ok fl =>
  cases fl with
  | ret u =>
   obtain⟨v,H2,I2,rv,ev,dx,kp,e2,alt⟩:=I1.after hq'
   subst ev
   refine⟨rv,?_⟩
   have fl:=I2.xo e2
   have I3:=I2.forget e2
   have up:∀b o,H b=some o→del H2 e b=some o:=fun b o q=>by
    have hb:b≠e:=fun z=>by subst z;rw[hn]at q;cases q
    rw[b7 hb];exact kp b hb o (by rw[aj hb];exact q)
   rcases alt with⟨z1,z2⟩|⟨d,z1,z2,z3,z4,z5⟩
   ·
    exact hq s' _ e dx I3 up iU hsz fl (.inl ⟨z1,z2⟩)
   ·
    have hd:del H2 e d=some (XD d (ns.zip vs)):=by rw[b7 z2];exact z3
    obtain⟨mA,nA,rA,_⟩:=I2.xd z3
    obtain⟨od,es,ep,hod,r1⟩:=id nA
    have I4:=I3.reword (w:=.frz od (.xd (ns.zip vs))) hd (fun q=>q) (fun _ q=>nomatch q) ⟨hod,mA,nA,rA⟩ (fun _ _ _ q=>nomatch q)
    have dn:H d=none:=by rw[aj z2]at z4;exact z4
    refine hq s' _ e dx I4 (fun b o q=>?_) (by rw[aj (Ne.symm z2)];exact iU) hsz fl (.inr ⟨d,od,z1,aC,z5⟩)
    rw[aj (aL q dn)];exact up b o q
  |next=>exact False.elim hq'
  |brk=>exact False.elim hq'
  |cont=>exact False.elim hq'
theorem wN{c:Str}{C fI:Addr}{ns:List Str}{sp:Sp}{cpos:Pos}(T:XT X.K X.mg c C fI fd ps ns)(F:FnOk X.prog X.w X.K X.mg X.base CX0 k fI fd ps sp)(hi:∀vs:List V,vs.length=n→uO X.K sp C ns vs)(hr:Room (k+1) X.A)(hg:Gl X c)(hx:XOK X xp)(ha:PAL X (e::es) bs t)(hn:bs.length=n)
  (hdb:(c == ("__debug__" : Str))=false:=by decide) (he:starEach (e::es) X.env=(false,eval e X.env)::starEach es X.env:=by rfl) (hpl:(backTo cpos (starEach es X.env)).any (·.1)=false:=by rfl) :
  PM X (.Raise (some (.Call (.Name c p) (e::es) [] cpos)) none pos) (gu c ns xp t):=by
 intro pins s σ H Pr ρ post I E0 h
 obtain⟨LL,cd,S⟩:=cV T.s
 rw[arm_exec_Raise]
 refine wpAny_bind (wpAny_standAt ?_)
 refine Bn S hr.hd (wpAny_bind (wpAny_mono (wpAny_Call_Name_kw (eF I hg T.m ?_ hdb)) (fun v s3 h3=>wpAny_bind (wpAny_standAt (wpAny_pure h3))) fun _ _ z=>z))
 refine PySem.W.callWith_K (h₀:=X.base) I.ok.mod.kin T.kp (thn (ha cpos pins s σ H Pr ρ _ I E0 h) fun us s1 ⟨vs,H1,ls,ρ1,I1,r,hl,hbl,E1,hv,q⟩=>⟨I1.kIn,?_⟩) he hpl
 obtain⟨ds,rfl,q0,q1,q⟩:=gb q
 have hlen:vs.length=ds.length:=by simpa using hl
 have rs:=gh hlen E1
 refine uP T F (hi vs (hbl.trans hn)) hr (by show us.length≤sizeLine;rw[← r.length,hlen];exact Nat.le_trans q1 (by decide)) I1 r fun s' H' e dx I2 up na hsz fl alt=>⟨e,dx,rfl,I2.kIn,fl,?_⟩
 refine hx pins σ H' s' e _ dx none ⟨c,ns,sk ns ds⟩ I2 ⟨fl,na,(fun _ z=>nomatch z),I1.newer hsz,(fun _ z=>nomatch z)⟩ ?_ q
 rcases alt with⟨z1,z2⟩|⟨d,od,z1,z2,z3⟩
 ·
  exact⟨C,[],rfl,T.s,T.fn,.inl ⟨z1,rfl,z2⟩,by unfold sk;rw[if_pos z1];exact .nil⟩
 ·
  by_cases zn:ns=[]
  ·
   subst zn
   have e0:vs=[]:=by cases vs with|nil=>rfl|cons _ _=>simp at z3
   subst e0
   exact⟨C,[],rfl,T.s,T.fn,.inr ⟨d,od,z1,z2,z3⟩,by unfold sk;rw[if_pos rfl];exact .nil⟩
  ·
   exact⟨C,vs,rfl,T.s,T.fn,.inr ⟨d,od,z1,z2,z3⟩,by unfold sk;rw[if_neg zn];exact rs.pres fun b o _ q=>up b o q⟩
end
def okX(post:L→Prop):Fl→Ev→Prop:=fun f _=>match f with
 |.rt r=>post r
 |.nx=>post (.d .non)
 |_=>False
theorem qO{P:Program}{w:World}{K:Frag}{mg:Str→Option Value}{base:Heap}{x qual:Str}{st:Stmt}{f:Addr}{fd:FuncData}{N ps:List Str}{k:Nat}{fs:FSX}(F:Fun K x qual st f fd)(S:aI N ps (aq st))(t:(Xc→Prop)→W Fl)
  (hbody:∀(cdv:Value)(A:Around)(outer:List Env)(s:Shared)(H:Hp)(E:XK)(xp:Xc→Prop),Room k (A.deeper (envOfC qual (aq st) s.heap.objs.size f cdv))→(∀cls dx H' y,XFly K H' cls dx y→xp y→E cls dx H') →
   PMs (cxOf (CXr P w) P w K mg base N qual (aq st) f cdv A outer s H E) (bV st) (t xp))
  (h:∀ds post xp,ds.length=ps.length→fs ds post xp→t xp (ds.map .d++List.replicate (N.length-ps.length) .un) (okX post)):FnOk P w K mg base (CXr P w) (k+1) f fd ps (spX K ps.length fs):=by
 obtain⟨oc,od,kV,doc,pm,an,cdv,ct,osl,rfl,lk,hcd⟩:=F.ex
 refine yj lk hcd S (fun vs H Q E q=>q.1) fun A outer s H vs Q E hr q=>?_
 obtain⟨hl,ds,post,xp,rs,hf,q1,q2⟩:=q
 have E0:REnv K H H (vs.map some) (ds.map .d):=⟨fun _ _ e=>e,by rw[mI];exact List.nodup_nil,fun a ha=>(by rw[mI]at ha;simp at ha),REnv.ds rs⟩
 refine⟨_,(hbody cdv A outer s H E xp hr q2).pss,H,ds.map .d++List.replicate (N.length-ps.length) .un,okX post,?_,h ds post xp (by rw[← rs.length];exact hl) hf,fun σ' H' ρ' E' p=>?_,fun _ _ _ _ p=>p.elim,fun _ _ _ _ p=>p.elim,fun v τ H' r ρ' E' p=>?_⟩
 ·
  unfold iF
  rw[hl]
  exact E0.uns _
 ·
  exact q1 .non H' (.d .non) ((⟨E'.sub,List.nodup_nil,fun a ha=>(by simp[owns]at ha),.nil⟩:REnv K H H' [] []).cons_d .non) p
 ·
  exact q1 v H' r (REnv.left (τ:=[some v]) (lam:=[r]) E' rfl) p
section
variable{X:Cx}{pins:List (Addr×Obj)}{σ:St}{H:Hp}{s:Shared}
theorem Inv.lost{n:Str}{i:Nat}{h':Heap}{t':Nat}{m m':Str→Option Value}(I:Inv X pins σ H s)(hN:X.N.Nodup)(hi:X.N[i]?=some n)(hn:s.heap.Ns X.env.locals m)(hn':h'.Ns X.env.locals m')(hm:∀y,y≠n→m' y=m y)(hs:Heap.SameBut X.env.locals s.heap h') :
  Inv X pins (σ.set i none) H {s with heap:=h',toks:=t' }:=by
 have nl:∀b o,X.s₀.heap.get? b=some o→b≠X.env.locals:=fun b o e=>Nat.ne_of_lt (Nat.lt_of_lt_of_le (Heap.lt_size e) I.ok.above)
 refine⟨I.ok,I.os,I.bare,⟨fun b o e n hb hx=>(hs.2 b (nl b o e)).trans (I.base.keep b o e n hb hx),fun b o e n hb hx=>?_,I.base.free,fun b o e hx=>?_,I.base.tups,I.base.frzs,I.base.tbls⟩,⟨m',hn',fun j y v e1 e2 e3=>?_⟩,fun y c e=>?_,I.free,I.freeC,fun p hp=>?_,fun b o e=>?_,by simpa using I.len⟩
 ·
  obtain⟨sl,e1⟩:=I.base.slot b o e n hb hx
  exact⟨sl,(hs.2 b (nl b o e)).trans e1⟩
 ·
  obtain⟨o',e1⟩:=I.base.there b o e hx
  exact⟨o',(hs.2 b (nl b o e)).trans e1⟩
 ·
  have hj:j≠i:=fun z=>by
   subst z
   have hlt:j<σ.length:=by rw[I.len];exact(List.getElem?_eq_some_iff.mp hi).1
   rw[List.getElem?_set_self hlt]at e2;cases e2
  rw[List.getElem?_set_ne (Ne.symm hj)]at e2
  obtain⟨m0,hn0,hl⟩:=I.loc
  obtain⟨u,r,q⟩:=hl j y v e1 e2 e3
  have hy:y≠n:=fun z=>hj (my hN e1 (z ▸ hi))
  refine⟨u,r,?_⟩
  rcases q with⟨k,e⟩|⟨k,c,e,z⟩
  ·
   refine .inl ⟨k,?_⟩
   rw[hm y hy]
   obtain⟨o1,es1,ep1,a1,a2,a3,a4⟩:=hn
   obtain⟨o2,es2,ep2,b1,b2,b3,b4⟩:=hn0
   rw[a1]at b1;cases b1
   rw[a2]at b2;cases b2
   rw[← a4 y,b4 y];exact e
  ·
   exact .inr ⟨k,c,e,z.sameBut hs (I.cne y c e)⟩
 ·
  obtain⟨v,z⟩:=I.cell y c e
  exact⟨v,z.sameBut hs (I.cne y c e)⟩
 ·
  obtain⟨a1,a2,a3,a4⟩:=I.pin p hp
  exact⟨(hs.2 _ a3).trans a1,a2,a3,a4⟩
 ·
  refine(I.hok b o e).stay (fun c v hc z=>(hs.2 c fun q=>?_).trans z) (fun _ z=>z) (fun _ _ z=>z) fun _ _ _ _ z=>z
  have:∃o',H c=some o':=by
   rcases hc with rfl|hc
   ·
    exact⟨o,e⟩
   ·
    exact⟨_,hc⟩
  obtain⟨o',ho'⟩:=this
  rw[q,I.free]at ho';cases ho'
theorem iW{M:Model}{A:Around}{E:Value→Shared→Prop}{n:Str}{i:Nat}{pos:Pos}{Q:Unit→Shared→Prop}(I:Inv X pins σ H s)(hN:X.N.Nodup)(hi:X.N[i]?=some n)(hl:X.env.kindOf n=some .local)(hx:Loc X.env.scope n)(hf:X.fn n=true∨X.env.scope.names.lookup n=some .local)
  (hq:∀s',Inv X pins (σ.set i none) H s'→Q () s'):wpAny M A (do bindName X.env n .none;unbindBehindTheSuite X.env n pos) Q E s:=by
 have hcls:(X.env.scope.kind == .class ||(X.env.scope.kind == .module && X.env.locals != X.env.globals))=false:=by rw[I.ok.kind];rfl
 refine wpAny_bind (wpAny_bindName (ft (v:=.non) I hN hi hx rfl (fun s1 I1=>?_) hf))
 obtain⟨m,hn,_⟩:=id I1.loc
 unfold unbindBehindTheSuite
 refine wpAny_onRaise ?_
 unfold unbindName
 refine wpAny_bind (wpAny_point (wpAny_bind ?_))
 unfold deleteName
 simp only[hl,hcls]
 rw[if_neg (by decide)]
 refine wpAny_bind (wpAny_nsDel_keeps hn fun h2 v hn2 hs2=>?_)
 have hsome:(m n).isSome=true:=by
  obtain⟨m1,hn1,hl1⟩:=I1.loc
  have hlt:i<σ.length:=by rw[I.len];exact(List.getElem?_eq_some_iff.mp hi).1
  obtain⟨u,r,q⟩:=hl1 i n .non hi (by simp[hlt]) (hx.elim .inl fun z=>.inr (.inl z))
  obtain⟨o1,es1,ep1,a1,a2,a3,a4⟩:=hn
  obtain⟨o2,es2,ep2,b1,b2,b3,b4⟩:=hn1
  rw[a1]at b1;cases b1
  rw[a2]at b2;cases b2
  rcases q with⟨k,e⟩|⟨k,_⟩
  ·
   rw[← a4 n,b4 n,e];rfl
  ·
   rw[hl]at k;rcases k with k|k<;>cases k
 rw[hsome]
 simp only[if_true,Bool.not_true,Bool.false_eq_true,if_false]
 refine wpAny_pure (wpAny_point ?_)
 have z:=I1.lost (t':=s1.toks) hN hi hn hn2 (fun y hy=>by rw[if_neg hy]) hs2
 rw[List.set_set]at z
 exact hq _ z
end
def isA(c y:Str):Bool:=c == y ||c == ("LoadError" : Str)
structure XH (K:Frag) (mg:Str→Option Value) (c:Str) (C:Addr):Prop where
 m:mg c=some (.ref C)
 ns:nsIn K mainGlobals c=some (some (.ref C))
 cls:∃cd,clsIn K C=some cd∧cd.name=c
 ty:typeIn K (.ref C)=some (.type "type")
 base:mroIn K C (.type "BaseException")=some true
section
variable{K:Frag}{mg:Str→Option Value}{c y:Str}{C D:Addr}
theorem XH.sub(T:XH K mg c C)(hs:fZ K y D=true):mroIn K D (.ref C)=some (isA c y):=by
 obtain⟨L,cd,S⟩:=cV hs
 obtain⟨cdC,hC,hn⟩:=T.cls
 obtain⟨kL,hL,hnL⟩:=S.lname
 rw[S.mroIn,qr]
 congr 1
 unfold isA
 have e1:(C == D)=(c == y):=by
  by_cases h:c=y
  ·
   subst h
   have z:=T.ns.symm.trans S.own
   cases z
   simp
  ·
   rw[beq_eq_false_iff_ne.mpr h,beq_eq_false_iff_ne]
   intro z
   subst z
   rw[S.cls]at hC;cases hC
   exact h (hn.symm.trans S.name)
 have e2:(C == L)=(c == ("LoadError" : Str)):=by
  by_cases h:c=("LoadError" : Str)
  ·
   subst h
   have z:=T.ns.symm.trans S.load
   cases z
   simp
  ·
   rw[beq_eq_false_iff_ne.mpr h,beq_eq_false_iff_ne]
   intro z
   subst z
   rw[hL]at hC;cases hC
   exact h (hn.symm.trans hnL)
 rw[e1,e2]
theorem xO{M:Model}{A:Around}{E:Value→Shared→Prop}{s:Shared}{a:Addr}{ox:Obj}{Q:Bool→Shared→Prop}(T:XH K mg c C)(hs:fZ K y D=true)(hA:isA c y=true)(X:K.In s.heap)(he:s.heap.get? a=some ox)(hc:ox.cls=.ref D)(hq:Q true s) :
  wpAny M A (excMatches (.ref a) (.ref C)) Q E s:=by
 obtain⟨hp,g,d,tk,os⟩:=s
 have he:hp.get? a=some ox:=he
 obtain⟨cd,hcd,_⟩:=T.cls
 obtain⟨oc,odc,slc,hK⟩:=kM hcd
 have hC:hp.get? C=some ⟨oc,odc,.cls cd,slc⟩:=X _ _ hK
 have L1:Looks M hp (typeOf (.ref C)) (.type "type"):=looks_typeIn X T.ty
 have L2:Looks M hp (isSubtype (.ref C) (.type "BaseException")) true:=looks_mroIn X T.base
 have L3:Looks M hp (isSubtype (.ref D) (.ref C)) true:=looks_mroIn X (by rw[T.sub hs,hA])
 have f:=tc_notTuple
 have L4:Looks M hp (isInstance (.ref C) (.type "tuple")) false:=L1.andThen (Looks.of_pure f)
 have L5:Looks M hp (typeOf (.ref a)) (.ref D):=hc ▸ (Looks.ld he).andThen .now
 unfold excMatches
 refine wpAny_bind (L4.at ?_)
 dsimp only
 rw[if_neg (by decide)]
 repeat (first|with_reducible refine L2.at ?_|with_reducible refine L3.at ?_|with_reducible refine L5.at ?_|with_reducible refine wpAny_loadPart_at hC ?_|wp_step)
 exact hq
end
abbrev Cx.tr(X:Cx)(pins:List (Addr×Obj))(E:Value→Shared→Prop):Cx:={X with pn:=X.pn++pins,xe:=E}
abbrev Cx.han(X:Cx)(a:Addr):Cx:={X with A:=X.A.mark (some (.ref a)),calm:=false,xe:=fun _ _=>False}
section
variable{X:Cx}{pins pins0:List (Addr×Obj)}{σ:St}{H:Hp}{s:Shared}{E:Value→Shared→Prop}{a:Addr}
theorem Cx.Ok.tr(ok:X.Ok):(X.tr pins E).Ok:=⟨ok.mod,ok.kind,ok.glob,ok.blt,ok.above,ok.inj,ok.has,ok.cab,ok.hd,ok.frames,ok.stk,ok.exf,ok.bs,ok.bsz,ok.noex,ok.exfs,ok.funs,ok.frf,ok.tbs⟩
theorem Cx.Ok.untr(ok:(X.tr pins E).Ok):X.Ok:=⟨ok.mod,ok.kind,ok.glob,ok.blt,ok.above,ok.inj,ok.has,ok.cab,ok.hd,ok.frames,ok.stk,ok.exf,ok.bs,ok.bsz,ok.noex,ok.exfs,ok.funs,ok.frf,ok.tbs⟩
theorem Inv.tr(I:Inv X pins σ H s):Inv (X.tr pins E) [] σ H s:=⟨I.ok.tr,I.os,I.bare,I.base,I.loc,I.cell,I.free,I.freeC,fun p hp=>I.pin p (by simpa using hp),I.hok,I.len⟩
theorem Inv.untr(I:Inv (X.tr pins0 E) pins σ H s):Inv X pins0 σ H s:=⟨I.ok.untr,I.os,I.bare,I.base,I.loc,I.cell,I.free,I.freeC,fun p hp=>I.pin p (List.mem_append_left _ hp),I.hok,I.len⟩
theorem Inv.han(I:Inv X pins σ H s)(a:Addr):Inv (X.han a) pins σ H s :=
 ⟨⟨I.ok.mod,I.ok.kind,I.ok.glob,I.ok.blt,I.ok.above,I.ok.inj,I.ok.has,I.ok.cab,(fun z=>nomatch z),I.ok.frames,I.ok.stk,I.ok.exf,I.ok.bs,I.ok.bsz,I.ok.noex,I.ok.exfs,I.ok.funs,I.ok.frf,I.ok.tbs⟩,I.os,I.bare,I.base,I.loc,I.cell,I.free,I.freeC,I.pin,I.hok,I.len⟩
theorem Inv.unhan(I:Inv (X.han a) pins σ H s)(ok:X.Ok):Inv X pins σ H s:=⟨ok,I.os,I.bare,I.base,I.loc,I.cell,I.free,I.freeC,I.pin,I.hok,I.len⟩
theorem SM.unhan{Pr:Hp}{post:Fl→Ev→Prop}{f:Flow}{s':Shared}(ok:X.Ok)(h:SM (X.han a) pins Pr post f s'):SM X pins Pr post f s':=by
 cases f with
 |next=>obtain⟨σ',H',ρ',I,r⟩:=h;exact⟨σ',H',ρ',I.unhan ok,r⟩
 |brk=>obtain⟨σ',H',ρ',I,r⟩:=h;exact⟨σ',H',ρ',I.unhan ok,r⟩
 |cont=>obtain⟨σ',H',ρ',I,r⟩:=h;exact⟨σ',H',ρ',I.unhan ok,r⟩
 |ret u=>obtain⟨v,σ',H',r',ρ',τ,I,r⟩:=h;exact⟨v,σ',H',r',ρ',τ,I.unhan ok,r⟩
theorem SM.untr{Pr:Hp}{post:Fl→Ev→Prop}{f:Flow}{s':Shared}(h:SM (X.tr pins0 E) pins Pr post f s'):SM X pins0 Pr post f s':=by
 cases f with
 |next=>obtain⟨σ',H',ρ',I,r⟩:=h;exact⟨σ',H',ρ',I.untr,r⟩
 |brk=>obtain⟨σ',H',ρ',I,r⟩:=h;exact⟨σ',H',ρ',I.untr,r⟩
 |cont=>obtain⟨σ',H',ρ',I,r⟩:=h;exact⟨σ',H',ρ',I.untr,r⟩
 |ret u=>obtain⟨v,σ',H',r',ρ',τ,I,r⟩:=h;exact⟨v,σ',H',r',ρ',τ,I.untr,r⟩
end
def xeT(X:Cx)(pins:List (Addr×Obj))(Pr:Hp)(xp:Xc→Ev→Prop):Value→Shared→Prop:=fun e s'=>∃σ' H' ρ' a cls dx T x,e=.ref a∧Inv X pins σ' H' s'∧REnv X.K Pr H' σ' ρ'∧qN X pins H' s' a cls dx T∧XFly X.K H' cls dx x∧xp x ρ'
abbrev Cx.tb(X:Cx)(pins:List (Addr×Obj))(Pr:Hp)(xp:Xc→Ev→Prop):Cx:=X.tr pins (xeT X pins Pr xp)
def Le(P Q:Hp):Prop:=∀b o,P b=some o→Q b=some o
theorem REnv.le{K:Frag}{P Q H:Hp}{σ:St}{ρ:Ev}(E:REnv K Q H σ ρ)(h:Le P Q):REnv K P H σ ρ:=⟨fun b o e=>E.sub b o (h b o e),E.nd,fun a ha=>(by
  have z:=E.off a ha
  cases q:P a with
  |none=>rfl
  |some o=>rw[h a o q]at z;cases z),E.sl⟩
def PLt(X:Cx)(pins0:List (Addr×Obj))(Pr0:Hp)(xp:Xc→Ev→Prop)(e:Expr)(t:W L):Prop :=
 ∀(pins:List (Addr×Obj))(s:Shared)(σ:St)(H Pr:Hp)(ρ:Ev)(post:L→Ev→Prop),Le Pr0 Pr→Inv (X.tb pins0 Pr0 xp) pins σ H s→REnv X.K Pr H σ ρ→t ρ post→wpAny (model X.prog X.w) X.A (eval e X.env) (EL (X.tb pins0 Pr0 xp) pins σ Pr post) (xeT X pins0 Pr0 xp) s
def PMt(X:Cx)(pins0:List (Addr×Obj))(Pr0:Hp)(xp:Xc→Ev→Prop)(st:Stmt)(t:W Fl):Prop :=
 ∀(pins:List (Addr×Obj))(s:Shared)(σ:St)(H Pr:Hp)(ρ:Ev)(post:Fl→Ev→Prop),Le Pr0 Pr→Inv (X.tb pins0 Pr0 xp) pins σ H s→REnv X.K Pr H σ ρ→t ρ post→wpAny (model X.prog X.w) X.A (exec st X.env) (SM (X.tb pins0 Pr0 xp) pins Pr post) (xeT X pins0 Pr0 xp) s
def PMts(X:Cx)(pins0:List (Addr×Obj))(Pr0:Hp)(xp:Xc→Ev→Prop)(sts:List Stmt)(t:W Fl):Prop :=
 ∀(pins:List (Addr×Obj))(s:Shared)(σ:St)(H Pr:Hp)(ρ:Ev)(post:Fl→Ev→Prop),Le Pr0 Pr→Inv (X.tb pins0 Pr0 xp) pins σ H s→REnv X.K Pr H σ ρ→t ρ post→wpAny (model X.prog X.w) X.A (execs sts X.env) (SM (X.tb pins0 Pr0 xp) pins Pr post) (xeT X pins0 Pr0 xp) s
def mf(fs:FSX)(xp:Xc→Ev→Prop)(t:W (List L)):W L:=fun ρ post=>t ρ fun ls ρ1=>toDs ls fun ds=>fs ds (fun r=>post r ρ1) (fun y=>xp y ρ1)
section
variable{X:Cx}{pins0:List (Addr×Obj)}{Pr0:Hp}{xp:Xc→Ev→Prop}{k n:Nat}{f:Addr}{fd:FuncData}{ps:List Str}{fs:FSX}{x:Str}{p pos:Pos}{e:Expr}{es:List Expr}{bs:List (Option Nat)}{t:W (List L)}{te:W L}{tm:W Fl}{st:Stmt}
theorem wO(F:FnOk X.prog X.w X.K X.mg X.base (CXr X.prog X.w) k f fd ps (spX X.K n fs))(hr:Room k X.A)(hg:Gl X x)(hm:X.mg x=some (.ref f))(hk:PySem.W.keepIn X.K (.ref f)=true)(hb:iE X.K fd ps [])
  (ha:PAL (X.tb pins0 Pr0 xp) (e::es) bs t) (hn:bs.length=n) (hdb:(x == ("__debug__" : Str))=false:=by decide) (he:starEach (e::es) X.env=(false,eval e X.env)::starEach es X.env:=by rfl) (hpl:(backTo pos (starEach es X.env)).any (·.1)=false:=by rfl) :
  PLt X pins0 Pr0 xp (.Call (.Name x p) (e::es) [] pos) (mf fs xp t):=by
 intro pins s σ H Pr ρ post le I E0 h
 refine wpAny_Call_Name_kw (eF (X:=X.tb pins0 Pr0 xp) I hg hm ?_ hdb)
 refine PySem.W.callWith_K (h₀:=X.base) I.ok.mod.kin hk (thn (ha pos pins s σ H Pr ρ _ I E0 h) fun us s1 ⟨vs,H1,ls,ρ1,I1,r,hl,hbl,E1,hv,q⟩=>⟨I1.kIn,?_⟩) he hpl
 obtain⟨ds,rfl,q1⟩:=gb q
 have hlen:vs.length=ds.length:=by simpa using hl
 refine Bq (X:=X.tb pins0 Pr0 xp) (post:=post) F hr hb (hbl.trans hn) I1 (E1.drop (by simp[hlen])) r (gh hlen E1) q1 fun s' H' a cls dx T y I2 E2 R z1 z2=>?_
 exact⟨σ,H',ρ1,a,cls,dx,T,y,rfl,I2.untr,E2.le le,⟨R.fly,R.na,R.nt,⟨R.wa.s0,R.wa.loc,R.wa.cel,fun p hp=>R.wa.pin p (List.mem_append_left _ hp)⟩,fun t et=>⟨(R.wt t et).s0,(R.wt t et).loc,(R.wt t et).cel,fun p hp=>(R.wt t et).pin p (List.mem_append_left _ hp)⟩⟩,z1,z2⟩
theorem zi(h:PLt X pins0 Pr0 xp e te):PLt X pins0 Pr0 xp e (wFrz te):=fun pins s σ H Pr ρ post le I E ht =>
 thn (h pins s σ H Pr ρ _ le I E ht) fun u s1 q=>by
  obtain⟨v,H',x,ρ',I',rv,E',p⟩:=EL.frz (X:=X.tb pins0 Pr0 xp) (post:=fun x ρ=>post (.d x) ρ) q
  exact⟨v,H',.d x,ρ',I',rv,E',p⟩
theorem wQ(he:PLt X pins0 Pr0 xp e te)(hs:swapsWith e none pos.line X.env=pure false:=by rfl):PMt X pins0 Pr0 xp (.Expr e pos) (nL te):=by
 intro pins s σ H Pr ρ post le I E h
 exact wpAny_Expr_any (thn (he pins s σ H Pr ρ _ le I E h) fun v s1 ⟨x,H1,r,ρ1,I1,r1,E1,q1⟩=>⟨σ,H1,ρ1,I1,E1.tail,q1⟩) I.quiet hs
theorem zj{i:Nat}{x:Str}{pos':Pos}(hN:X.N.Nodup)(hi:X.N[i]?=some x)(hx:Loc X.env.scope x)(he:PLt X pins0 Pr0 xp e te)(hs:swapsWith e (some (.Name x pos')) pos.line X.env=pure false:=by rfl)(hf:X.fn x=true∨X.env.scope.names.lookup x=some .local:=by first|exact .inl rfl|exact .inr rfl|assumption) :
  PMt X pins0 Pr0 xp (.Assign [.Name x pos'] e pos) (wSet i te):=by
 intro pins s σ H Pr ρ post le I E h
 refine wpAny_Assign_Name (thn (he pins s σ H Pr ρ _ le I E h) fun v s1 ⟨y,H1,r,ρ1,I1,r1,E1,q1⟩=>?_) hs
 exact ft (X:=X.tb pins0 Pr0 xp) I1 hN hi hx r1 (fun s2 I2=>⟨_,H1,_,I2,E1.store (by rw[I1.len];exact(List.getElem?_eq_some_iff.mp hi).1),q1⟩) hf
theorem qP(h1:PMt X pins0 Pr0 xp st tm):PMts X pins0 Pr0 xp [st] tm:=by
 intro pins s σ H Pr ρ post le I E h
 refine wpAny_execs_cons (thn (h1 pins s σ H Pr ρ post le I E h) fun f s1 q=>?_)
 cases f with
 |next=>exact wpAny_execs_nil q
 |brk=>exact q
 |cont=>exact q
 |ret u=>exact q
end
def wTry(tb:(Xc→Ev→Prop)→W Fl)(c:Str)(ts:W Fl):W Fl:=fun ρ post=>tb (fun x ρ1=>isA c x.c=true∧ts ρ1 post) ρ post
def qQ(tb:(Xc→Ev→Prop)→W Fl)(c:Str)(i:Nat)(ts:W Fl):W Fl:=fun ρ post=>tb (fun x ρ1=>isA c x.c=true∧ts (ρ1.set i (.d (.exc x.c x.ns x.ds))) fun f ρ2=>post f (ρ2.set i .un)) ρ post
section
variable{X:Cx}{pins:List (Addr×Obj)}{σ:St}{H:Hp}{s:Shared}
theorem Inv.landed{Pr:Hp}{ρ:Ev}{a:Addr}{cls:Value}{dx T:Option Addr}{h1:Heap}(I:Inv X pins σ H s)(R:qN X pins H s a cls dx T)(hstk:X.stack=X.env::X.outer)
  (k1:∀b o,b≠a→some b≠T→b∉frs (X.env::X.outer)→s.heap.get? b=some o→h1.get? b=some o) (k2:∀b o,b≠a→some b≠T→s.heap.get? b=some o→∃sl,h1.get? b=some {o with slots:=sl}):Inv X pins σ H {s with heap:=h1}:=by
 have nch:∀b,b∉a::T.toList→b≠a∧some b≠T:=fun b hb=>⟨fun z=>hb (by simp[z]),fun z=>hb (by simp[← z])⟩
 have tra:∀b o,H b=some o→b≠a∧some b≠T∧b∉frs (X.env::X.outer):=fun b o e=>by
  refine⟨fun z=>(by subst z;rw[R.na]at e;cases e),fun z=>(by rw[R.nt b z.symm]at e;cases e),fun z=>?_⟩
  have:=I.stkFree b (by rw[hstk];exact z)
  rw[e]at this;cases this
 refine I.call (g':=s.gens) (t':=s.toks) (d':=s.drawn) (ch:=a::T.toList) ⟨fun b o e n hf hx=>?_,fun b o e n hf hx=>?_,fun b o e n hx=>n,fun b o e hx=>?_,fun _ _ e=>e,fun _ _ _ e=>e,fun _ _ e=>e⟩ (fun b o e=>?_) I.bare fun b hb=>?_
 ·
  exact k1 b o (nch b hx).1 (nch b hx).2 (by rw[← hstk];exact hf) e
 ·
  exact k2 b o (nch b hx).1 (nch b hx).2 e
 ·
  obtain⟨sl,q⟩:=k2 b o (nch b hx).1 (nch b hx).2 e
  exact⟨_,q⟩
 ·
  refine(I.hok b o e).stay (fun c v hc z=>?_) (fun _ z=>z) (fun _ _ z=>z) fun _ _ _ _ z=>z
  have ht:∃o',H c=some o':=by
   rcases hc with rfl|hc
   ·
    exact⟨o,e⟩
   ·
    exact⟨_,hc⟩
  obtain⟨o',ho'⟩:=ht
  obtain⟨t1,t2,t3⟩:=tra c o' ho'
  exact k1 c v t1 t2 t3 z
 ·
  have w:New X pins b:=by
   rcases List.mem_cons.mp hb with rfl|hb
   ·
    exact R.wa
   ·
    exact R.wt b (by cases T with|none=>simp at hb|some t=>simp at hb;rw[hb])
  exact⟨.inr w.s0,w.loc,w.cel,w.pin⟩
end
section
variable{X:Cx}{body suite:List Stmt}{b0:Stmt}{c:Str}{C:Addr}{p hp pos:Pos}{tb:(Xc→Ev→Prop)→W Fl}{ts:W Fl}
theorem zk(hstk:X.stack=X.env::X.outer)(hf:X.env.frame=some X.env.locals)(TC:XH X.K X.mg c C)(hg:Gl X c)(hb:∀ pins Pr xp,PMts X pins Pr xp body (tb xp))(hs:∀ a,PMs (X.han a) (b0::suite) ts) (hdb:(c == ("__debug__" : Str))=false:=by decide) :
  PM X (.Try body [.ExceptHandler (some (.Name c p)) none (b0::suite) hp] [] [] pos) (wTry tb c ts):=by
 intro pins s σ H Pr ρ post I E h
 refine wpAny_Try_except (wpAny_mono (hb pins Pr (fun x ρ1=>isA c x.c=true∧ts ρ1 post) [] s σ H Pr ρ post (fun _ _ z=>z) I.tr E h) (fun f s1 q=>?_) fun e s1 q=>?_)
 ·
  have q':=SM.untr q
  cases f with
  |next=>exact wpAny_execs_nil q'
  |brk=>exact q'
  |cont=>exact q'
  |ret u=>exact q'
 ·
  obtain⟨σ',H',ρ',a,cls,dx,T,x,rfl,I1,E1,R,F,hA,hts⟩:=q
  refine y4 (hstk ▸ I1.ok.frames) (hstk ▸ I1.stack) hf R.fly fun h1 T1 fl hT1 k1 k2=>?_
  have I2:=I1.landed (Pr:=Pr) (ρ:=ρ') R hstk k1 k2
  have w1:=I1.newer hT1
  obtain⟨D0,vs,rfl,hstd,hfq,hxf,rs⟩:=F
  refine wpAny_handleBy_cons (codeAny_handlers_test (eF (I2.han a) hg TC.m ?_ hdb)) (by intro q;cases q)
  obtain⟨vv,sl,he,_⟩:=id fl
  refine xO TC hstd hA I2.kIn he rfl ?_
  refine codeAny_handlers_suite (Bo fl fun h2 fl2 k3=>?_)
  have I3:=I2.turned (it:=T1) (t':=s1.toks) (fun b o hb e=>k3 b o hb e) (I1.hok.fresh hT1) w1.loc (.inr w1.s0) w1.cel w1.pin
  exact wpAny_mono (hs a pins _ σ' H' Pr ρ' post (I3.han a) E1 hts) (fun f s4 q=>SM.unhan I.ok q) fun _ _ z=>z.elim
theorem wR{n:Str}{i:Nat}(hstk:X.stack=X.env::X.outer)(hf:X.env.frame=some X.env.locals)(TC:XH X.K X.mg c C)(hg:Gl X c)(hN:X.N.Nodup)(hi:X.N[i]?=some n)(hl:X.env.kindOf n=some .local)(hx:Loc X.env.scope n)(hb:∀ pins Pr xp,PMts X pins Pr xp body (tb xp))(hs:∀ a,PMs (X.han a) (b0::suite) ts) (hdb:(c == ("__debug__" : Str))=false:=by decide)
  (hfn:X.fn n=true∨X.env.scope.names.lookup n=some .local:=by first|exact .inl rfl|exact .inr rfl|assumption) :
  PM X (.Try body [.ExceptHandler (some (.Name c p)) (some n) (b0::suite) hp] [] [] pos) (qQ tb c i ts):=by
 intro pins s σ H Pr ρ post I E h
 refine wpAny_Try_except (wpAny_mono (hb pins Pr (fun x ρ1=>isA c x.c=true∧ts (ρ1.set i (.d (.exc x.c x.ns x.ds))) fun f ρ2=>post f (ρ2.set i .un)) [] s σ H Pr ρ post (fun _ _ z=>z) I.tr E h) (fun f s1 q=>?_) fun e s1 q=>?_)
 ·
  have q':=SM.untr q
  cases f with
  |next=>exact wpAny_execs_nil q'
  |brk=>exact q'
  |cont=>exact q'
  |ret u=>exact q'
 ·
  obtain⟨σ',H',ρ',a,cls,dx,T,x,rfl,I1,E1,R,F,hA,hts⟩:=q
  refine y4 (hstk ▸ I1.ok.frames) (hstk ▸ I1.stack) hf R.fly fun h1 T1 fl hT1 k1 k2=>?_
  have I2:=I1.landed (Pr:=Pr) (ρ:=ρ') R hstk k1 k2
  have w1:=I1.newer hT1
  obtain⟨D0,vs,rfl,hstd,hfq,hxf,rs⟩:=F
  refine wpAny_handleBy_cons (codeAny_handlers_test (eF (I2.han a) hg TC.m ?_ hdb)) (by intro q;cases q)
  obtain⟨vv,sl,he,_⟩:=id fl
  refine xO TC hstd hA I2.kIn he rfl ?_
  refine codeAny_handlers_suite_as (Bo fl fun h2 fl2 k3=>?_)
  have I3:=I2.turned (it:=T1) (t':=s1.toks) (fun b o hb e=>k3 b o hb e) (I1.hok.fresh hT1) w1.loc (.inr w1.s0) w1.cel w1.pin
  obtain⟨vv2,sl2,he2,_⟩:=id fl2
  have I4:=I3.track (o:=.frz ⟨.ref D0,dx,.fields vv2,sl2⟩ (.ext fun h=>h.get? a=some ⟨.ref D0,dx,.fields vv2,sl2⟩)) R.na R.wa.s0 R.wa.loc R.wa.cel R.wa.pin ⟨he2,he2,⟨_,he2⟩,fun h1 h2 p k=>k _ p⟩
  have pr:Pres H' (upd H' a (.frz ⟨.ref D0,dx,.fields vv2,sl2⟩ (.ext fun h=>h.get? a=some ⟨.ref D0,dx,.fields vv2,sl2⟩))):=fun b o _ e=>by rw[aj (aL e R.na)];exact e
  have rep:Rep X.K (upd H' a (.frz ⟨.ref D0,dx,.fields vv2,sl2⟩ (.ext fun h=>h.get? a=some ⟨.ref D0,dx,.fields vv2,sl2⟩))) (.ref a) (.exc x.c x.ns x.ds):=.exc aC True.intro rfl rfl hstd hfq (hxf.pres pr) (rs.pres pr)
  have E4:=(E1.new (o:=.frz ⟨.ref D0,dx,.fields vv2,sl2⟩ (.ext fun h=>h.get? a=some ⟨.ref D0,dx,.fields vv2,sl2⟩)) R.na).cons_d rep
  have hil:i<σ'.length:=by rw[I1.len];exact(List.getElem?_eq_some_iff.mp hi).1
  refine ft (X:=X.han a) (I4.han a) hN hi hx (v:=.ref a) rfl (fun s5 I5=>?_) hfn
  refine wpAny_mono (hs a pins s5 _ _ Pr _ _ I5 (E4.store hil) hts) (fun f s6 q=>?_) fun _ _ z=>z.elim
  cases f with
  | next =>
   obtain⟨σ2,H2,ρ2,J,E2,q⟩:=q
   exact iW (J.unhan I.ok) hN hi hl hx hfn fun s7 J7=>⟨_,H2,_,J7,E2.forget i none,q⟩
  | brk =>
   obtain⟨σ2,H2,ρ2,J,E2,q⟩:=q
   exact iW (J.unhan I.ok) hN hi hl hx hfn fun s7 J7=>⟨_,H2,_,J7,E2.forget i none,q⟩
  | cont =>
   obtain⟨σ2,H2,ρ2,J,E2,q⟩:=q
   exact iW (J.unhan I.ok) hN hi hl hx hfn fun s7 J7=>⟨_,H2,_,J7,E2.forget i none,q⟩
  | ret u =>
   obtain⟨v,σ2,H2,r,ρ2,τ,J,rv,E2,q⟩:=q
   exact iW (J.unhan I.ok) hN hi hl hx hfn fun s7 J7=>⟨v,_,H2,r,_,_,J7,rv,E2.forget (i+1) none,q⟩
end
def isC(c:Str):D→Bool
 |.exc y _ _=>isA c y
 |_=>false
def uQ(c:Str):D→(L→Prop)→Prop:=fun d k=>k (.d (.bl (isC c d)))
def n5(cs:List Str):D→(L→Prop)→Prop:=fun d k=>k (.d (.bl (cs.any fun c=>isC c d)))
theorem uR{K:Frag}{mg:Str→Option Value}{c:Str}{C:Addr}(T:XH K mg c C)(d:D)(t:Value)(h:TyD K d t):kitOne K t (.ref C)=some (isC c d):=by
 obtain⟨cd,hcd,_⟩:=T.cls
 have hk:((clsIn K C).isSome && typeIn K (.ref C) == some (.type "type"))=true:=by rw[hcd,T.ty]; rfl
 unfold kitOne kitCls
 dsimp only
 rw[if_pos hk]
 cases d with
 | exc y ns xs =>
  obtain⟨D0,rfl,hs⟩:=h
  have hsub:=T.sub hs
  by_cases q:D0=C
  ·
   subst q
   rw[if_pos (by simp)]
   have e1:mroIn K D0 (.ref D0)=some true:=by
    obtain⟨L,cd',S⟩:=cV hs
    rw[S.mroIn,qr];simp
   rw[hsub]at e1
   exact e1.symm
  ·
   rw[if_neg (by intro z;exact q (Value.ref.inj (beq_iff_eq.mp z)))]
   exact hsub
 |_=>cases h;rfl
section
variable{X:Cx}{a:Expr}{ta:W L}{pos p:Pos}
theorem Br{c:Str}{C:Addr}{py:Pos}(T:XH X.K X.mg c C) (hg:Gl X "isinstance") (hm:X.mg "isinstance"=none) (hy:Gl X c) (ha:PL X a ta) (hdy:(c == ("__debug__" : Str))=false:=by decide)
  (h1:starEach [a,.Name c py] X.env=(false,eval a X.env)::starEach [.Name c py] X.env:=by rfl) (h2:starEach [.Name c py] X.env=[(false,eval (.Name c py) X.env)]:=by rfl) (hpl:(backTo pos (starEach [.Name c py] X.env)).any (·.1)=false:=by rfl) :
  PL X (.Call (.Name "isinstance" p) [a,.Name c py] [] pos) (wUn (uQ c) ta):=by
 have cr:fT X (.builtin "isinstance") (fun xs H Q=>∃ x d,xs=[x,.ref C]∧Rep X.K H x d∧Q (.bl (isC c d)) H):=by
  intro pins s σ H xs us Q I rv h
  obtain⟨x,d,rfl,r,q⟩:=h
  obtain⟨u,w,rfl,r1,r2⟩:=rH rv
  cases r2
  exact qD I r1 r (fun t ht=>uR T d t ht) fun tk=>⟨.bl _,H,I.tok _,rfl,q⟩
 refine PL.of (mC cr hg hm (by decide +kernel) (bz (av ha).pe (bz (oS hy T.m (v:=.ref C) rfl hdy) fW h2) h1) (he:=h1) (hpl:=hpl)) fun σ H Pr ρ post E h=>?_
 refine⟨Pr,ρ,fun r ρ1=>match r with
  |.d x=>uQ c x fun r=>post r ρ1
  |_=>False,E,h,fun v H' r ρ' E' p=>?_⟩
 cases r with
 | d x =>
  obtain⟨_,e1,p1⟩:=E'.head_d
  cases e1
  exact⟨_,x,rfl,p1,_,ρ',E'.tail.cons_d (.bl _),p⟩
 |_=>exact p.elim
end
def fldD(f:Str):D→Option D
 |.exc _ ns ds=>(ns.zip ds).lookup f
 |_=>none
def n6(f:Str):D→(L→Prop)→Prop:=fun d k=>match fldD f d with
 |some v=>k (.d v)
 |none=>False
theorem mh{α:Type}{f:Str}:∀{ns:List Str}{ds:List α}{v:α},(ns.zip ds).lookup f=some v→f∈ns
 | n::ns,d::ds,v,h=>by
  simp only[List.zip_cons_cons,List.lookup]at h
  split at h
  ·
   rename_i q;rw[beq_iff_eq.mp q];exact List.mem_cons_self
  ·
   exact List.mem_cons_of_mem _ (mh h)
 |[],_,_,h=>by simp at h
 |_::_,[],_,h=>by simp at h
theorem k6{K:Frag}{H:Hp}{f:Str}:∀{ns:List Str}{vs:List V}{ds:List D}{d:D},ns.length=vs.length→Reps K H vs ds→(ns.zip ds).lookup f=some d→∃v,(ns.zip vs).lookup f=some v∧Rep K H v d
 | n::ns,v::vs,_,d,hl,.cons r t,h=>by
  simp only[List.zip_cons_cons,List.lookup]at h ⊢
  split at h
  ·
   cases h;exact⟨v,rfl,r⟩
  ·
   exact k6 (by simpa using hl) t h
 |[],_,_,_,_,_,h=>by simp at h
 |_::_,[],_,_,hl,_,_=>by simp at hl
theorem sq{v:V}{u:Value}(r:RelV v u):handedIn u=true:=by
 cases v with
 |non=>cases r;rfl
 |bl b=>cases r;rfl
 |int i=>obtain⟨t,rfl⟩:=r;rfl
 |str i=>obtain⟨t,rfl⟩:=r;rfl
 |byt i=>obtain⟨t,rfl⟩:=r;rfl
 |flt i=>obtain⟨t,rfl⟩:=r;rfl
 |ref a=>cases r;rfl
 |ty n=>cases r;rfl
section
variable{X:Cx}{e a:Expr}{te ta:W L}{f:Str}{pos p:Pos}
theorem xP(he:PL X e te)(hb:attributeBase e f X.env (eval e X.env)=eval e X.env:=by rfl):PL X (.Attribute e f pos) (wUn (n6 f) te):=by
 intro pins s σ H Pr ρ post I E h
 refine yi hb (thn (he pins s σ H Pr ρ _ I E h) fun u s1 q=>?_)
 obtain⟨x,H1,dx,ρ1,I1,r1,E1,q1⟩:=EL.frz (post:=fun dx ρ1=>n6 f dx fun r=>post r ρ1) q
 obtain⟨_,e1,p1⟩:=E1.head_d
 cases e1
 unfold n6 at q1
 split at q1
 ·
  rename_i v hv
  cases p1 with
  | @exc a o w cc C ns vs ds h1 hvv hc hn hs hq hf rs =>
   cases r1
   have hv:(ns.zip ds).lookup f=some v:=hv
   obtain⟨L0,cd,S⟩:=cV hs
   rcases id hf with⟨z1,z2,z3⟩|⟨d,od,z1,z2,z3⟩
   ·
    subst z1;simp at hv
   ·
    obtain⟨v',hl,rv⟩:=k6 z3 rs hv
    obtain⟨hod,mA,nA,rA⟩:=(show s1.heap.get? d=some od∧∃mA,s1.heap.Ns1 d mA∧∀g,RelO ((ns.zip vs).lookup g) (mA g)from I1.hok d _ z2)
    have ro:=rA f
    rw[hl]at ro
    cases hm:mA f with
    |none=>rw[hm]at ro;exact ro.elim
    | some u0 =>
     rw[hm]at ro
     obtain⟨od',hod',hlk⟩:=tK nA
     rw[hod]at hod';cases hod'
     obtain⟨oi,Ia,hoi⟩:=mM I1 h1 hc hn hf
     obtain⟨q0,e0,e0'⟩:=hoi d z1
     rw[hod]at e0';cases e0'
     subst e0
     have hfo:=S.fown (name:=f) (o:=od) (v:=u0) (hq f (mh hv)) ((hlk f).trans (by rw[hm]))
     have hh:handedIn u0=true:=sq ro
     exact t4 S I1.kIn Ia hfo hh ⟨v',H1,.d v,ρ1,I1.tok _,ro,E1.tail.cons_d rv,q1⟩
  |_=>cases hv
 ·
  exact q1.elim
structure ClsL (X:Cx) (es:List Expr) (cs:List Str) (Cs:List Addr):Prop where
 pa:PA X es (fun _ H Q=>Q (Cs.map V.ref) H)
 h:Paired (fun c C=>XH X.K X.mg c C) cs Cs
theorem zl:ClsL X [] [] []:=⟨fW,.nil⟩
theorem kC{c:Str}{C:Addr}{py:Pos}{es:List Expr}{cs:List Str}{Cs:List Addr}(T:XH X.K X.mg c C)(hy:Gl X c)(h:ClsL X es cs Cs) (hdy:(c == ("__debug__" : Str))=false:=by decide) (hs:starEach (.Name c py::es) X.env=(false,eval (.Name c py) X.env)::starEach es X.env:=by rfl):ClsL X (.Name c py::es) (c::cs) (C::Cs) :=
 ⟨bz (oS hy T.m (v:=.ref C) rfl hdy) h.pa hs,.cons T h.h⟩
theorem qR{K:Frag}{mg:Str→Option Value}{d:D}{t:Value}(ht:TyD K d t):∀{cs:List Str}{Cs:List Addr},Paired (fun c C=>XH K mg c C) cs Cs→kitAny K t (Cs.map Value.ref)=some (cs.any fun c=>isC c d)
 |_,_,.nil=>rfl
 | c::cs,C::Cs,.cons T r=>by
  have ih:=qR ht r
  simp only[List.map_cons,List.any_cons]
  unfold kitAny
  rw[uR T d t ht]
  cases isC c d
  ·
   exact ih
  ·
   rfl
theorem uS{Cs:List Addr}:∀{us:List Value},Vals (Cs.map V.ref) us→us=Cs.map Value.ref:=by
 induction Cs with
 |nil=>intro us h;cases h;rfl
 |cons C Cs ih=>intro us h;cases h with|cons r t=>cases r;rw[ih t];rfl
theorem zm{es:List Expr}{cs:List Str}{Cs:List Addr} {x1} {tpos:Pos} (T:ClsL X es cs Cs) (hg:Gl X "isinstance") (hm:X.mg "isinstance"=none) (ha:PL X a ta) (hz:Cs.length≤30:=by decide)
  (h1:starEach [a,.Tuple es x1 tpos] X.env=(false,eval a X.env)::starEach [.Tuple es x1 tpos] X.env:=by rfl) (h2:starEach [.Tuple es x1 tpos] X.env=[(false,eval (.Tuple es x1 tpos) X.env)]:=by rfl)
  (hpl:(backTo pos (starEach [.Tuple es x1 tpos] X.env)).any (·.1)=false:=by rfl) :
  PL X (.Call (.Name "isinstance" p) [a,.Tuple es x1 tpos] [] pos) (wUn (n5 cs) ta):=by
 have cr:fT X (.builtin "isinstance") (fun xs H Q=>∃ x d q,xs=[x,.ref q]∧H q=some (.tup (Cs.map V.ref))∧Rep X.K H x d∧Q (.bl (cs.any fun c=>isC c d)) H):=by
  intro pins s σ H xs us Q I rv h
  obtain⟨x,d,q,rfl,hq,r,k⟩:=h
  obtain⟨u,w,rfl,r1,r2⟩:=rH rv
  cases r2
  obtain⟨its,vs,it,_⟩:=I.tuple (SqT.of hq)
  obtain rfl:=uS vs
  exact uK I r1 r it (fun t ht=>qR ht T.h) fun tk=>⟨.bl _,H,I.tok _,rfl,k⟩
 refine PL.of (mC cr hg hm (by decide +kernel) (bz (av ha).pe (bz (AJ T.pa) fW h2) h1) (he:=h1) (hpl:=hpl)) fun σ H Pr ρ post E h=>?_
 refine⟨Pr,ρ,fun r ρ1=>match r with
  |.d x=>n5 cs x fun r=>post r ρ1
  |_=>False,E,h,fun v H' r ρ' E' pp=>?_⟩
 cases r with
 | d x =>
  obtain⟨_,e1,p1⟩:=E'.head_d
  cases e1
  refine⟨by rw[List.length_map];exact Nat.le_trans hz (by decide),fun q hq=>⟨_,x,q,rfl,aC,p1.new hq,_,ρ',(E'.tail.new hq).cons_d (.bl _),pp⟩⟩
 |_=>exact pp.elim
end
section
variable{X:Cx}{k k' n:Nat}{f:Addr}{fd:FuncData}{ps:List Str}{fs:FSX}{g:Str}{st:Stmt}{e:Expr}{es:List Expr}{bs:List (Option Nat)}{t:W (List L)}{p pos cpos:Pos}{xp:Xc→Prop}{c:Str}{C fI:Addr}{ns:List Str}
theorem xQ(F:FnOk X.prog X.w X.K X.mg X.base (CXr X.prog X.w) k f fd ps (spX X.K n fs))(T:FX X.K X.mg g st f fd ps)(hr:Room k' X.A)(hx:XOK X xp)(ha:PAL X (e::es) bs t)(hk:k≤k':=by decide)(hg:Gl X g:=by rfl)(hn:bs.length=n:=by rfl) (hdb:(g == ("__debug__" : Str))=false:=by decide) (he:starEach (e::es) X.env=(false,eval e X.env)::starEach es X.env:=by rfl) (hpl:(backTo pos (starEach es X.env)).any (·.1)=false:=by rfl) :
  PL X (.Call (.Name g p) (e::es) [] pos) (n4 fs xp t):=wM F (hr.mono hk) hg T.m T.f.kp T.b hx ha hn hdb he hpl
theorem xR{pins0:List (Addr×Obj)}{Pr0:Hp}{xt:Xc→Ev→Prop}(F:FnOk X.prog X.w X.K X.mg X.base (CXr X.prog X.w) k f fd ps (spX X.K n fs))(T:FX X.K X.mg g st f fd ps)(hr:Room k' X.A)(ha:PAL (X.tb pins0 Pr0 xt) (e::es) bs t)(hk:k≤k':=by decide)(hg:Gl X g:=by rfl)(hn:bs.length=n:=by rfl) (hdb:(g == ("__debug__" : Str))=false:=by decide) (he:starEach (e::es) X.env=(false,eval e X.env)::starEach es X.env:=by rfl) (hpl:(backTo pos (starEach es X.env)).any (·.1)=false:=by rfl) :
  PLt X pins0 Pr0 xt (.Call (.Name g p) (e::es) [] pos) (mf fs xt t):=wO F (hr.mono hk) hg T.m T.f.kp T.b ha hn hdb he hpl
theorem cY(T:XT X.K X.mg c C fI fd ps ns)(F:FnOk X.prog X.w X.K X.mg X.base CX0 2 fI fd ps (spXI X.K ns))(hr:Room k' X.A)(hx:XOK X xp)(ha:PAL X (e::es) bs t)(hk:3≤k':=by decide)(hg:Gl X c:=by rfl)(hn:bs.length=ns.length:=by rfl)
  (hdb:(c == ("__debug__" : Str))=false:=by decide) (he:starEach (e::es) X.env=(false,eval e X.env)::starEach es X.env:=by rfl) (hpl:(backTo cpos (starEach es X.env)).any (·.1)=false:=by rfl) :
  PM X (.Raise (some (.Call (.Name c p) (e::es) [] cpos)) none pos) (gu c ns xp t) :=
 wN T F (fun vs hv=>zh T.s T.fn hv) (hr.mono hk) hg hx ha hn hdb he hpl
abbrev fdQ(g q:Str)(st:Stmt)(md:Value)(c:Nat):FuncData:=PySem.W.fnOf g q (fY st) (bV st) (aq st) .none .none .none md none (.ref c) .none
theorem uN.mk'{K:Frag}{mg:Str→Option Value}{h:Heap}(X:K.In h)(G:h.Ns mainGlobals mg){L fL:Addr}{st:Stmt}{md:Value}{c:Nat} (e1:nsIn K mainGlobals "LoadError"=some (some (.ref L))) (e2:readsIn K L (.type "type")=true) (e3:specialIn K (.ref L) "__getattribute__"=some (some (.builtin "type.__getattribute__")))
  (e4:findCls K (.ref L) (.type "type") "__init__"=some (.val (.ref fL))) (e5:K.lookup fL=some ⟨.type "function",none,.func (fdQ "__init__" "LoadError.__init__" st md c),#[]⟩) (e6:codeIn K (.ref c) "LoadError.__init__"=true) (e7:keepIn K (.ref fL)=true)
  (e8:∀(kV doc pm:Value)(an:Option Addr)(cdv ct:Value)(us:List Value),us.length=2→bindArgs (PySem.W.fnOf "__init__" "LoadError.__init__" (fY st) (bV st) (aq st) .none kV doc pm an cdv ct) ⟨us,[]⟩=pure ((["self","text"]:List Str).zip us)):uN K mg L fL (fdQ "__init__" "LoadError.__init__" st md c) st :=
 ⟨mg_of X G e1,e2,e3,e4,jW e5 e6 e7,(jW e5 e6 e7).binds e8⟩
theorem XT.mk'{K:Frag}{mg:Str→Option Value}{h:Heap}(X:K.In h)(G:h.Ns mainGlobals mg){c:Str}{C fI:Addr}{fd:FuncData}{ps ns:List Str}(e1:nsIn K mainGlobals c=some (some (.ref C)))(e2:fZ K c C=true)(e3:y3 K C fI=true)(b:iE K fd ps [])(e4:keepIn K (.ref C)=true)(e5:(ns.all fun f=>findIn K (.ref C) f == some none)=true):XT K mg c C fI fd ps ns :=
 ⟨mg_of X G e1,e2,Bm e3,b,e4,fun f hf=>beq_iff_eq.mp (List.all_eq_true.mp e5 f hf)⟩
theorem XH.mk'{K:Frag}{mg:Str→Option Value}{h:Heap}(X:K.In h)(G:h.Ns mainGlobals mg){c:Str}{C:Addr}(e1:nsIn K mainGlobals c=some (some (.ref C)))(e2:((clsIn K C).any fun cd=>cd.name == c)=true) (e3:typeIn K (.ref C)=some (.type "type")) (e4:mroIn K C (.type "BaseException")=some true):XH K mg c C :=
 ⟨mg_of X G e1,e1,(let ⟨cd,h1,h2⟩:=any_some e2;⟨cd,h1,beq_iff_eq.mp h2⟩),e3,e4⟩
theorem wU{K:Frag}:∀vs H Q E,spLI K vs H Q E→vs.length=2:=fun _ _ _ _ ⟨_,_,_,_,_,_,e,_⟩=>by rw[e];rfl
theorem qS{K:Frag}{ns:List Str}:∀vs H Q E,spXI K ns vs H Q E→vs.length=ns.length+1:=fun _ _ _ _ ⟨_,_,_,_,_,_,e,_,_,_,l,_⟩=>by rw[e,List.length_cons,l]
end
end L2
namespace L2
open PySem PySem.Spec PyProof.Rows
section
variable{κ:Type}[DecidableEq κ]
def valV(kvs:List (κ×V))(k:κ):Option V:=(kvs.find? fun kv=>decide (kv.1=k)).map (·.2)
def putK(kvs:List (κ×V))(k:κ)(v:V):List (κ×V) :=
 if(kvs.any fun kv=>decide (kv.1=k))=true then kvs.map (fun kv=>if kv.1=k then(kv.1,v)else kv)else kvs++[(k,v)]
theorem qT{p:κ×V}{r:List (κ×V)}{k:κ}(e:p.1=k):valV (p::r) k=some p.2:=by simp[valV,List.find?_cons,e]
theorem qU{p:κ×V}{r:List (κ×V)}{k:κ}(e:¬p.1=k):valV (p::r) k=valV r k:=by simp[valV,List.find?_cons,e]
theorem pM(kvs:List (κ×V))(k:κ)(v:V):(putK kvs k v).length≤kvs.length+1:=by
 unfold putK
 split
 ·
  rw[List.length_map];omega
 ·
  rw[List.length_append,List.length_cons,List.length_nil];omega
theorem RelO.isSome_eq{o:Option V}{u:Option Value}(r:RelO o u):o.isSome=u.isSome:=by
 cases o with
 | none=>cases u with
  |none=>rfl
  |some _=>exact(show False from r).elim
 | some _=>cases u with
  |none=>exact(show False from r).elim
  |some _=>rfl
theorem KV.val{kvs:List (κ×V)}{vs:List (κ×Value)}(r:KV kvs vs)(k:κ):RelO (valV kvs k) (valueAt vs k):=by
 unfold KV at r
 induction r with
 |nil=>exact True.intro
 | @cons p q ps qs h t ih =>
  obtain⟨h1,h2⟩:=h
  by_cases e:p.1=k
  ·
   have e':q.1=k:=h1.symm.trans e
   have b:valueAt (q::qs) k=some q.2:=by simp[valueAt,List.find?_cons,e']
   rw[qT e,b];exact h2
  ·
   have e':¬q.1=k:=fun z=>e (h1.trans z)
   have b:valueAt (q::qs) k=valueAt qs k:=by simp[valueAt,List.find?_cons,e']
   rw[qU e,b];exact ih
theorem KV.any{kvs:List (κ×V)}{vs:List (κ×Value)}(r:KV kvs vs)(k:κ):(kvs.any fun kv=>decide (kv.1=k))=vs.any fun kv=>decide (kv.1=k):=by
 unfold KV at r
 induction r with
 |nil=>rfl
 |cons h t ih=>rw[List.any_cons,List.any_cons,ih,h.1]
theorem KV.repl{kvs:List (κ×V)}{vs:List (κ×Value)}(r:KV kvs vs)(k:κ){y:V}{u:Value}(ry:RelV y u) :
  KV (kvs.map fun kv=>if kv.1=k then(kv.1,y)else kv) (vs.map fun kv=>if kv.1=k then(kv.1,u)else kv):=by
 unfold KV at r ⊢
 induction r with
 |nil=>exact .nil
 | @cons p q ps qs h t ih =>
  rw[List.map_cons,List.map_cons]
  refine .cons ?_ ih
  obtain⟨h1,h2⟩:=h
  by_cases e:p.1=k
  ·
   rw[if_pos e,if_pos (h1.symm.trans e)];exact⟨h1,ry⟩
  ·
   rw[if_neg e,if_neg (fun z=>e (h1.trans z))];exact⟨h1,h2⟩
theorem KV.put{kvs:List (κ×V)}{vs:List (κ×Value)}(r:KV kvs vs)(k:κ){y:V}{u:Value}(ry:RelV y u):KV (putK kvs k y) (stored vs k u):=by
 unfold putK stored
 rw[r.any k]
 by_cases e:(vs.any fun kv=>decide (kv.1=k))=true
 ·
  rw[if_pos e,if_pos e];exact r.repl k ry
 ·
  rw[if_neg e,if_neg e];exact Paired.snoc r ⟨rfl,ry⟩
theorem KV.length{kvs:List (κ×V)}{vs:List (κ×Value)}(r:KV kvs vs):kvs.length=vs.length:=Paired.length r
end
theorem uT{P:Program}{w:World}{k:Key}{u:Value}(r:RelV (kV k) u):(fm P w).is k u=true:=by
 cases k with
 |inl i=>obtain⟨t,e⟩:=(show ∃t,u=Value.int i t from r);subst e;exact oQ P w i t
 |inr x=>obtain⟨t,e⟩:=(show ∃t,u=Value.str x t from r);subst e;exact oR P w x t
def NoSl(i:Expr):Prop:=∀ov iv,subscripted i false ov iv=operate [ov,iv] (getItem ov iv)
theorem zo{prog:Program}{w:World}{A:Around}{E:Value→Shared→Prop}{s:Shared}{env:Env}{value slice:Expr}{pos:Pos}{T id:String}{Q:Value→Shared→Prop}
  (hl:typeLookup (.type T) "__getitem__"=pure (some (.builtin id))) (hs:NoSl slice)
  (h:wpAny (model prog w) A (eval value env) (fun o s₁=>wpAny (model prog w) A (eval slice env) (fun i s₂=>s₂.TypeIs o T∧wpAny (model prog w) A (getItem o i) Q E s₂) E s₁) E s) :
  wpAny (model prog w) A (eval (.Subscript value slice pos) env) Q E s:=by
 refine Subscript_ (wpAny_mono h (fun o s₁ h₁=>wpAny_mono h₁ (fun i s₂ h₂=>?_) fun _ _ x=>x) fun _ _ x=>x)
 obtain⟨hT,h₂⟩:=h₂
 unfold subscriptTail
 refine wpAny_bind ?_
 rw[getitemInPython_of_ne hT.not_modules]
 refine wpAny_bind (wpAny_specialOf hT hl ?_)
 have fin:wpAny (model prog w) A (subscripted slice false o i) (fun r s₃=>wpAny (model prog w) A (letTemporaryGo value o r >>= fun _=>pure r) Q E s₃) E s₂:=by
  rw[hs o i]
  exact wpAny_operating (wpAny_mono h₂ (fun r s₃ h₃=>wpAny_bind (wpAny_letTemporaryGo (wpAny_pure h₃))) fun _ _ x=>x)
 first
  |exact wpAny_pure (wpAny_bind fin)
  |exact wpAny_bind (wpAny_pure (wpAny_bind fin))
  |exact wpAny_bind fin
abbrev DR(K:PySem.W.Frag)(H:Hp):List (Key×V)→List (Key×D)→Prop:=Paired fun (p:Key×V) (q:Key×D)=>p.1=q.1∧Rep K H p.2 q.2
def valD(kvs:List (Key×D))(k:Key):Option D:=match kvs with
 |[]=>none
 |p::r=>if p.1=k then some p.2 else valD r k
def putD(kvs:List (Key×D))(k:Key)(d:D):List (Key×D):=if(kvs.any fun p=>decide (p.1=k))=true then kvs.map (fun p=>if p.1=k then(p.1,d)else p)else kvs++[(k,d)]
theorem DR.val{K:PySem.W.Frag}{H:Hp}{k:Key}:∀{vs:List (Key×V)}{kvs:List (Key×D)},DR K H vs kvs→(valD kvs k=none∧valV vs k=none)∨∃d v,valD kvs k=some d∧valV vs k=some v∧Rep K H v d
 |_,_,.nil=>.inl ⟨rfl,rfl⟩
 | p::vs,q::kvs,.cons h t=>by
  by_cases e:p.1=k
  ·
   refine .inr ⟨q.2,p.2,?_,qT e,h.2⟩
   unfold valD
   rw[if_pos (h.1.symm.trans e)]
  ·
   have e':¬q.1=k:=fun z=>e (h.1.trans z)
   rw[qU e]
   unfold valD
   rw[if_neg e']
   exact DR.val t
theorem DR.any{K:PySem.W.Frag}{H:Hp}{k:Key}:∀{vs:List (Key×V)}{kvs:List (Key×D)},DR K H vs kvs→(vs.any fun p=>decide (p.1=k))=kvs.any fun p=>decide (p.1=k)
 |_,_,.nil=>rfl
 |p::vs,q::kvs,.cons h t=>by rw[List.any_cons,List.any_cons,DR.any t,h.1]
theorem DR.repl{K:PySem.W.Frag}{H:Hp}{k:Key}{v:V}{d:D}(r:Rep K H v d):∀{vs:List (Key×V)}{kvs:List (Key×D)},DR K H vs kvs→DR K H (vs.map fun p=>if p.1=k then(p.1,v)else p) (kvs.map fun p=>if p.1=k then(p.1,d)else p)
 |_,_,.nil=>.nil
 | p::vs,q::kvs,.cons h t=>by
  rw[List.map_cons,List.map_cons]
  refine .cons ?_ (DR.repl r t)
  by_cases e:p.1=k
  ·
   rw[if_pos e,if_pos (h.1.symm.trans e)];exact⟨h.1,r⟩
  ·
   rw[if_neg e,if_neg fun z=>e (h.1.trans z)];exact h
theorem DR.put{K:PySem.W.Frag}{H:Hp}{k:Key}{v:V}{d:D}{vs:List (Key×V)}{kvs:List (Key×D)}(h:DR K H vs kvs)(r:Rep K H v d):DR K H (putK vs k v) (putD kvs k d):=by
 unfold putK putD
 rw[h.any]
 split
 ·
  exact h.repl r
 ·
  exact Paired.app h (.cons ⟨rfl,r⟩ .nil)
theorem DR.pres{K:PySem.W.Frag}{H H':Hp}(p:Pres H H'){vs:List (Key×V)}{kvs:List (Key×D)}(h:DR K H vs kvs):DR K H' vs kvs:=Paired.mapP h fun _ _ z=>⟨z.1,z.2.pres p⟩
def lQ(d:D)(k:Key→Prop):Prop:=match d with
 |.int i=>k (.inl i)
 |.str x=>k (.inr x)
 |_=>False
theorem mT{K:PySem.W.Frag}{H:Hp}{v:V}{d:D}{u:Value}{k:Key→Prop}(h:lQ d k)(r:Rep K H v d)(rv:RelV v u):∃key,v=kV key∧RelV (kV key) u∧k key:=by
 cases r with
 |int i=>exact⟨.inl i,rfl,rv,h⟩
 |str x=>exact⟨.inr x,rfl,rv,h⟩
 |_=>exact h.elim
def dicV(i:Nat)(ρ:Ev)(k:Addr→List (Key×D)→Prop):Prop:=match ρ[i]? with
 |some (.dic a kvs)=>k a kvs
 |_=>False
theorem k7{i:Nat}{ρ:Ev}{k:Addr→List (Key×D)→Prop}(h:dicV i ρ k):∃a kvs,ρ[i]?=some (.dic a kvs)∧k a kvs:=by
 unfold dicV at h
 cases q:ρ[i]? with
 |none=>rw[q]at h;exact h.elim
 | some l =>
  rw[q]at h
  cases l with
  |dic a kvs=>exact⟨a,kvs,rfl,h⟩
  |_=>exact h.elim
section
variable{K:PySem.W.Frag}{Pr H:Hp}{σ:St}{ρ:Ev}{a:Addr}{kvs ks:List (Key×D)}
theorem REnv.dicAt{i:Nat}(E:REnv K Pr H σ ρ)(q:ρ[i]?=some (.dic a kvs)):σ[i]?=some (some (.ref a))∧∃vs,H a=some (.dK vs)∧DR K H vs kvs:=by
 obtain⟨sv,hs,sl⟩:=E.slot q
 unfold aN at sl
 obtain⟨rfl,r⟩:=sl
 exact⟨hs,r⟩
theorem cg:owns (.dic a kvs::ρ)=a::owns ρ:=rfl
theorem REnv.cons_dic(E:REnv K Pr H σ ρ){vs:List (Key×V)}(h:H a=none)(r:DR K H vs kvs):REnv K Pr (upd H a (.dK vs)) (some (.ref a)::σ) (.dic a kvs::ρ):=by
 have E':=E.new (o:=.dK vs) h
 refine⟨E'.sub,?_,fun b hb=>?_,.cons ?_ E'.sl⟩
 ·
  rw[cg]
  refine List.nodup_cons.mpr ⟨fun hm=>?_,E.nd⟩
  obtain⟨us,e,_⟩:=E.at_own hm
  rw[h]at e;cases e
 ·
  rw[cg]at hb
  rcases List.mem_cons.mp hb with rfl|hb
  ·
   cases q:Pr b with
   |none=>rfl
   |some u=>rw[E.sub b u q]at h;cases h
  ·
   exact E.off b hb
 ·
  unfold aN
  exact⟨rfl,vs,aC,r.pres fun b u _ e=>by rw[aj (aL e h)];exact e⟩
theorem REnv.writeD(E:REnv K Pr H σ (.dic a kvs::ρ)){vs:List (Key×V)}(r:DR K H vs ks):REnv K Pr (upd H a (.dK vs)) σ (.dic a ks::ρ):=by
 have pa:Pr a=none:=E.off a (by rw[cg];exact List.mem_cons_self)
 have nd:=E.nd
 rw[cg]at nd
 obtain⟨hn,nd'⟩:=List.nodup_cons.mp nd
 obtain⟨us,ha,mu⟩:=E.at_own (a:=a) (by rw[cg];exact List.mem_cons_self)
 have p:Pres H (upd H a (.dK vs)):=fun b u pu e=>by
  rw[aj];exact e
  rintro rfl
  rw[ha]at e;cases e;exact mu.no pu
 refine⟨fun b u e=>?_,nd,fun b hb=>E.off b hb,?_⟩
 ·
  rw[aj];exact E.sub b u e
  rintro rfl
  rw[pa]at e;cases e
 ·
  have sl:=E.sl
  cases sl with
  | cons q t =>
   unfold aN at q
   obtain⟨e,_⟩:=q
   refine .cons ?_ (Paired.impMem t fun l hl s z=>z.pres p l fun b hbm=>?_)
   ·
    unfold aN
    exact⟨e,vs,aC,r.pres p⟩
   ·
    rw[aj]
    rintro rfl
    exact hn (d5.mpr ⟨l,hl,hbm⟩)
theorem REnv.updDic{i:Nat}(E:REnv K Pr H σ ρ)(q:ρ[i]?=some (.dic a kvs)){vs:List (Key×V)}(r:DR K H vs ks):REnv K Pr (upd H a (.dK vs)) σ (ρ.set i (.dic a ks)):=by
 have hs:=(E.dicAt q).1
 have hi:i<ρ.length:=(List.getElem?_eq_some_iff.mp q).1
 have E1:=(E.outL q hs).writeD r
 have E2:=E1.back (i:=i) (by simp[hi]) hs
 rw[List.set_set]at E2
 exact E2
end
section
variable{X:Cx}{b e:Expr}{pos p:Pos}{tb te:W L}{x:Str}
theorem Inv.dicOk{pins:List (Addr×Obj)}{σ:St}{H:Hp}{s:Shared}{a:Addr}{vs:List (Key×V)}(I:Inv X pins σ H s)(h:H a=some (.dK vs)):vs.length≤sizeLine∧(a == sysModules)=false∧∃us,KV vs us∧s.heap.DictOf (fm X.prog X.w) a us:=I.hok a _ h
def Bs(i:Nat)(tb:W L):W L:=fun ρ post=>dicV i ρ fun _ _=>tb ρ fun r ρ1=>toD r fun kd=>lQ kd fun key=>dicV i ρ1 fun _ kvs=>∃y,valD kvs key=some y∧post (.d y) ρ1
theorem Cq(i:Nat)(hb:PL X b tb)(hs:NoSl b)(hN:X.N[i]?=some x:=by rfl)(hv:Vis X.env.scope x:=by first | exact Or.inl rfl | exact Or.inr (Or.inl rfl) | exact Or.inr (Or.inr rfl)) (hd:(x == ("__debug__" : Str))=false:=by decide)
  (hcd:(x == ("__classdict__" : Str))=false:=by decide):PL X (.Subscript (.Name x p) b pos) (Bs i tb):=by
 intro pins s σ H Pr ρ post I E h
 obtain⟨a,kvs0,q0,h⟩:=k7 h
 have hσ:=(E.dicAt q0).1
 refine zo PySem.F.slot_dict_getitem.lookup hs (thn (dh hN hv hd hcd pins s σ H (fun v H'=>v=.ref a∧H=H') I ⟨_,hσ,rfl,rfl⟩) fun u s1 ⟨y,H1,I1,rx,e1,e2⟩=>?_)
 subst e1 e2
 cases rx
 refine thn (hb pins s1 σ H Pr ρ _ I1 E h) fun u2 s2 q=>?_
 obtain⟨v,H2,kd,ρ2,I2,r2,E2,q2⟩:=EL.frz (post:=fun kd ρ1=>lQ kd fun key=>dicV i ρ1 fun _ kvs=>∃y,valD kvs key=some y∧post (.d y) ρ1) q
 obtain⟨_,e1,p1⟩:=E2.head_d
 cases e1
 obtain⟨key,rfl,r3,q3⟩:=mT q2 p1 r2
 obtain⟨a',kvs,qd,y,hy,q4⟩:=k7 q3
 obtain⟨hσ',vs,hl,r⟩:=E2.tail.dicAt qd
 rw[hσ]at hσ'
 cases hσ'
 obtain⟨_,_,us,rel,dd⟩:=I2.dicOk hl
 rcases r.val (k:=key)with⟨z,_⟩|⟨d,w,z1,z2,z3⟩
 ·
  rw[hy]at z;cases z
 ·
  rw[hy]at z1
  cases z1
  obtain⟨w',hw,rw'⟩:=RelO.some_of (v:=w) (o:=valueAt us key) (by rw[← z2];exact rel.val key)
  exact⟨dd.typeIs,wpAny_getItem_of (uT r3) dd.mapOf hw ⟨w,H2,_,ρ2,I2.tok _,rw',E2.tail.cons_d z3,q4⟩⟩
def wDIn(neg:Bool)(i:Nat)(tb:W L):W L:=fun ρ post=>tb ρ fun r ρ1=>toD r fun kd=>lQ kd fun key=>dicV i ρ1 fun _ kvs=>post (.d (.bl (if neg then !(valD kvs key).isSome else(valD kvs key).isSome))) ρ1
theorem zp{pins:List (Addr×Obj)}{σ:St}{H Pr:Hp}{s:Shared}{ρ:Ev}{i:Nat}{α:Type}{Q:α→Shared→Prop}{f:Value→Value→Sem α}{R:Bool→Ev→Prop}(hb:PL X b tb)(hN:X.N[i]?=some x)(hv:Vis X.env.scope x) (hd:(x == ("__debug__" : Str))=false) (hcd:(x == ("__classdict__" : Str))=false) (I:Inv X pins σ H s) (E:REnv X.K Pr H σ ρ)
  (h:tb ρ fun r ρ1=>toD r fun kd=>lQ kd fun key=>dicV i ρ1 fun _ kvs=>R (valD kvs key).isSome ρ1)
  (hf:∀(u:Value)(a:Addr)(key:Key)(s2:Shared)(H2:Hp)(ρ2:Ev)(us:List (Key×Value))(c:Bool),Inv X pins σ H2 s2→REnv X.K Pr H2 σ ρ2→RelV (kV key) u→(a == sysModules)=false→s2.heap.DictOf (fm X.prog X.w) a us→(valueAt us key).isSome=c→R c ρ2→wpAny (model X.prog X.w) X.A (f u (.ref a)) Q X.xe s2) :
  wpAny (model X.prog X.w) X.A (eval b X.env) (fun v s₁=>wpAny (model X.prog X.w) X.A (eval (.Name x p) X.env) (fun u s₂=>wpAny (model X.prog X.w) X.A (f v u) Q X.xe s₂) X.xe s₁) X.xe s:=by
 refine thn (hb pins s σ H Pr ρ _ I E h) fun u s1 q=>?_
 obtain⟨v,H2,kd,ρ2,I2,r2,E2,q2⟩:=EL.frz (post:=fun kd ρ1=>lQ kd fun key=>dicV i ρ1 fun _ kvs=>R (valD kvs key).isSome ρ1) q
 obtain⟨_,e1,p1⟩:=E2.head_d
 cases e1
 obtain⟨key,rfl,r3,q3⟩:=mT q2 p1 r2
 obtain⟨a,kvs,qd,q4⟩:=k7 q3
 obtain⟨hσ,vs,hl,r⟩:=E2.tail.dicAt qd
 refine thn (dh hN hv hd hcd pins s1 σ H2 (fun v H'=>v=.ref a∧H2=H') I2 ⟨_,hσ,rfl,rfl⟩) fun u2 s2 ⟨y,H3,I3,rx,e1,e2⟩=>?_
 subst e1 e2
 cases rx
 obtain⟨_,hS,us,rel,dd⟩:=I3.dicOk hl
 refine hf u a key s2 H2 ρ2 us _ I3 E2.tail r3 hS dd ?_ q4
 rw[← (rel.val key).isSome_eq]
 rcases r.val (k:=key)with⟨z,z'⟩|⟨d,w,z1,z2,z3⟩
 ·
  rw[z,z'];rfl
 ·
  rw[z1,z2];rfl
theorem Bt(i:Nat)(hb:PL X b tb)(hm:behindInMarks .In (.Name x p)=false)(hN:X.N[i]?=some x:=by rfl)(hv:Vis X.env.scope x:=by first | exact Or.inl rfl | exact Or.inr (Or.inl rfl) | exact Or.inr (Or.inr rfl)) (hd:(x == ("__debug__" : Str))=false:=by decide)
  (hcd:(x == ("__classdict__" : Str))=false:=by decide):PB X (.Compare b [.In] [.Name x p] pos) (aB (wDIn false i tb)):=fun pins s σ H Pr ρ post I E h =>
 wpAny_isTrue_Compare1 (zp (R:=fun c ρ1=>post c ρ1) hb hN hv hd hcd I E h fun u a key s2 H2 ρ2 us c I2 E2 r3 hS dd e q=>wpAny_in_of (uT r3) hS dd.mapOf (by rw[e];exact wpAny_truthy_bool ⟨H2,ρ2,I2.tok _,E2,q⟩)) hm
def zr(i:Nat)(tb te:W L):W Fl:=fun ρ post=>te ρ fun r ρ1=>toD r fun y=>dicV i ρ1 fun _ _=>tb ρ1 fun r ρ2=>toD r fun kd=>lQ kd fun key=>dicV i ρ2 fun a kvs=>kvs.length<sizeLine∧post .nx (ρ2.set i (.dic a (putD kvs key y)))
theorem zu(i:Nat){ps:Pos}(hb:PL X b tb)(he:PL X e te)(hN:X.N[i]?=some x:=by rfl)(hv:Vis X.env.scope x:=by first | exact Or.inl rfl | exact Or.inr (Or.inl rfl) | exact Or.inr (Or.inr rfl)) (hd:(x == ("__debug__" : Str))=false:=by decide)
  (hcd:(x == ("__classdict__" : Str))=false:=by decide) (hs:swapsWith e (some (.Subscript (.Name x p) b ps)) pos.line X.env=pure false:=by rfl):PM X (.Assign [.Subscript (.Name x p) b ps] e pos) (zr i tb te):=by
 intro pins s σ H Pr ρ post I E h
 refine wpAny_Assign_Subscript (thn (he pins s σ H Pr ρ _ I E h) fun r s1 q=>?_) hs
 obtain⟨v,H1,y,ρ1,I1,rv,E1,q1⟩:=EL.frz (post:=fun y ρ1=>dicV i ρ1 fun _ _=>tb ρ1 fun r ρ2=>toD r fun kd=>lQ kd fun key=>dicV i ρ2 fun a kvs=>kvs.length<sizeLine∧post .nx (ρ2.set i (.dic a (putD kvs key y)))) q
 obtain⟨a,kvs0,q0,q1⟩:=k7 q1
 have hσ:=(E1.tail.dicAt q0).1
 refine thn (dh hN hv hd hcd pins s1 σ H1 (fun v H'=>v=.ref a∧H1=H') I1 ⟨_,hσ,rfl,rfl⟩) fun u2 s2 ⟨z,H2,I2,rx,e1,e2⟩=>?_
 subst e1 e2
 cases rx
 refine thn (hb pins s2 σ H1 _ ρ1 _ I2 E1.tail.wide q1) fun u3 s3 q=>?_
 obtain⟨kv,H3,kd,ρ3,I3,r3,E3,q3⟩:=EL.frz (post:=fun kd ρ2=>lQ kd fun key=>dicV i ρ2 fun a kvs=>kvs.length<sizeLine∧post .nx (ρ2.set i (.dic a (putD kvs key y)))) q
 obtain⟨_,e1,p1⟩:=E3.head_d
 cases e1
 obtain⟨key,rfl,r4,q4⟩:=mT q3 p1 r3
 obtain⟨a',kvs,qd,hlen,q5⟩:=k7 q4
 have E4:REnv X.K Pr H3 (some (kV key)::some v::σ) (.d kd::.d y::ρ3):=REnv.step (τ:=[some v]) (lam:=[.d y]) (w:=[some (kV key)]) (μ:=[.d kd]) E1 rfl E3 rfl
 obtain⟨hσ',vs,hl,r⟩:=E4.tail.tail.dicAt qd
 rw[hσ]at hσ'
 cases hσ'
 obtain⟨_,e2,p2⟩:=E4.tail.head_d
 cases e2
 obtain⟨z,hS,us,rel,dd⟩:=I3.dicOk hl
 have hz:us.length≤sizeLine:=by rw[← rel.length];exact z
 have hk:vs.length=kvs.length:=Paired.length r
 have hl':(putK vs key v).length≤sizeLine:=by have:=pM vs key v;omega
 refine wpAny_setItem_pairs (hsz:=hz) (uT r4) dd fun h' dd' hsb=>?_
 have he':∃q,h'.get? a=some q:=let ⟨q,_,_,hq,_⟩:=dd';⟨q,hq⟩
 exact⟨σ,_,_,I3.write (x:=a) (e:=a) (t':=_) (by rw[hl];exact True.intro) (.inl rfl) (fun b q hb z=>(hsb.2 b hb).trans z) he' (show b9 X.prog X.w _ _ _ (.dK (putK vs key v))from⟨hl',hS,_,rel.put key rv,dd'⟩),E4.tail.tail.updDic qd (r.put p2),q5⟩
def wDct(kvs:List (Key×D)):W L:=fun ρ post=>∀a,post (.dic a kvs) ρ
theorem zv:PL X (.Dict [] [] pos) (wDct []):=by
 intro pins s σ H Pr ρ post I E hq
 have hf:H s.heap.objs.size=none:=I.hok.fresh (Nat.le_refl _)
 have I1:=I.laid (a:=s.heap.objs.size) (o:=.dK []) (h':=s.heap.push {cls:=.type "dict",data:=.dict #[] }) (t':=s.toks) (fun _ _ q=>Heap.get?_push_of_some _ q) (Nat.le_refl _) ⟨Nat.zero_le _,I.past,[],.nil,Heap.DictOf.new s.heap⟩
 exact wpAny_Dict_empty ⟨.ref s.heap.objs.size,_,_,ρ,I1,rfl,E.cons_dic (kvs:=[]) hf .nil,hq _⟩
def flatC:D→Bool
 |.int _=>true
 |.str _=>true
 |.bl _=>true
 |.non=>true
 |_=>false
theorem Rep.flatC{K:PySem.W.Frag}{H H':Hp}{v:V}{d:D}(h:L2.flatC d=true)(r:Rep K H v d):Rep K H' v d:=by
 cases r with
 |int i=>exact .int i
 |str i=>exact .str i
 |bl i=>exact .bl i
 |non=>exact .non
 |_=>cases h
inductive DPs (X:Cx):List (Option Expr)→List Expr→List (Key×D)→Prop where
 |nil:DPs X [] [] []
 |int {k v:Expr} {ks:List (Option Expr)} {vs:List Expr} {i:Int} {d:D} {kvs:List (Key×D)} (hk:PL X k (wC (.int i))) (hv:PL X v (wC d)) (hf:flatC d=true) (t:DPs X ks vs kvs):DPs X (some k::ks) (v::vs) ((.inl i,d)::kvs)
 |str {k v:Expr} {ks:List (Option Expr)} {vs:List Expr} {y:Str} {d:D} {kvs:List (Key×D)} (hk:PL X k (wC (.str y))) (hv:PL X v (wC d)) (hf:flatC d=true) (t:DPs X ks vs kvs):DPs X (some k::ks) (v::vs) ((.inr y,d)::kvs)
theorem DPs.run{pos:Pos}{pins:List (Addr×Obj)}{σ:St}{Pr:Hp}{ρ:Ev}:∀{ks:List (Option Expr)}{vs:List Expr}{kvs:List (Key×D)},DPs X ks vs kvs→∀{H:Hp}{s:Shared}{Q:List (Value×Value)→Shared→Prop},Inv X pins σ H s→REnv X.K Pr H σ ρ →
  (∀(H':Hp)(s':Shared)(us:List (Value×Value))(ps:List (Key×V))(qs:List (Key×Value)),Inv X pins σ H' s'→REnv X.K Pr H' σ ρ→Carries (fm X.prog X.w) us qs→KV ps qs→DR X.K H' ps kvs→Q us s') →
  wpAny (model X.prog X.w) X.A (evalPairs (pairTrees ks vs X.env pos)) Q X.xe s
 |_,_,_,.nil,H,s,Q,I,E,h=>pairTrees_nil_walk (h H s [] [] [] I E True.intro .nil .nil)
 | _,_,_,.int (d:=d) hk hv hf t,H,s,Q,I,E,h=>by
  refine pairTrees_cons_walk (thn (hk pins s σ H Pr ρ (fun r ρ'=>r=.d _∧ρ'=ρ) I E ⟨rfl,rfl⟩) fun u s1 ⟨v,H1,r,ρ',I1,rv,E1,e1,e2⟩=>?_)
  subst e1 e2
  refine thn (hv pins s1 σ H1 Pr _ (fun r ρ'=>r=.d d∧ρ'=_) I1 E1.tail ⟨rfl,rfl⟩) fun u2 s2 ⟨v2,H2,r2,ρ2,I2,rv2,E2,e1,e2⟩=>?_
  subst e1 e2
  obtain⟨_,z1,p1⟩:=E1.head_d
  cases z1
  cases p1
  obtain⟨_,z2,p2⟩:=E2.head_d
  cases z2
  exact DPs.run t I2 E2.tail fun H' s' us ps qs I3 E3 hc hk3 hd=>h H' s' ((u,u2)::us) ((.inl _,v2)::ps) ((.inl _,u2)::qs) I3 E3 ⟨uT rv,rfl,hc⟩ (.cons ⟨rfl,rv2⟩ hk3) (.cons ⟨rfl,p2.flatC hf⟩ hd)
 | _,_,_,.str (d:=d) hk hv hf t,H,s,Q,I,E,h=>by
  refine pairTrees_cons_walk (thn (hk pins s σ H Pr ρ (fun r ρ'=>r=.d _∧ρ'=ρ) I E ⟨rfl,rfl⟩) fun u s1 ⟨v,H1,r,ρ',I1,rv,E1,e1,e2⟩=>?_)
  subst e1 e2
  refine thn (hv pins s1 σ H1 Pr _ (fun r ρ'=>r=.d d∧ρ'=_) I1 E1.tail ⟨rfl,rfl⟩) fun u2 s2 ⟨v2,H2,r2,ρ2,I2,rv2,E2,e1,e2⟩=>?_
  subst e1 e2
  obtain⟨_,z1,p1⟩:=E1.head_d
  cases z1
  cases p1
  obtain⟨_,z2,p2⟩:=E2.head_d
  cases z2
  exact DPs.run t I2 E2.tail fun H' s' us ps qs I3 E3 hc hk3 hd=>h H' s' ((u,u2)::us) ((.inr _,v2)::ps) ((.inr _,u2)::qs) I3 E3 ⟨uT rv,rfl,hc⟩ (.cons ⟨rfl,rv2⟩ hk3) (.cons ⟨rfl,p2.flatC hf⟩ hd)
theorem DPs.len:∀{ks:List (Option Expr)}{vs:List Expr}{kvs:List (Key×D)},DPs X ks vs kvs→ks.all (·.isSome)=true∧ks.length=vs.length∧ks.length=kvs.length
 |_,_,_,.nil=>⟨rfl,rfl,rfl⟩
 | _,_,_,.int _ _ _ t=>by
  obtain⟨h1,h2,h3⟩:=t.len
  simp[h1,h2,← h3]
 | _,_,_,.str _ _ _ t=>by
  obtain⟨h1,h2,h3⟩:=t.len
  simp[h1,h2,← h3]
end
end L2
namespace L2
open PySem PySem.Spec PyProof.Rows PySem.SeqAt
mutual
def uU:Nat→D→Bool
 |_,.non=>true
 |_,.bl _=>true
 |_,.int _=>true
 |_,.str _=>true
 |n+1,.tup xs=>pN n xs
 |n+1,.lst xs=>pN n xs
 |n+1,.dct m=>m == 0
 |_,_=>false
def pN:Nat→List D→Bool
 |_,[]=>true
 |n,x::xs=>uU n x && pN n xs
end
mutual
def sgnD:D→Nat
 |.int _=>602
 |.str x=>10*x.length+2
 |.tup xs=>jt xs+3
 |.lst xs=>jt xs+3
 |_=>6
def jt:List D→Nat
 |[]=>0
 |x::xs=>sgnD x+2+jt xs
end
mutual
theorem uV:∀d:D,(toP d).leavesShort 601=true→(toP d).shown.length≤sgnD d
 |.non,_=>by decide
 |.bl b,_=>by cases b<;>decide
 | .int i,h=>by
  have e:(PyData.shown (.int i)).length≤601:=by simpa only[toP,PyData.leavesShort,decide_eq_true_eq]using h
  exact Nat.le_succ_of_le e
 | .str x,h=>by
  have hx:∀c∈x.cps.toList,c<16^8:=by simpa only[toP,PyData.leavesShort,List.all_eq_true,decide_eq_true_eq]using h
  have e:=PySem.StrLaws.reprText_len x hx
  simp only[toP,PyData.shown,sgnD]
  omega
 | .tup xs,h=>by
  have h1:=pO xs (by simpa only[toP,PyData.leavesShort]using h)
  have h2:=tupleText_len_le (PyData.shownAll (toPs xs))
  have h3:=PyData.shownAll_length (toPs xs)
  simp only[toP,PyData.shown,sgnD]
  omega
 | .lst xs,h=>by
  have h1:=pO xs (by simpa only[toP,PyData.leavesShort]using h)
  have h2:=listText_len_le (PyData.shownAll (toPs xs))
  have h3:=PyData.shownAll_length (toPs xs)
  simp only[toP,PyData.shown,sgnD]
  omega
 |.dct _,_=>by simp only[toP,sgnD];decide
 |.exc _ _ _,_=>by simp only[toP,sgnD];decide
 |.fn _ _,_=>by simp only[toP,sgnD];decide
theorem pO:∀ds:List D,PyData.leavesShortAll 601 (toPs ds)=true→((PyData.shownAll (toPs ds)).map (·.length)).sum+2*(toPs ds).length≤jt ds
 |[],_=>by simp only[toPs,PyData.shownAll,List.map_nil,List.sum_nil,List.length_nil,jt];omega
 | d::ds,h=>by
  have h':(toP d).leavesShort 601=true∧PyData.leavesShortAll 601 (toPs ds)=true:=by simpa only[toPs,PyData.leavesShortAll,Bool.and_eq_true]using h
  have h1:=uV d h'.1
  have h2:=pO ds h'.2
  simp only[toPs,PyData.shownAll,List.map_cons,List.sum_cons,List.length_cons,jt]
  omega
end
structure Cr (d:D):Prop where
 ok:okD 40 d=true
 sh:a0 d=true
 ln:(toP d).shown.length≤sizeLine
theorem qK.l{d:D}(h:qK d):Cr d:=⟨h.ok,h.sh,h.len⟩
end L2
namespace L2
open PySem PySem.Spec PyProof.Rows
end L2
namespace L2
open PySem PySem.Spec PyProof.Rows PySem.W
end L2
namespace L2
open PySem PySem.Spec PyProof.Rows
end L2
namespace L2
open PySem PySem.Spec PyProof.Rows PySem.SeqAt
mutual
def okW:D→Bool
 |.dct n=>n == 0
 |.exc _ _ _=>false
 |.fn _ _=>false
 |.tup xs=>okWs xs
 |.lst xs=>okWs xs
 |.str x=>PyData.strOk x
 |_=>true
def okWs:List D→Bool
 |[]=>true
 |x::xs=>okW x && okWs xs
end
section
variable{X:Cx}{pins:List (Addr×Obj)}{σ:St}{H:Hp}{s:Shared}
theorem Inv.ne_sys(I:Inv X pins σ H s){a:Addr}{u:HO}(h:H a=some u):sysModules≠a:=fun e=>by
 obtain⟨mm,o,es,ep,q,_⟩:=I.mod.sysm
 subst e
 rw[(I.bs _ o q).2]at h
 cases h
theorem Inv.lst_sys(I:Inv X pins σ H s){a:Addr}{xs:List V}(h:SqZ X.K H a xs):sysModules≠a:=by
 rcases h with⟨o,h⟩|⟨o,its,n,h,_,_,hd,_⟩
 ·
  exact I.ne_sys h
 ·
  intro e
  obtain⟨mm,o',es,ep,q,hd',_⟩:=I.mod.sysm
  subst e
  rw[I.mod.kin _ o h]at q
  cases q
  rw[hd]at hd'
  cases hd'
mutual
theorem xS(I:Inv X pins σ H s):∀(d:D)(x:V)(u:Value),RelV x u→Rep X.K H x d→okW d=true→∃as,Reads s.heap u (toP d) as∧sysModules∉as
 |.non,_,_,rv,r,_=>by cases r;cases rv;exact⟨_,.none,List.not_mem_nil⟩
 |.bl b,_,_,rv,r,_=>by cases r;cases rv;exact⟨_,.bool b,List.not_mem_nil⟩
 |.int i,_,_,rv,r,_=>by cases r;obtain⟨t,rfl⟩:=rv;exact⟨_,.int i t,List.not_mem_nil⟩
 |.str z,_,_,rv,r,_=>by cases r;obtain⟨t,rfl⟩:=rv;exact⟨_,.str z t,List.not_mem_nil⟩
 | .tup xs,_,_,rv,r,hc=>by
  cases r with
  | tup h rs =>
   cases rv
   obtain⟨its,vs,⟨o,e,c,n,d⟩,_⟩:=I.tuple h
   obtain⟨as,ra,hn⟩:=pP I xs _ _ vs rs (by simpa only[okW]using hc)
   exact⟨_,.tuple (xs:=toPs xs) e c d (by simpa using ra),hn⟩
 | .lst xs,_,_,rv,r,hc=>by
  cases r with
  | lst h rs =>
   cases rv
   obtain⟨its,vs,⟨o,n,e,c,_,d⟩,_⟩:=I.list h.l
   obtain⟨as,ra,hn⟩:=pP I xs _ _ vs rs (by simpa only[okW]using hc)
   exact⟨_,.list (xs:=toPs xs) e c d (by simpa using ra),fun z=>(List.mem_cons.mp z).elim (I.lst_sys h) hn⟩
 | .dct n,_,_,rv,r,hc=>by
  cases r with
  | dct h =>
   rename_i a o kvs
   cases rv
   have hk:kvs=[]:=by
    have:kvs.length=0:=by simpa only[okW,beq_iff_eq]using hc
    exact List.length_eq_zero_iff.mp this
   subst hk
   obtain⟨_,_,_,vs,kv,o',es,ep,e,ex,d,_,pr,_⟩:=I.hok a _ h
   cases kv
   have he:es.toList=[]:=by
    cases q:es.toList with
    |nil=>rfl
    |cons x xs=>rw[q]at pr;cases pr
   refine⟨_,.dict (kvs:=[]) (as:=[]) (bs:=[]) e ex.1 d (by rw[he];exact .nil) (by rw[he];exact .nil),fun z=>?_⟩
   exact(I.ne_sys h) (by simpa using z)
 |.exc _ _ _,_,_,_,_,hc=>by simp[okW]at hc
 |.fn _ _,_,_,_,_,hc=>by simp[okW]at hc
theorem pP(I:Inv X pins σ H s):∀(ds:List D)(vs:List V)(us:List Value),Vals vs us→Reps X.K H vs ds→okWs ds=true→∃as,ReadsAll s.heap us (toPs ds) as∧sysModules∉as
 |[],_,_,rv,r,_=>by cases r;cases rv;exact⟨_,.nil,List.not_mem_nil⟩
 | d::ds,_,_,rv,r,hc=>by
  have hc':okW d=true∧okWs ds=true:=by simpa[okWs]using hc
  cases r with
  | cons r0 rs =>
   cases rv with
   | cons v0 vs =>
    obtain⟨as,ra,na⟩:=xS I d _ _ v0 r0 hc'.1
    obtain⟨bs,rb,nb⟩:=pP I ds _ _ vs rs hc'.2
    exact⟨_,.cons ra rb,fun z=>(List.mem_append.mp z).elim na nb⟩
end
end
mutual
theorem k8:∀d:D,okW d=true→a0 d=true→(toP d).leavesShort 601=true
 |.non,_,_=>rfl
 |.bl _,_,_=>rfl
 |.dct _,_,_=>rfl
 |.exc _ _ _,h,_=>by simp[okW]at h
 |.fn _ _,h,_=>by simp[okW]at h
 | .int i,_,h=>by
  have:=(g6 (.int i) h).1
  simpa only[toP,PyData.leavesShort,PyData.intsShort]using this
 |.str x,h,hs=>PyData.leavesShort_of_canLay0 601 (.str x) (by simpa only[okW,PyData.canLay0]using h) (g6 (.str x) hs).1
 | .tup xs,h,hs=>by
  have:=ju xs (by simpa only[okW]using h) (by simpa only[a0]using hs)
  simpa only[toP,PyData.leavesShort]using this
 | .lst xs,h,hs=>by
  have:=ju xs (by simpa only[okW]using h) (by simpa only[a0]using hs)
  simpa only[toP,PyData.leavesShort]using this
theorem ju:∀ds:List D,okWs ds=true→bA ds=true→PyData.leavesShortAll 601 (toPs ds)=true
 |[],_,_=>rfl
 | d::ds,h,hs=>by
  simp only[okWs,Bool.and_eq_true]at h
  simp only[bA,Bool.and_eq_true]at hs
  simp only[toPs,PyData.leavesShortAll,k8 d h.1 hs.1,ju ds h.2 hs.2,Bool.and_self]
end
structure StrW (d:D):Prop where
 ok:okW d=true
 sh:a0 d=true
 dp:(toP d).depth≤40
 sg:sgnD d≤16777216
 ni:∀i,d≠.int i
theorem StrW.len{d:D}(h:StrW d):(toP d).shown.length≤sizeLine:=by
 have e:sizeLine=16777216:=by decide
 rw[e]
 exact Nat.le_trans (uV d (k8 d h.ok h.sh)) h.sg
end L2
namespace L2
open PySem PySem.Spec PyProof.Rows
section
def Bu(o:Option L)(i k:Nat)(ρ:Ev)(post:L→Ev→Prop):Prop:=match o with
 |some (.bx none ls)=>∃l,ls[k]?=some l∧post l (ρ.set i (.bx none (ls.set k .un)))
 |some (.d (.tup ds))=>∃d,ds[k]?=some d∧post (.d d) ρ
 |_=>False
theorem wV(ls:List L)(i k:Nat)(ρ:Ev)(post:L→Ev→Prop):Bu (some (.bx none ls)) i k ρ post=∃l,ls[k]?=some l∧post l (ρ.set i (.bx none (ls.set k .un))):=(rfl)
theorem zw(ds:List D)(i k:Nat)(ρ:Ev)(post:L→Ev→Prop):Bu (some (.d (.tup ds))) i k ρ post=∃d,ds[k]?=some d∧post (.d d) ρ:=(rfl)
end
section
def Ct(r:L)(ρ:Ev)(post:L→Ev→Prop):Prop:=match r with
 |.bx (some _) ls=>post (.bx none ls) ρ
 |_=>False
theorem wW(a:Addr)(ls:List L)(ρ:Ev)(post:L→Ev→Prop):Ct (.bx (some a) ls) ρ post=post (.bx none ls) ρ:=(rfl)
end
end L2
namespace L2
open PySem PySem.Spec PyProof.Rows PySem.W
theorem mU{p:Pos}{a b:Int}{c cv:Value}(l:List Value)(h:TriplesOk l)(e:codeAmong p (l++[rawInt a,rawInt b,c])=some cv):codeAmong p l=some cv∨cv=c:=by
 fun_induction TriplesOk l with
 | case1 =>
  simp only[List.nil_append,codeAmong,rawInt]at e
  split at e
  ·
   cases e;exact .inr rfl
  ·
   cases e
 | case2 a' t b' u x rest ih =>
  simp only[List.cons_append,codeAmong]at e ⊢
  split at e
  ·
   rename_i hc;rw[if_pos hc];exact .inl e
  ·
   rename_i hc;rw[if_neg hc];exact ih h e
 |case3 l h1 h2=>exact h.elim
theorem n8{cells:List (Str×Addr)}:∀(names:List (Str×NameKind))(acc:List (Str×Addr)),(names.filter fun p=>p.2 == .free)=[]→clOf cells names acc=acc
 |[],_,_=>rfl
 | (n,k)::r,acc,h=>by
  rw[List.filter_cons]at h
  unfold clOf
  by_cases hk:(k == NameKind.free)=true
  ·
   rw[if_pos hk]at h;cases h
  ·
   rw[if_neg hk]at h
   rw[if_neg hk]
   exact n8 r acc h
theorem qV{cells:List (Str×Addr)}{y:Str}{c:Addr}(hc:cells.lookup y=some c):∀(names:List (Str×NameKind))(acc:List (Str×Addr)),(names.filter fun p=>p.2 == .free)=[(y,.free)]→clOf cells names acc=(y,c)::acc
 |[],_,h=>by cases h
 | (n,k)::r,acc,h=>by
  rw[List.filter_cons]at h
  unfold clOf
  by_cases hk:(k == NameKind.free)=true
  ·
   rw[if_pos hk]at h
   simp only[List.cons.injEq,Prod.mk.injEq]at h
   obtain⟨⟨h1,h2⟩,h3⟩:=h
   subst h1
   rw[if_pos hk,hc]
   exact n8 r _ h3
  ·
   rw[if_neg hk]at h
   rw[if_neg hk]
   exact qV hc r acc h
section
variable{X:Cx}{pins:List (Addr×Obj)}{σ:St}{H:Hp}{s:Shared}
theorem wX{x:Str}{c0 P c:Addr}{y:Str}{pr:Arguments}{bd:Expr}{sc:Scope}{pos:Pos}{Q:Value→Shared→Prop}{E:Value→Shared→Prop}{A:Around}
  (I:Inv X pins σ H s) (hx:x∈lamNames) (ht:tabIn X.K x=some (c0,P)) (hcode:X.env.code=.ref c0) (hq:X.env.qual++"<lambda>"=lamQ x) (hcl:closureFor sc X.env=pure [(y,c)]) (hdef:defaultsOf pr X.env=([],[]))
  (h:∀(f c':Addr)(oq:Obj)(H':Hp)(s':Shared)(ctv pm:Value),Inv X pins σ H' s'→(∀ b o,H b=some o→H' b=some o)→s'.heap.get? f=some (kla_obj "<lambda>" (lamQ x) pr bd sc [(y,c)] pm c' ctv)→H' f=none→s.heap.objs.size≤f →
   H' c'=some (.frz oq (.own c'))→hU oq (lamQ x)→Q (.ref f) s'):wpAny (model X.prog X.w) A (eval (.Lambda pr bd sc pos) X.env) Q E s:=by
 have hP:=I.tbs x hx c0 P ht
 obtain⟨ps,eP,tr,among⟩:=id (I.hok P _ hP)
 have C:CodeHd s.heap c0 P:=(I.ok.mod.cds x hx c0 P ht).keeps I.bk
 have hg:s.heap.Ns mainGlobals X.mg:=I.ok.mod.glob.keeps I.bk
 obtain⟨bm,ob,b1,b2,b3,b4,b5,b6⟩:=I.ok.mod.bmn
 have hbk:=I.bk bm ob b3
 have hgP:mainGlobals≠P:=fun z=>by
  obtain⟨o,es,ep,e,hd,_⟩:=hg
  rw[z,eP]at e;cases e;cases hd
 have hbP:bm≠P:=fun z=>by
  rw[z,eP]at hbk;cases hbk;cases b4
 have hbG:bm≠mainGlobals:=fun z=>by
  obtain⟨o,es,ep,e,hd,_⟩:=hg
  rw[z,e]at hbk;cases hbk;rw[hd]at b6;cases b6
 refine kla_eval hdef ?_
 rw[hq]
 cases q:codeAmong pos ps.toList with
 | none =>
  refine kla_makeFunction (mg:=X.mg) hcl I.ok.glob hg hcode C eP tr q hgP ⟨bm,ob,b1,b2,hbG,hbP,hbk,b4,b5,b6⟩ fun c' ctv h' tk hx' hge hlt hrec htb=>?_
  obtain⟨c2,oq,vs,t,e2,hoc,hd,hv⟩:=hrec
  cases e2
  have hn:H c'=none:=I.hok.fresh hge
  have nP:∀b,H b=none→b≠P:=fun b n z=>by rw[z,hP]at n;cases n
  have old:∀ b o,b≠P→s.heap.get? b=some o→(h'.push (kla_obj "<lambda>" (lamQ x) pr bd sc [(y,c)] ((X.mg "__name__").getD .none) c' ctv)).get? b=some o:=fun b o nb e=>Heap.get?_push_of_some _ (hx' b o nb e)
  have up:∀b u,H b=some u→upd H c' (.frz oq (.own c')) b=some u:=fun b u e=>by rw[aj (aL e hn)];exact e
  have co:hU oq (lamQ x):=⟨vs,t,hd,hv⟩
  have J:Inv X pins σ (upd H c' (.frz oq (.own c'))) {s with heap:=h'.push (kla_obj "<lambda>" (lamQ x) pr bd sc [(y,c)] ((X.mg "__name__").getD .none) c' ctv),toks:=tk}:=by
   refine I.un ⟨fun b o e n _ _=>old b o (nP b n) e,fun b o e n _ _=>⟨o.slots,old b o (nP b n) e⟩,fun b o e n _=>?_,fun b o e _=>?_,fun b xs e=>up b _ e,fun b o u e=>up b _ e,fun b t e=>up b _ e⟩ fun b u e=>?_
   ·
    rw[aj (Nat.ne_of_lt (Nat.lt_of_lt_of_le (Heap.lt_size e) hge))];exact n
   ·
    by_cases z:b=P
    ·
     subst z;exact⟨_,Heap.get?_push_of_some _ htb⟩
    ·
     exact⟨o,old b o z e⟩
   ·
    by_cases z:b=c'
    ·
     subst z
     rw[aC]at e;cases e
     exact⟨Heap.get?_push_of_some _ hoc,⟨_,Heap.get?_push_of_some _ hoc⟩⟩
    ·
     rw[aj z]at e
     by_cases zP:b=P
     ·
      subst zP
      rw[hP]at e;cases e
      refine⟨_,Heap.get?_push_of_some _ htb,?_,fun pos' cv hc'=>?_⟩
      ·
       rw[Array.toList_append];exact TriplesOk_snoc _ _ _ _ tr
      ·
       rw[Array.toList_append]at hc'
       rcases mU _ tr hc' with z1|z1
       ·
        obtain⟨c3,o3,a1,a2,a3⟩:=among pos' cv z1
        exact⟨c3,o3,a1,up _ _ a2,a3⟩
       ·
        exact⟨c',oq,z1,aC,co⟩
     ·
      refine(I.hok b u e).stay (fun d v hd z2=>old d v ?_ z2) (fun d z2=>up d _ z2) (fun d xs z2=>up d _ z2) fun d od _ _ z2=>up d _ z2
      rcases hd with rfl|hd
      ·
       exact zP
      ·
       intro z3;rw[z3,hP]at hd;cases hd
  exact h _ c' oq _ _ ctv _ J up (Heap.get?_push_size _ rfl) (by rw[aj (Nat.ne_of_gt hlt)];exact I.hok.fresh (Nat.le_trans hge (Nat.le_of_lt hlt))) (Nat.le_trans hge (Nat.le_of_lt hlt)) aC co
 | some cv =>
  obtain⟨c',oq,rfl,hz,co⟩:=among pos cv q
  refine kla_makeFunctionHit (mg:=X.mg) hcl I.ok.glob hg hcode C eP tr q ⟨bm,ob,b1,b2,hbG,hbP,hbk,b4,b5,b6⟩ fun ctv h' tk hk hsz=>?_
  exact h _ c' oq H _ ctv _ (I.kept fun b o e=>Heap.get?_push_of_some _ (hk b o e)) (fun _ _ e=>e) (Heap.get?_push_size _ rfl) (I.hok.fresh hsz) hsz hz co
end
def Bv(K:Frag)(H:Hp)(h:Heap)(f:Addr)(x:Str)(d:D):Prop:=∃(c c':Addr)(oc oq:Obj)(y:Str)(pr:Arguments)(bd:Expr)(sc:Scope)(pos:Pos)(pm ctv u:Value)(v:V),
 rQ K x=some (pr,bd,sc,pos)∧h.get? f=some (kla_obj "<lambda>" (lamQ x) pr bd sc [(y,c)] pm c' ctv)∧h.get? c'=some oq∧hU oq (lamQ x)∧h.get? c=some oc∧(H c=none∨∃ o,H c=some (.frz o (.own c)))∧oc.data=.cell (some u)∧RelV v u∧(y,NameKind.free)∈sc.names∧Rep K H v d
theorem Rep.lamAt{K:Frag}{H:Hp}{P:Program}{w:World}{h:Heap}{f:Addr}{x:Str}{d:D}(r:Rep K H (.ref f) (.fn x d))(ok:HOk P w H h):Bv K H h f x d:=by
 cases r with
 | fn hl hf hq hc hz hd hv hm r =>
  exact⟨_,_,_,_,_,_,_,_,_,_,_,_,_,hl,(ok _ _ hf).1,(ok _ _ hq).1,hc,(ok _ _ hz).1,.inr ⟨_,hz⟩,hd,hv,hm,r⟩
def zx(P:Program)(w:World)(K:Frag)(mg:Str→Option Value)(base:Heap)(p y:Str)(qual:Str)(sc:Scope)(f c':Addr)(cl:List (Str×Addr))(A:Around)(outer:List Env)(s:Shared)(H:Hp):Cx where
 prog:=P
 w:=w
 K:=K
 mg:=mg
 base:=base
 A:=A.deeper (envX qual sc s.heap.objs.size f (.ref c') cl)
 N:=[p,y]
 s₀:=s
 H₀:=H
 env:=envX qual sc s.heap.objs.size f (.ref c') cl
 outer:=outer
 stack:=envX qual sc s.heap.objs.size f (.ref c') cl::outer
 ex:=[]
 calm:=true
 fn:=fun _=>false
 pn:=[]
 xe:=fun _ _=>False
structure zy (p y:Str) (pr:Arguments) (bd:Expr) (sc:Scope):Prop where
 par:sc.names.lookup p=some .local
 fre:sc.names.lookup y=some .free
 nc:∀z∈sc.names,z.2≠.cell
 one:∀z,(z,NameKind.free)∈sc.names→z=y
 co:sc.isCoroutine=false
 gen:sc.isGenerator=false
 kind:sc.kind=.function
 bind:∀(q:Str)(cl:List (Str×Addr))(pm cdv ct u:Value),bindArgs (kla_fn "<lambda>" q pr bd sc cl pm cdv ct) ⟨[u],[]⟩=pure [(p,u)]
def isDk(r:L)(k:D→Prop):Prop:=match r with
 |.d z=>k z
 |_=>False
theorem zz{r:L}{k:D→Prop}(h:isDk r k):∃z,r=.d z∧k z:=by
 cases r with
 |d z=>exact⟨z,rfl,h⟩
 |_=>exact h.elim
structure wY (P:Program) (w:World) (K:Frag) (mg:Str→Option Value) (base:Heap) (k:Nat) (x:Str) (fs:FS):Prop where
 run:∀(A:Around)(outer:List Env)(s:Shared)(H:Hp)(f:Addr)(u:Value)(v:V)(a d:D)(post:D→Prop),Room k A→Env0 P w K mg base A outer s H→RelV v u→Rep K H v a→Bv K H s.heap f x d→fs [.d a,.d d] (fun r _=>isDk r post) →
  codeAny (model P w) A (.call (.ref f) ⟨[u],[]⟩) (CR CX0 outer P w H s (fun v H'=>(∀b o,H b=some o→H' b=some o)∧∃z,Rep K H' v z∧post z) E0) s
theorem zA{P:Program}{w:World}{K:Frag}{mg:Str→Option Value}{base:Heap}{p y:Str}{qual:Str}{pr:Arguments}{bd:Expr}{sc:Scope}{f c c':Addr}{A:Around}{outer:List Env}{s:Shared}{H:Hp}{h1:Heap}{tk:Nat}{u u':Value}{v v':V}{oc:Obj}
  (S:zy p y pr bd sc) (hd:A.handled=none) (e0:Env0 P w K mg base A outer s H) (r:RelV v u) (r':RelV v' u') (gc:s.heap.get? c=some oc) (dc:oc.data=.cell (some u')) (hc:H c=none∨∃o,H c=some (.frz o (.own c)))
  (hns:h1.Ns s.heap.objs.size fun z=>[(p,u)].reverse.lookup z) (k:∀b o,s.heap.get? b=some o→h1.get? b=some o) :
  Inv (zx P w K mg base p y qual sc f c' [(y,c)] A outer s H) [] [some v,some v'] H {s with heap:=h1,toks:=tk}:=by
 have hpy:p≠y:=fun z=>by have:=S.par;rw[z,S.fre]at this;cases this
 have one:∀z d,([(y,c)]:List (Str×Addr)).lookup z=some d→z=y∧d=c:=fun z d e=>by
  rw[List.lookup_cons]at e
  cases q:z == y with
  |true=>rw[q]at e;cases e;exact⟨eq_of_beq q,rfl⟩
  |false=>rw[q]at e;cases e
 have at_y:([(y,c)]:List (Str×Addr)).lookup y=some c:=by rw[List.lookup_cons,beq_self_eq_true]
 have noA:∀b:Addr,b∉(zx P w K mg base p y qual sc f c' [(y,c)] A outer s H).ex:=fun b z=>absurd (show b∈([]:List Addr)from z) (by simp)
 refine⟨⟨e0.mod,S.kind,rfl,rfl,Nat.le_refl _,fun a b d h1 h2=>?_,fun z hz=>?_,fun z d hf _=>absurd (show false=true from hf) (by decide),fun _=>hd,Around.frames_deeper e0.frames,.inr ⟨rfl,rfl⟩,fun b z=>absurd z (noA b),e0.bs,e0.bsz,fun b _ _=>noA b,fun b z=>absurd z (noA b),e0.funs,e0.frf,e0.tbs⟩,
  rfl,e0.bare,Un.kept k,⟨_,hns,fun i z v2 h1 h2 h3=>?_⟩,fun z d h=>?_,e0.hok.fresh (Nat.le_refl _),fun z d h=>?_,fun q hq=>absurd (show q∈([]:List (Addr×Obj))from hq) (by simp),e0.hok.kept k,rfl⟩
 ·
  exact(one a d h1).1.trans (one b d h2).1.symm
 ·
  have hz:sc.names.lookup z=some .cell∨sc.names.lookup z=some .free:=hz
  rcases hz with hz|hz
  ·
   exact absurd rfl (S.nc _ (PySem.mem_of_lookup hz))
  ·
   rw[S.one z (PySem.mem_of_lookup hz)];exact⟨c,at_y⟩
 ·
  match i,h1,h2 with
  | 0,h1,h2 =>
   have e1:p=z:=Option.some.inj h1
   have e2:v=v2:=by simpa using h2
   subst e1 e2
   exact⟨u,r,.inl ⟨S.par,by simp⟩⟩
  | 1,h1,h2 =>
   have e1:y=z:=Option.some.inj h1
   have e2:v'=v2:=by simpa using h2
   subst e1 e2
   exact⟨u',r',.inr ⟨.inr S.fre,c,at_y,oc,k c oc gc,dc⟩⟩
  |n+2,h1,h2=>simp at h2
 ·
  obtain⟨_,rfl⟩:=one z d h
  exact⟨_,oc,k d oc gc,dc⟩
 ·
  obtain⟨_,rfl⟩:=one z d h
  exact hc.imp id fun z=>⟨rfl,z⟩
theorem Bw{P:Program}{w:World}{K:Frag}{mg:Str→Option Value}{base:Heap}{k:Nat}{x p y:Str}{pr:Arguments}{bd:Expr}{sc:Scope}{pos:Pos}{fs:FS}(hl:rQ K x=some (pr,bd,sc,pos))(S:zy p y pr bd sc)(t:W L)
  (hbody:∀(A:Around)(outer:List Env)(s:Shared)(H:Hp)(f c c':Addr),Room k (A.deeper (envX (lamQ x) sc s.heap.objs.size f (.ref c') [(y,c)]))→PL (zx P w K mg base p y (lamQ x) sc f c' [(y,c)] A outer s H) bd t)
  (h:∀a d post,fs [.d a,.d d] post→t [.d a,.d d] fun r _=>post r []):wY P w K mg base (k+1) x fs:=by
 refine⟨fun A outer s H f u v a d post hr e0 rv ra la hf=>?_⟩
 obtain⟨c,c',oc,oq,y',pr',bd',sc',pos',pm,ctv,u',v',hl',gf,gq,hq,gc,hc,dc,rv',hm,rd⟩:=la
 rw[hl]at hl';cases hl'
 obtain rfl:=S.one y' hm
 obtain⟨vs,tq,hd1,hd2⟩:=hq
 have lim:s.heap.NoLimit:=e0.mod.nolimit.keeps fun b o e=>(e0.bs b o e).1
 refine kla_callFunE hr.depth gf rfl S.co S.gen rfl ⟨c',oq,vs,tq,rfl,gq,hd1,hd2⟩ ?_
 rw[S.bind]
 refine wpAny_pure (wpAny_newFunctionEnv S.nc (fun z hz=>by
  have:z=(p,u):=by simpa using hz
  subst this;exact S.par) (fun h₁ hns hsb=>⟨lim.fresh _ hsb,?_⟩) S.kind)
 have hk₁:∀b o,s.heap.get? b=some o→h₁.get? b=some o:=fun b o e=>hsb.extBut b o (Nat.ne_of_lt (Heap.lt_size e)) (Heap.get?_push_of_some _ e)
 show codeAny _ _ (.expr bd (envX (lamQ x) sc s.heap.objs.size f (.ref c') [(y',c)])) _ _
 have I:=zA (P:=P) (w:=w) (K:=K) (mg:=mg) (base:=base) (qual:=lamQ x) (f:=f) (c':=c') (tk:=s.toks+[(p,u)].length) S hr.hd e0 rv rv' gc dc hc hns hk₁
 have E:REnv K H H [some v,some v'] [.d a,.d d]:=⟨fun _ _ e=>e,List.nodup_nil,fun a ha=>absurd (show a∈([]:List Addr)from ha) (by simp),.cons ⟨v,rfl,ra⟩ (.cons ⟨v',rfl,rd⟩ .nil)⟩
 refine kla_codeExpr (wpAny_mono (hbody A outer s H f c c' (hr.deeper _) [] _ _ H H _ (fun r _=>isDk r post) I E (h a d _ hf)) (fun v2 s' hs=>?_) fun e s' hs=>(show False from hs).elim)
 obtain⟨v3,H',r,ρ',J,rv3,E',q⟩:=hs
 obtain⟨z,rfl,hp⟩:=zz q
 obtain⟨w3,e3,rz⟩:=E'.head_d
 cases e3
 exact⟨v3,H',J.os,J.bare,J.base,J.hok,rv3,E'.sub,z,rz,hp⟩
def datV(i:Nat)(ρ:Ev)(k:D→Prop):Prop:=match ρ[i]? with
 |some (.d x)=>k x
 |_=>False
theorem uW{i:Nat}{ρ:Ev}{k:D→Prop}(h:datV i ρ k):∃x,ρ[i]?=some (.d x)∧k x:=by
 unfold datV at h
 split at h
 ·
  rename_i x q;exact⟨x,q,h⟩
 ·
  exact h.elim
def fnV(x:Str)(d:D)(k:D→Prop):Prop:=match d with
 |.fn z d=>z=x∧k d
 |_=>False
theorem Bx{x:Str}{d:D}{k:D→Prop}(h:fnV x d k):∃e,d=.fn x e∧k e:=by
 cases d with
 |fn z e=>obtain⟨rfl,h⟩:=h;exact⟨e,rfl,h⟩
 |_=>exact h.elim
def k9(fs:FS)(x:Str)(i:Nat)(t:W L):W L:=fun ρ post=>datV i ρ fun g=>fnV x g fun d=>t ρ fun r ρ1=>toD r fun a=>fs [.d a,.d d] fun r _=>isDk r fun z=>post (.d z) ρ1
section
variable{X:Cx}{k:Nat}{x n:Str}{fs:FS}{p pos:Pos}{e:Expr}{t:W L}
theorem uX(L:wY X.prog X.w X.K X.mg X.base k x fs)(hr:Room k X.A)(i:Nat)(ha:PL X e t)(hN:X.N[i]?=some n:=by rfl)(hv:Vis X.env.scope n:=by first | exact Or.inl rfl | exact Or.inr (Or.inl rfl) | exact Or.inr (Or.inr rfl)) (hd:(n == ("__debug__" : Str))=false:=by decide)
  (hcd:(n == ("__classdict__" : Str))=false:=by decide) (hs:starEach [e] X.env=(false,eval e X.env)::starEach [] X.env:=by rfl) :
  PL X (.Call (.Name n p) [e] [] pos) (k9 fs x i t):=by
 intro pins s σ H Pr ρ post I E0 h
 obtain⟨g,qi,h⟩:=uW h
 obtain⟨d,eg,hh⟩:=Bx h
 clear h
 subst eg
 obtain⟨sv,hsl,w,rfl,rw⟩:=E0.slot qi
 obtain⟨f,rfl⟩:∃f,w=.ref f:=by cases rw;exact⟨_,rfl⟩
 refine wpAny_Call_Name_kw (thn (dh hN hv hd hcd pins s σ H (fun w H'=>w=.ref f∧H'=H) I ⟨.ref f,hsl,rfl,rfl⟩) fun u s1 ⟨w,H1,I1,r1,e1,e2⟩=>?_)
 subst e1 e2
 cases r1
 have E1:=E0.cons_d rw
 have fnAt:∀{H':Hp}{s':Shared},Inv X pins σ H' s'→Rep X.K H' (.ref f) (.fn x d)→FnAt f s'.heap:=fun I' r'=>by
  obtain⟨_,_,_,_,_,_,_,_,_,_,_,_,_,_,gf,_⟩:=r'.lamAt I'.hok
  exact⟨_,_,_,_,gf⟩
 refine callWith_F (fnAt I1 rw) ?_ hs rfl
 rw[hs]
 show wpAny _ _ (spliced ((false,eval e X.env)::backTo pos (starEach [] X.env))) _ _ s1
 refine Calls.spliced_cons (thn (ha pins s1 σ _ _ ρ (fun r ρ1=>toD r fun a=>fs [.d a,.d d] fun r _=>isDk r fun z=>post (.d z) ρ1) I1 E1.tail.wide hh) fun u s2 hq=>?_)
 obtain⟨v,H2,a,ρ2,I2,rv,E2,q2⟩:=EL.frz (post:=fun a ρ1=>fs [.d a,.d d] fun r _=>isDk r fun z=>post (.d z) ρ1) hq
 have E3:REnv X.K Pr H2 ([some v]++(some (.ref f)::σ)) ([.d a]++(.d (.fn x d)::ρ2)):=REnv.step (τ:=[some (.ref f)]) (lam:=[.d (.fn x d)]) (w:=[some v]) (μ:=[.d a]) E1 rfl E2 rfl
 obtain⟨_,e5,ra⟩:=REnv.head_d (v:=some v) (x:=a) E3
 cases e5
 have E4:REnv X.K Pr H2 (some (.ref f)::σ) (.d (.fn x d)::ρ2):=REnv.tail (v:=some v) (l:=.d a) E3
 obtain⟨_,e6,rf⟩:=E4.head_d
 cases e6
 refine Calls.spliced_nil ⟨fnAt I2 rf,?_⟩
 refine wpAny_call (codeAny_mono (L.run X.A X.stack s2 H2 f u v a d (fun z=>post (.d z) ρ2) hr I2.env0 rv ra (rf.lamAt I2.hok) q2) fun res s' hq=>?_)
 cases res with
 |error e=>exact(show False from hq).elim
 | ok fl =>
  cases fl with
  | ret u2 =>
   obtain⟨v3,H3,I3,rv3,ext,z,rz,pz⟩:=I2.after hq
   exact⟨v3,H3,.d z,ρ2,I3,rv3,(E4.tail.exten ext).cons_d rz,pz⟩
  |next=>exact False.elim hq
  |brk=>exact False.elim hq
  |cont=>exact False.elim hq
end
theorem Un.one{P:Program}{w:World}{fs:List Addr}{H H':Hp}{h h':Heap}{c:Addr}{oc:Obj}(hc:H c=none)(gc:h.get? c=some oc)(cc:∀q,¬hU oc q)(u:Un fs [] (upd H c (.frz oc (.own c))) H' h h')(ok:HOk P w H' h') :
  Un fs [] H (del H' c) h h'∧HOk P w (del H' c) h':=by
 have zc:H' c=some (.frz oc (.own c)):=u.frzs c oc _ aC
 have gc':h'.get? c=some oc:=(ok c _ zc).1
 have nz:∀b o,H' b=some o→o≠.frz oc (.own c)→b≠c:=fun b o e n z=>by subst z;rw[zc]at e;cases e;exact n rfl
 refine⟨⟨fun b o e n hb hx=>?_,fun b o e n hb hx=>?_,fun b o e n hx=>?_,fun b o e hx=>u.there b o e hx,fun b xs e=>?_,fun b o v e=>?_,fun b t e=>?_⟩,fun b o e=>?_⟩
 ·
  by_cases z:b=c
  ·
   subst z;rw[gc]at e;cases e;exact gc'
  ·
   exact u.keep b o e (by rw[aj z];exact n) hb hx
 ·
  by_cases z:b=c
  ·
   subst z;rw[gc]at e;cases e;exact⟨oc.slots,gc'⟩
  ·
   exact u.slot b o e (by rw[aj z];exact n) hb hx
 ·
  by_cases z:b=c
  ·
   subst z;exact iU
  ·
   rw[b7 z];exact u.free b o e (by rw[aj z];exact n) hx
 ·
  have z:=aL e hc
  rw[b7 z];exact u.tups b xs (by rw[aj z];exact e)
 ·
  have z:=aL e hc
  rw[b7 z];exact u.frzs b o v (by rw[aj z];exact e)
 ·
  have z:=aL e hc
  rw[b7 z];exact u.tbls b t (by rw[aj z];exact e)
 ·
  have hb:b≠c:=fun z=>by subst z;rw[iU]at e;cases e
  rw[b7 hb]at e
  refine(ok b o e).stay (fun _ _ _ z=>z) (fun d z=>?_) (fun d xs z=>?_) fun d od q co z=>?_
  ·
   rw[b7 (nz d _ z fun y=>nomatch y)];exact z
  ·
   rw[b7 (nz d _ z fun y=>nomatch y)];exact z
  ·
   rw[b7 (nz d _ z fun y=>by cases y;exact cc q co)];exact z
mutual
theorem Rep.lite{K:Frag}{H H':Hp}(k:∀b xs,H b=some (.tup xs)→H' b=some (.tup xs))(k2:∀b o xs,H b=some (.frz o (.tup xs))→H' b=some (.frz o (.tup xs))):∀{v:V}{d:D},noL d=true→Rep K H v d→Rep K H' v d
 |_,_,_,.non=>.non
 |_,_,_,.bl b=>.bl b
 |_,_,_,.int i=>.int i
 |_,_,_,.str x=>.str x
 | _,_,h,.tup hs r=>.tup (by
   rcases hs with(e|⟨o,e⟩)|e
   ·
    exact .inl (.inl (k _ _ e))
   ·
    exact .inl (.inr ⟨o,k2 _ _ _ e⟩)
   ·
    exact .inr e) (Reps.lite k k2 (by simpa[noL]using h) r)
 |_,_,h,.lst _ _=>by simp[noL]at h
 |_,_,h,.dct _=>by simp[noL]at h
 |_,_,h,.exc _ _ _ _ _ _ _ _=>by simp[noL]at h
 |_,_,h,.fn _ _ _ _ _ _ _ _ _=>by simp[noL]at h
theorem Reps.lite{K:Frag}{H H':Hp}(k:∀b xs,H b=some (.tup xs)→H' b=some (.tup xs))(k2:∀b o xs,H b=some (.frz o (.tup xs))→H' b=some (.frz o (.tup xs))):∀{vs:List V}{ds:List D},noLs ds=true→Reps K H vs ds→Reps K H' vs ds
 |_,_,_,.nil=>.nil
 | _,_,h,.cons r t=>by
  simp only[noLs,Bool.and_eq_true]at h
  exact .cons (Rep.lite k k2 h.1 r) (Reps.lite k k2 h.2 t)
end
structure zB (X:Cx) (x y:Str) (i:Nat) (pr:Arguments) (bd:Expr) (sc:Scope) (pos:Pos):Prop where
 mem:x∈lamNames
 tab:∃c0 P,tabIn X.K x=some (c0,P)∧X.env.code=.ref c0
 lam:rQ X.K x=some (pr,bd,sc,pos)
 qual:X.env.qual++"<lambda>"=lamQ x
 deft:defaultsOf pr X.env=([],[])
 fre:(sc.names.filter fun p=>p.2 == .free)=[(y,.free)]
 at_i:X.N[i]?=some y
 cel:X.env.scope.names.lookup y=some .cell
 fn:X.fn y=true
def mV(fs:FSX)(xp:Xc→Prop)(x:Str)(i:Nat)(t:W L):W L:=fun ρ post=>t ρ fun r ρ1=>toD r fun a=>datV i ρ1 fun d=>fs [a,.fn x d] (fun r=>r=.d .non∧post (.d .non) ρ1) (fun z=>noLs z.ds=true∧xp z)
section
variable{X:Cx}{k n:Nat}{f:Addr}{fd:FuncData}{ps:List Str}{fs:FSX}{g x y:Str}{p cpos pos:Pos}{e:Expr}{t:W L}{xp:Xc→Prop}{pr:Arguments}{bd:Expr}{sc:Scope}
theorem uY(F:FnOk X.prog X.w X.K X.mg X.base (CXr X.prog X.w) k f fd ps (spX X.K 2 fs))(hr:Room k X.A)(hg:Gl X g)(hm:X.mg g=some (.ref f))(hk:PySem.W.keepIn X.K (.ref f)=true)(hb:iE X.K fd ps [])(hx:XOK X xp)
  (i:Nat) (LI:zB X x y i pr bd sc pos) (ha:PL X e t) (hdb:(g == ("__debug__" : Str))=false:=by decide) (he:starEach [e,.Lambda pr bd sc pos] X.env=(false,eval e X.env)::starEach [.Lambda pr bd sc pos] X.env:=by rfl)
  (he2:starEach [.Lambda pr bd sc pos] X.env=(false,eval (.Lambda pr bd sc pos) X.env)::starEach [] X.env:=by rfl) :
  PL X (.Call (.Name g p) [e,.Lambda pr bd sc pos] [] cpos) (mV fs xp x i t):=by
 intro pins s σ H Pr ρ post I E0 h
 obtain⟨c0,P,tab,code⟩:=LI.tab
 refine wpAny_Call_Name_kw (eF I hg hm ?_ hdb)
 refine PySem.W.callWith_K (h₀:=X.base) I.ok.mod.kin hk ?_ he (by rw[he2];rfl)
 rw[he]
 show wpAny _ _ (spliced ((false,eval e X.env)::backTo cpos (starEach [.Lambda pr bd sc pos] X.env))) _ _ s
 refine Calls.spliced_cons (thn (ha pins s σ H Pr ρ (fun r ρ1=>toD r fun a=>datV i ρ1 fun d=>fs [a,.fn x d] (fun r=>r=.d .non∧post (.d .non) ρ1) (fun z=>noLs z.ds=true∧xp z)) I E0 h) fun u1 s1 hq=>?_)
 obtain⟨v1,H1,a,ρ1,I1,rv1,E1,q1⟩:=EL.frz (post:=fun a ρ1=>datV i ρ1 fun d=>fs [a,.fn x d] (fun r=>r=.d .non∧post (.d .non) ρ1) (fun z=>noLs z.ds=true∧xp z)) hq
 obtain⟨d,qi,q1⟩:=uW q1
 rw[he2]
 show wpAny _ _ (spliced ((false,eval (.Lambda pr bd sc pos) X.env)::backTo cpos (starEach [] X.env))) _ _ s1
 obtain⟨c,hcl⟩:=I1.ok.has y (.inl LI.cel)
 have fr:∀z,(z,NameKind.free)∈sc.names→z=y:=fun z hz=>by
  have:(z,NameKind.free)∈sc.names.filter fun p=>p.2 == .free:=List.mem_filter.mpr ⟨hz,rfl⟩
  rw[LI.fre]at this
  simpa using this
 have hm':(y,NameKind.free)∈sc.names:=by
  have:(y,NameKind.free)∈sc.names.filter fun p=>p.2 == .free:=by rw[LI.fre];simp
  exact(List.mem_filter.mp this).1
 have hclo:closureFor sc X.env=pure [(y,c)]:=by
  rw[iQ fun z hz hf=>by
   obtain⟨z1,z2⟩:=z
   cases hf
   rw[fr z1 hz];exact⟨c,hcl⟩,qV hcl _ _ LI.fre]
 refine Calls.spliced_cons (wX I1 LI.mem tab code LI.qual hclo LI.deft fun fa c' oq H2 s2 ctv pm I2 ext gf nf zf zq co=>?_)
 refine Calls.spliced_nil ⟨I2.kIn,?_⟩
 have E2:=E1.exten ext
 obtain⟨_,e1,ra⟩:=E2.head_d
 cases e1
 have E3:=E2.tail
 obtain⟨sv,hsl,v',rfl,rd⟩:=E3.slot qi
 obtain⟨m,_,hl⟩:=I2.loc
 obtain⟨u',rv',lk⟩:=hl i y v' LI.at_i hsl (.inr (.inl LI.cel))
 obtain⟨oc,gc,dc⟩:s2.heap.IsCell c (some u'):=by
  rcases lk with⟨z,_⟩|⟨_,c2,e2,z⟩
  ·
   rw[show X.env.kindOf y=some .cell from LI.cel]at z;cases z
  ·
   rw[hcl]at e2;cases e2;exact z
 have nc:H2 c=none:=(I2.freeC y c hcl).resolve_right fun z=>by rw[LI.fn]at z;exact absurd z.1 (by decide)
 have hfc:fa≠c:=fun z=>by rw[z,gc]at gf;cases gf;cases dc
 have e0:=I2.hide
 have nfh:hidH H2 fa=none:=dN nf
 have nch:hidH H2 c=none:=dN nc
 have nco:∀q,¬hU oc q:=fun q ⟨vs,t,z,_⟩=>by rw[dc]at z;cases z
 have nfo:∀ q,¬ hU (kla_obj "<lambda>" (lamQ x) pr bd sc [(y,c)] pm c' ctv) q:=fun q ⟨vs,t,z,_⟩=>by cases z
 generalize hfo:kla_obj "<lambda>" (lamQ x) pr bd sc [(y,c)] pm c' ctv=fo at gf nfo
 have n1:upd (hidH H2) fa (.frz fo (.own fa)) c=none:=by rw[aj (Ne.symm hfc)];exact nch
 have ext2:∀b o,hidH H2 b=some o→upd (upd (hidH H2) fa (.frz fo (.own fa))) c (.frz oc (.own c)) b=some o:=fun b o z=>by
  have z1:upd (hidH H2) fa (.frz fo (.own fa)) b=some o:=by rw[aj (aL z nfh)];exact z
  rw[aj (aL z1 n1)];exact z1
 have s0c:X.s₀.heap.objs.size≤c:=I2.ok.cab y c LI.fn hcl
 have s0f:X.s₀.heap.objs.size≤fa:=Nat.le_trans I1.sz zf
 have none2:∀b,hidH H2 b=none→b≠fa→b≠c→upd (upd (hidH H2) fa (.frz fo (.own fa))) c (.frz oc (.own c)) b=none:=fun b z h1 h2=>by rw[aj h2,aj h1];exact z
 have E0c:Env0 X.prog X.w X.K X.mg X.base X.A X.stack s2 (upd (upd (hidH H2) fa (.frz fo (.own fa))) c (.frz oc (.own c))):=by
  refine⟨e0.frames,e0.mod,fun b o z=>⟨(e0.bs b o z).1,none2 b (e0.bs b o z).2 ?_ ?_⟩,e0.bsz,e0.funs,fun b hb=>none2 b (e0.frf b hb) ?_ ?_,fun b o z=>?_,e0.bare,fun z hz c1 P1 q=>ext2 _ _ (e0.tbs z hz c1 P1 q)⟩
  ·
   exact Nat.ne_of_lt (Nat.lt_of_lt_of_le (Heap.lt_size (I2.ok.bs b o z).1) s0f)
  ·
   exact Nat.ne_of_lt (Nat.lt_of_lt_of_le (Heap.lt_size (I2.ok.bs b o z).1) s0c)
  ·
   rcases List.mem_cons.mp (I2.stkSub b hb)with z|z
   ·
    rw[z];exact Nat.ne_of_lt (Nat.lt_of_lt_of_le I1.lt zf)
   ·
    obtain⟨_,o,ho,_⟩:=I2.ok.funs.mem z
    exact Nat.ne_of_lt (Nat.lt_of_lt_of_le (Heap.lt_size ho) s0f)
  ·
   rcases List.mem_cons.mp (I2.stkSub b hb)with z|z
   ·
    rw[z];exact Ne.symm (I2.cne y c hcl)
   ·
    obtain⟨_,o,ho,_⟩:=I2.ok.funs.mem z
    exact Nat.ne_of_lt (Nat.lt_of_lt_of_le (Heap.lt_size ho) s0c)
  ·
   by_cases h1:b=c
   ·
    subst h1;rw[aC]at z;cases z;exact⟨gc,_,gc⟩
   ·
    rw[aj h1]at z
    by_cases h2:b=fa
    ·
     subst h2;rw[aC]at z;cases z;exact⟨gf,_,gf⟩
    ·
     rw[aj h2]at z
     exact(e0.hok b o z).stay (fun _ _ _ q=>q) (fun d q=>ext2 d _ q) (fun d xs q=>ext2 d _ q) fun d od _ _ q=>ext2 d _ q
 have pr2:∀{v:V}{d:D},Rep X.K H2 v d→Rep X.K (upd (upd (hidH H2) fa (.frz fo (.own fa))) c (.frz oc (.own c))) v d:=fun r=>(Rep.hid r).pres fun b o _ z=>ext2 b o z
 have rfn:Rep X.K (upd (upd (hidH H2) fa (.frz fo (.own fa))) c (.frz oc (.own c))) (.ref fa) (.fn x d):=by
  refine .fn LI.lam (y:=y) (c:=c) (c':=c') (pm:=pm) (ctv:=ctv) ?_ (ext2 _ _ (bj zq (iV _ _))) co aC dc rv' hm' (pr2 rd)
  rw[aj hfc,aC,hfo]
 have hsp:spX X.K 2 fs [v1,.ref fa] (upd (upd (hidH H2) fa (.frz fo (.own fa))) c (.frz oc (.own c))) (fun v H'=>v=.non∧post (.d .non) ρ1) (fun cls dx H'=>∃z,XFly X.K H' cls dx z∧noLs z.ds=true∧xp z):=by
  refine⟨rfl,[a,.fn x d],_,_,.cons (pr2 ra) (.cons rfn .nil),q1,fun v H' r E' p=>?_,fun cls dx H' z f1 f2=>⟨z,f1,f2⟩⟩
  obtain⟨rfl,p⟩:=p
  obtain⟨w,ew,rw⟩:=E'.head_d
  cases ew
  cases rw
  exact⟨rfl,p⟩
 have rvs:Vals [v1,.ref fa] [u1,.ref fa]:=.cons rv1 (.cons rfl .nil)
 have hl':([u1,.ref fa]:List Value).length=ps.length:=by rw[← rvs.length];exact F.len _ _ _ _ hsp
 have bt:=hb s2 [u1,.ref fa] I2.kIn (by rw[List.append_nil];exact hl')
 rw[List.append_nil]at bt
 refine wpAny_call (codeAny_mono (F.run X.A X.stack s2 _ ⟨[u1,.ref fa],[]⟩ [u1,.ref fa] [v1,.ref fa] _ _ hr E0c bt rvs hsp) fun res s' hq=>?_)
 cases res with
 | error ev =>
  obtain⟨ax,cls,dx,T,H',rfl,os,bare,un,hok,fl,na,nt,za,zt,z,f1,f2,f3⟩:=hq
  have zc:H' c=some (.frz oc (.own c)):=un.frzs c oc _ aC
  have zf2:H' fa=some (.frz fo (.own fa)):=un.frzs fa fo _ (by rw[aj hfc,aC])
  obtain⟨un1,hok1⟩:=un.one n1 gc nco hok
  obtain⟨un2,hok2⟩:=un1.one nfh gf nfo hok1
  obtain⟨I3,ext3,back⟩:=I2.unhide os bare un2 hok2
  have keep:∀b o,H' b=some o→(∀oo,o≠.frz oo (.own b))→del (del H' c) fa b=some o:=fun b o q n=>by
   have h1:b≠c:=fun y=>by subst y;rw[zc]at q;cases q;exact n _ rfl
   have h2:b≠fa:=fun y=>by subst y;rw[zf2]at q;cases q;exact n _ rfl
   rw[b7 h2,b7 h1];exact q
  have fly:XFly X.K (del (del H' c) fa) cls dx z:=by
   obtain⟨C,vs,g1,g2,g3,g4,g5⟩:=f1
   refine⟨C,vs,g1,g2,g3,?_,g5.lite (fun b xs q=>keep b _ q fun _ y=>nomatch y) (fun b o xs q=>keep b _ q fun _ y=>nomatch y) f2⟩
   rcases g4 with g4|⟨dd,od,k1,k2,k3⟩
   ·
    exact .inl g4
   ·
    exact .inr ⟨dd,od,k1,keep dd _ k2 (fun _ y=>nomatch y),k3⟩
  refine hx pins σ _ s' ax cls dx (some T) z I3 ⟨fl,?_,fun t et=>?_,I2.newer za,fun t et=>by cases et;exact I2.newer zt⟩ (fly.ext fun b o q=>cR q) f3
  ·
   rw[g7 (d9 (d9 na))];exact I2.hok.fresh za
  ·
   cases et;rw[g7 (d9 (d9 nt))];exact I2.hok.fresh zt
 | ok fl =>
  cases fl with
  | ret u =>
   obtain⟨v,H',os,bare,un,hok,rv,hv,pq⟩:=hq
   subst hv
   obtain⟨un1,hok1⟩:=un.one n1 gc nco hok
   obtain⟨un2,hok2⟩:=un1.one nfh gf nfo hok1
   obtain⟨I3,ext3,back⟩:=I2.unhide os bare un2 hok2
   exact⟨.non,_,.d .non,ρ1,I3,rv,(E3.exten ext3).cons_d .non,pq⟩
  |next=>exact False.elim hq
  |brk=>exact False.elim hq
  |cont=>exact False.elim hq
end
structure LamT (K:Frag) (x:Str) (fd:FuncData) (st:Stmt):Prop where
 tab:∃c0 P,tabIn K x=some (c0,P)∧fd.code=.ref c0
 lam:rQ K x=tX (bV st)
theorem LamT.mk'{K:Frag}{x:Str}{fd:FuncData}{st:Stmt}{c0:Addr}(h1:(tabIn K x).map (·.1)=some c0)(h2:fd.code=.ref c0)(h3:rQ K x=tX (bV st)):LamT K x fd st:=by
 refine⟨?_,h3⟩
 cases z:tabIn K x with
 |none=>rw[z]at h1;cases h1
 |some p=>rw[z]at h1;cases h1;exact⟨p.1,p.2,rfl,h2⟩
theorem By{X:Cx}{x y:Str}{i:Nat}{pr:Arguments}{bd:Expr}{sc:Scope}{pos:Pos}{fd:FuncData}{st:Stmt}(T:LamT X.K x fd st)(hc:fd.code=X.env.code)(h1:tX (bV st)=some (pr,bd,sc,pos))(mem:x∈lamNames) (qual:X.env.qual++"<lambda>"=lamQ x) (deft:defaultsOf pr X.env=([],[]))
  (fre:(sc.names.filter fun p=>p.2 == .free)=[(y,.free)]) (at_i:X.N[i]?=some y) (cel:X.env.scope.names.lookup y=some .cell) (fn:X.fn y=true):zB X x y i pr bd sc pos :=
 ⟨mem,let ⟨c0,P,a,b⟩:=T.tab;⟨c0,P,a,by rw[← hc];exact b⟩,T.lam.trans h1,qual,deft,fre,at_i,cel,fn⟩
theorem zC{P:Program}{w:World}{K:Frag}{mg:Str→Option Value}{base:Heap}{x qual:Str}{st:Stmt}{f:Addr}{fd:FuncData}{N ps:List Str}{k:Nat}{fs:FSX}(F:Fun K x qual st f fd)(S:aI N ps (aq st))(t:(Xc→Prop)→W Fl)
  (hbody:∀(cdv:Value)(A:Around)(outer:List Env)(s:Shared)(H:Hp)(E:XK)(xp:Xc→Prop),fd.code=cdv→Room k (A.deeper (envOfC qual (aq st) s.heap.objs.size f cdv))→(∀cls dx H' y,XFly K H' cls dx y→xp y→E cls dx H') →
   PMs (cxOf (CXr P w) P w K mg base N qual (aq st) f cdv A outer s H E) (bV st) (t xp))
  (h:∀ds post xp,ds.length=ps.length→fs ds post xp→t xp (ds.map .d++List.replicate (N.length-ps.length) .un) (okX post)):FnOk P w K mg base (CXr P w) (k+1) f fd ps (spX K ps.length fs):=by
 obtain⟨oc,od,kV,doc,pm,an,cdv,ct,osl,rfl,lk,hcd⟩:=F.ex
 refine yj lk hcd S (fun vs H Q E q=>q.1) fun A outer s H vs Q E hr q=>?_
 obtain⟨hl,ds,post,xp,rs,hf,q1,q2⟩:=q
 have E0:REnv K H H (vs.map some) (ds.map .d):=⟨fun _ _ e=>e,by rw[mI];exact List.nodup_nil,fun a ha=>(by rw[mI]at ha;simp at ha),REnv.ds rs⟩
 refine⟨_,(hbody cdv A outer s H E xp rfl hr q2).pss,H,ds.map .d++List.replicate (N.length-ps.length) .un,okX post,?_,h ds post xp (by rw[← rs.length];exact hl) hf,fun σ' H' ρ' E' p=>?_,fun _ _ _ _ p=>p.elim,fun _ _ _ _ p=>p.elim,fun v τ H' r ρ' E' p=>?_⟩
 ·
  unfold iF
  rw[hl]
  exact E0.uns _
 ·
  exact q1 .non H' (.d .non) ((⟨E'.sub,List.nodup_nil,fun a ha=>(by simp[owns]at ha),.nil⟩:REnv K H H' [] []).cons_d .non) p
 ·
  exact q1 v H' r (REnv.left (τ:=[some v]) (lam:=[r]) E' rfl) p
theorem Cu{p y:Str}{pr:Arguments}{bd:Expr}{sc:Scope}(par:sc.names.lookup p=some .local)(fre:(sc.names.filter fun p=>p.2 == .free)=[(y,.free)])(fr1:sc.names.lookup y=some .free)(nc:(sc.names.all fun z=>z.2 != .cell)=true)(co:sc.isCoroutine=false)(gk:(sc.isGenerator,sc.kind)=(false,.function))
  (bind:∀(q:Str)(cl:List (Str×Addr))(pm cdv ct u:Value),bindArgs (kla_fn "<lambda>" q pr bd sc cl pm cdv ct) ⟨[u],[]⟩=pure [(p,u)]):zy p y pr bd sc where
 par:=par
 fre:=fr1
 nc:=fun z hz q=>by
  have:=List.all_eq_true.mp nc z hz
  rw[q]at this
  exact absurd this (by decide)
 one:=fun z hz=>by
  have:(z,NameKind.free)∈sc.names.filter fun p=>p.2 == .free:=List.mem_filter.mpr ⟨hz,rfl⟩
  rw[fre]at this
  simpa using this
 co:=co
 gen:=(Prod.mk.inj gk).1
 kind:=(Prod.mk.inj gk).2
 bind:=bind
section
variable{X:Cx}{k k':Nat}{f:Addr}{fd:FuncData}{ps:List Str}{fs:FSX}{g x y nm:Str}{p cpos pos:Pos}{e:Expr}{t:W L}{xp:Xc→Prop}{pr:Arguments}{bd:Expr}{sc:Scope}{st:Stmt}{fl:FS}
theorem zD(F:FnOk X.prog X.w X.K X.mg X.base (CXr X.prog X.w) k f fd ps (spX X.K 2 fs))(T:FX X.K X.mg g st f fd ps)(hr:Room k' X.A)(hx:XOK X xp)(i:Nat)(LI:zB X x y i pr bd sc pos)(ha:PL X e t)(hk:k≤k':=by decide)(hg:Gl X g:=by rfl) (hdb:(g == ("__debug__" : Str))=false:=by decide) (he:starEach [e,.Lambda pr bd sc pos] X.env=(false,eval e X.env)::starEach [.Lambda pr bd sc pos] X.env:=by rfl)
  (he2:starEach [.Lambda pr bd sc pos] X.env=(false,eval (.Lambda pr bd sc pos) X.env)::starEach [] X.env:=by rfl):PL X (.Call (.Name g p) [e,.Lambda pr bd sc pos] [] cpos) (mV fs xp x i t) :=
 uY F (hr.mono hk) hg T.m T.f.kp T.b hx i LI ha hdb he he2
theorem xT(L:wY X.prog X.w X.K X.mg X.base k x fl)(hr:Room k' X.A)(i:Nat)(ha:PL X e t)(hk:k≤k':=by decide)(hN:X.N[i]?=some nm:=by rfl)(hv:Vis X.env.scope nm:=by first | exact Or.inl rfl | exact Or.inr (Or.inl rfl) | exact Or.inr (Or.inr rfl)) (hd:(nm == ("__debug__" : Str))=false:=by decide)
  (hcd:(nm == ("__classdict__" : Str))=false:=by decide) (hs:starEach [e] X.env=(false,eval e X.env)::starEach [] X.env:=by rfl):PL X (.Call (.Name nm p) [e] [] pos) (k9 fl x i t):=uX L (hr.mono hk) i ha hN hv hd hcd hs
end
end L2
namespace L2
open PySem PySem.W
end L2
namespace L2
open PySem PySem.Spec PyProof.Rows PySem.SeqAt
structure RepW (d:D):Prop where
 ok:okW d=true
 sh:a0 d=true
 dp:(toP d).depth≤40
 sg:sgnD d≤16777216
theorem RepW.len{d:D}(h:RepW d):(toP d).shown.length≤sizeLine:=by
 have e:sizeLine=16777216:=by decide
 rw[e]
 exact Nat.le_trans (uV d (k8 d h.ok h.sh)) h.sg
section
variable{X:Cx}
def lb:OpN:=fun ds k=>∃d,ds=[d]∧RepW d∧k (.d (.str (wB d)))
theorem kD{k:Nat}(hr:Room k X.A):eI X (.builtin "repr") lb:=by
 intro pins s σ H Pr ρ vs us ds post I r E ps ⟨d,e,ho,h⟩
 subst e
 obtain⟨v,rfl,rd⟩:=km ps
 obtain⟨u,rfl,ru⟩:=mB r
 have ref:∀ a,u=.ref a→wpAny (model X.prog X.w) X.A (call (.builtin "repr") [u]) (fun w s'=>∃ z H' r,Inv X pins σ H' s'∧RelV z w∧REnv X.K Pr H' (some z::σ) (r::ρ)∧post r) X.xe s:=by
  rintro a rfl
  obtain⟨as,rr,hn⟩:=xS I d v _ ru rd ho.ok
  have hdp:=ho.dp
  refine repr_of_reads' rr (g6 d ho.sh).2 (fun _=>hn) hr.gd (by have:=hr.units;omega) (fun _ _ e=>e) (fun h' t tk hk=>?_) ho.len
  exact⟨.str _,H,_,I.kept (h':=h') (t':=tk) hk,⟨t,rfl⟩,E.cons_d (.str _),h⟩
 cases rd with
 |non=>cases ru;exact PySem.P.repr_of_none ⟨.str _,H,_,I.tok _,⟨_,rfl⟩,E.cons_d (.str _),h⟩
 |bl b=>cases ru;exact PySem.P.repr_of_bool ⟨.str _,H,_,I.tok _,⟨_,rfl⟩,E.cons_d (.str _),by cases b<;>exact h⟩
 | int i =>
  obtain⟨t,rfl⟩:=ru
  have h2:=(g6 (.int i) ho.sh).2
  simp only[toP,PyData.showable,decide_eq_true_eq]at h2
  exact PySem.P.repr_of_int h2 ⟨.str _,H,_,I.tok _,⟨_,rfl⟩,E.cons_d (.str _),h⟩
 |str x=>obtain⟨t,rfl⟩:=ru;exact PySem.P.repr_of_str ⟨.str _,H,_,I.tok _,⟨_,rfl⟩,E.cons_d (.str _),h⟩ ho.len
 |tup h1 h2=>cases ru;exact ref _ rfl
 |lst h1 h2=>cases ru;exact ref _ rfl
 |dct h1=>cases ru;exact ref _ rfl
 |exc=>have:=ho.ok;simp[okW]at this
 |fn=>have:=ho.ok;simp[okW]at this
end
end L2
namespace L2
open PySem PySem.Spec PyProof.Rows
theorem sr{X:Cx}{pins:List (Addr×Obj)}{σ0:St}{s s1:Shared}{Pr H H1 H':Hp}{σ τ:St}{ρ ρ1 lam:Ev}{i:Nat}{k:L}{x:D}(I:Inv X pins σ0 H s)(E:REnv X.K Pr H σ ρ)(hi:ρ[i]?=some k)(hSa:∀a∈aP k,∃vs,H a=some (.lst vs))(F:jZ H H1 (aP k))
  (hl1:ρ1.length=ρ.length) (how:owns ρ1=owns (ρ.set i (.d x))) (hxi:ρ1[i]?=some (.d x)) (hsl:∀(j:Nat)(l:L),j≠i→ρ1[j]?=some l→noLr l=true∨∃y,l=.d y∧ρ[j]?=some (.d y))
  (I':Inv X pins σ0 H' s1) (E1:REnv X.K Pr H1 σ (ρ.set i (.d x))) (E':REnv X.K (aZ H1 (ρ.set i (.d x))) H' (τ++σ) (lam++ρ1)) (hlen:τ.length=lam.length) (hr:lam.all noLr=true):∃H2,Inv X pins σ0 H2 s1∧REnv X.K Pr H2 (τ++σ) (lam++ρ1.set i k):=by
 have hil:i<ρ.length:=(List.getElem?_eq_some_iff.mp hi).1
 have hil1:i<ρ1.length:=by omega
 have prm:=dC hi (l:=.d x) rfl
 have hnd:(aP k++owns (ρ.set i (.d x))).Nodup:=prm.nodup_iff.mp E.nd
 obtain⟨nd1,nd2,nd3⟩:=List.nodup_append.mp hnd
 have hna:∀a∈aP k,a∉owns (ρ.set i (.d x)):=fun a ha z=>nd3 a ha a z rfl
 have hb:∀b u,H1 b=some u→b∉owns (ρ.set i (.d x))→H' b=some u:=fun b u e hno=>by
  refine E'.sub b u ?_
  unfold aZ
  rw[if_neg hno]
  exact e
 have hS:∀a∈aP k,∃o vs,H' a=some (.frz o (.lst vs)):=fun a ha=>by
  obtain⟨vs,e⟩:=hSa a ha
  obtain⟨o,eo⟩:=F.2.2 a ha vs e
  exact⟨o,vs,hb a _ eo (hna a ha)⟩
 obtain⟨H2,I2,T⟩:=uC (aP k) nd1 I' hS fun a ha o u e=>by
  have z:=I.base.frzs a o u e
  obtain⟨vs,q⟩:=hSa a ha
  rw[q]at z;cases z
 have back:∀a∈aP k,H2 a=H a:=fun a ha=>by
  obtain⟨vs,e⟩:=hSa a ha
  obtain⟨o,eo⟩:=F.2.2 a ha vs e
  obtain⟨o',vs',e1,e2⟩:=T.2 a ha
  rw[hb a _ eo (hna a ha)]at e1
  cases e1
  rw[e2,e]
 have P:Pres H H2:=fun b u hp e=>by
  have hno:b∉owns ρ:=fun z=>by
   obtain⟨ws,hz,mu⟩:=E.at_own z
   rw[hz]at e;cases e;exact mu.no hp
  have hnk:b∉aP k:=fun z=>hno (prm.mem_iff.mpr (List.mem_append_left _ z))
  rw[T.1 b hnk]
  exact hb b u (F.1 b u hp e) fun z=>hno (prm.mem_iff.mpr (List.mem_append_right _ z))
 obtain⟨sl1,sl2⟩:=Paired.unapp hlen E'.sl
 have ndE:=E'.nd
 rw[ar,how]at ndE
 obtain⟨ne1,ne2,ne3⟩:=List.nodup_append.mp ndE
 have lamS:∀a∈owns lam,a∉aP k∧Pr a=none∧a∉owns (ρ.set i (.d x)):=fun a ha=>by
  obtain⟨vs,e,mu⟩:=E'.at_own (a:=a) (by rw[ar];exact List.mem_append_left _ ha)
  have h1:a∉aP k:=fun z=>by
   obtain⟨o,us,e1,_⟩:=T.2 _ z
   rw[e1]at e
   cases e
   exact mu
  have h3:a∉owns (ρ.set i (.d x)):=fun z=>ne3 a ha a z rfl
  refine⟨h1,?_,h3⟩
  have hoff:=E'.off a (by rw[ar];exact List.mem_append_left _ ha)
  unfold aZ at hoff
  rw[if_neg h3]at hoff
  cases ep:Pr a with
  |none=>rfl
  |some w=>rw[E1.sub a w ep]at hoff;cases hoff
 have slt:Paired (aN X.K H2) σ (ρ1.set i .un):=by
  have q:Paired (aN X.K H') σ (ρ1.set i .un):=Paired.set_r (b:=L.un) i sl2 fun _ _=>by unfold aN;exact True.intro
  refine l9 T P (ρ0:=ρ) (by simpa using hl1) (fun j l e=>?_) E.sl q
  by_cases hj:j=i
  ·
   subst hj
   rw[List.getElem?_set_self hil1]at e
   cases e
   exact .inl pC
  ·
   rw[List.getElem?_set_ne (Ne.symm hj)]at e
   exact hsl j l hj e
 have slr:Paired (aN X.K H2) τ lam:=Paired.impMem sl1 fun l hl s q=>q.thaw T l (List.all_eq_true.mp hr l hl)
 have pr1:(owns (ρ1.set i k)).Perm (aP k++owns ρ1):=by
  have hk1:(ρ1.set i k)[i]?=some k:=List.getElem?_set_self hil1
  have:=dC hk1 (l:=.d x) rfl
  rw[List.set_set]at this
  have e2:ρ1.set i (.d x)=ρ1:=by
   refine List.ext_getElem? fun j=>?_
   by_cases hj:j=i
   ·
    subst hj;rw[List.getElem?_set_self hil1,hxi]
   ·
    rw[List.getElem?_set_ne (Ne.symm hj)]
  rwa [e2]at this
 have pr2:(owns (ρ1.set i k)).Perm (owns ρ):=by
  rw[how]at pr1
  exact pr1.trans prm.symm
 refine⟨H2,I2,fun b u e=>?_,?_,fun b hbm=>?_,Paired.app slr ?_⟩
 ·
  have hno:b∉owns ρ:=fun z=>by have:=E.off b z;rw[e]at this;cases this
  have hnk:b∉aP k:=fun z=>hno (prm.mem_iff.mpr (List.mem_append_left _ z))
  rw[T.1 b hnk]
  refine hb b u ?_ fun z=>hno (prm.mem_iff.mpr (List.mem_append_right _ z))
  rw[F.2.1 b hnk]
  exact E.sub b u e
 ·
  rw[ar,List.nodup_append]
  refine⟨ne1,pr2.nodup_iff.mpr E.nd,fun c hc d hd z=>?_⟩
  subst z
  obtain⟨h1,h2,h3⟩:=lamS c hc
  rcases List.mem_append.mp (prm.mem_iff.mp (pr2.mem_iff.mp hd))with z|z
  ·
   exact h1 z
  ·
   exact h3 z
 ·
  rw[ar]at hbm
  rcases List.mem_append.mp hbm with z|z
  ·
   exact(lamS b z).2.1
  ·
   exact E.off b (pr2.mem_iff.mp z)
 ·
  obtain⟨sv,hs,q⟩:=E.slot hi
  have:=Paired.set_r (b:=k) i slt fun s es=>by
   rw[hs]at es
   cases es
   exact q.pres P k back
  rwa [List.set_set]at this
def pkS(o q:Option L)(i j:Nat)(t:W L)(ρ:Ev)(post:L→Ev→Prop):Prop:=match o,q with
 |some (.own _ xs),some (.own b _)=>i≠j∧dM i ρ=true∧t (ρ.set i (.d (.lst xs))) fun r ρ'=>noLr r=true∧∃zs,noLs zs=true∧ρ'=(ρ.set i (.d (.lst xs))).set j (.own b zs)∧post r (ρ.set j (.own b zs))
 |_,_=>False
theorem zE(a b:Addr)(xs ys:List D)(i j:Nat)(t:W L)(ρ:Ev)(post:L→Ev→Prop):pkS (some (.own a xs)) (some (.own b ys)) i j t ρ post=(i≠j∧dM i ρ=true∧t (ρ.set i (.d (.lst xs))) fun r ρ'=>noLr r=true∧∃zs,noLs zs=true∧ρ'=(ρ.set i (.d (.lst xs))).set j (.own b zs)∧post r (ρ.set j (.own b zs))):=(rfl)
def n9(i j:Nat)(t:W L):W L:=fun ρ post=>pkS ρ[i]? ρ[j]? i j t ρ post
theorem wZ{X:Cx}{e:Expr}(i j:Nat){t:W L}(h:PL X e t):PL X e (n9 i j t):=by
 intro pins s σ H Pr ρ post I E hw
 unfold n9 pkS at hw
 split at hw
 rotate_left
 ·
  exact hw.elim
 rename_i a xs b ys hi hj
 obtain⟨hij,hfl,hw⟩:=hw
 have hil:i<ρ.length:=(List.getElem?_eq_some_iff.mp hi).1
 have hjl:j<ρ.length:=(List.getElem?_eq_some_iff.mp hj).1
 obtain⟨H1,I1,E1,F,Sa⟩:=yV I E hi (x:=.lst xs) rfl
 refine thn (h pins s σ _ _ _ _ I1 E1.wide hw) fun u s1 ⟨v,H',r,ρ',I',rv,E',hr,zs,hz,eρ,hp⟩=>?_
 subst eρ
 have c1:owns ((ρ.set i (.d (.lst xs))).set j (.own b zs))=owns (ρ.set i (.d (.lst xs))):=jY (xs:=ys) (by rw[List.getElem?_set_ne hij];exact hj)
 have c2:((ρ.set i (.d (.lst xs))).set j (.own b zs))[i]?=some (.d (.lst xs)):=by rw[List.getElem?_set_ne (Ne.symm hij),List.getElem?_set_self hil]
 have c3:∀(m:Nat)(l:L),m≠i→((ρ.set i (.d (.lst xs))).set j (.own b zs))[m]?=some l→noLr l=true∨∃y,l=.d y∧ρ[m]?=some (.d y):=by
  intro m l hm e
  by_cases hmj:m=j
  ·
   subst hmj
   rw[List.getElem?_set_self (by simpa using hjl)]at e
   cases e
   exact .inl (by simpa[noLr]using hz)
  ·
   rw[List.getElem?_set_ne (Ne.symm hmj),List.getElem?_set_ne (Ne.symm hm)]at e
   have h1:=List.all_eq_true.mp hfl l (List.mem_of_getElem? (i:=m) (by rw[List.getElem?_set_ne (Ne.symm hm)];exact e))
   cases l with
   |un=>exact .inl pC
   |d y=>exact .inr ⟨y,rfl,e⟩
   |own b ys=>exact .inl h1
   |bx b ls=>exact .inl h1
   |dic b ls=>exact .inl h1
 obtain⟨H2,I2,E2⟩:=sr (τ:=[some v]) (lam:=[r]) (ρ1:=(ρ.set i (.d (.lst xs))).set j (.own b zs)) I E hi Sa F (by simp) c1 c2 c3 I' E1 E' rfl (by simp[hr])
 have e2:((ρ.set i (.d (.lst xs))).set j (.own b zs)).set i (.own a xs)=ρ.set j (.own b zs):=by
  refine List.ext_getElem? fun m=>?_
  by_cases hm:m=i
  ·
   subst hm
   rw[List.getElem?_set_self (by simpa using hil),List.getElem?_set_ne (Ne.symm hij),hi]
  ·
   rw[List.getElem?_set_ne (Ne.symm hm)]
   by_cases hmj:m=j
   ·
    subst hmj
    rw[List.getElem?_set_self (by simpa using hjl),List.getElem?_set_self hjl]
   ·
    rw[List.getElem?_set_ne (Ne.symm hmj),List.getElem?_set_ne (Ne.symm hm),List.getElem?_set_ne (Ne.symm hmj)]
 rw[e2]at E2
 exact⟨v,H2,r,_,I2,rv,E2,hp⟩
def trdW(o:Option L)(ρ:Ev)(post:Bool→Ev→Prop):Prop:=match o with
 |some (.d (.lst xs))=>post (!xs.isEmpty) ρ
 |_=>False
theorem w4(xs:List D)(ρ:Ev)(post:Bool→Ev→Prop):trdW (some (.d (.lst xs))) ρ post=post (!xs.isEmpty) ρ:=(rfl)
def w5(i:Nat):W Bool:=fun ρ post=>trdW ρ[i]? ρ post
theorem zF{X:Cx}(i:Nat){x:Str}{p:Pos}(hN:X.N[i]?=some x:=by rfl)(hv:Vis X.env.scope x:=by first | exact Or.inl rfl | exact Or.inr (Or.inl rfl) | exact Or.inr (Or.inr rfl)) (hd:(x == ("__debug__" : Str))=false:=by decide)
  (hcd:(x == ("__classdict__" : Str))=false:=by decide) (he:∀ whole,isTrue (.Name x p) X.env whole=(do let v ← whole; standAt (Expr.Name x p).pos; holding [v] (truthy v)):=by intro _; rfl):PB X (.Name x p) (w5 i):=by
 intro pins s σ H Pr ρ post I E h
 unfold w5 trdW at h
 split at h
 rotate_left
 ·
  exact h.elim
 rename_i xs0 q0
 obtain⟨sv,hσ,sl⟩:=E.slot q0
 unfold aN at sl
 obtain⟨v,rfl,r⟩:=sl
 cases r with
 | lst hz rs =>
  rename_i a vs0
  have em:(!vs0.isEmpty)=!xs0.isEmpty:=by
   have:=rs.length
   cases vs0<;>cases xs0<;>simp at this ⊢
  refine thn (vP (dh hN hv hd hcd) he pins s σ H (fun b H'=>b=(!xs0.isEmpty)∧H'=H) I ⟨.ref a,hσ,_,.inl ⟨vs0,hz.l,rfl⟩,em,rfl⟩) fun b s1 ⟨H1,I1,e1,e2⟩=>?_
  subst e1 e2
  exact⟨H1,ρ,I1,E,h⟩
def zG(ta tb:W L):W L:=fun ρ post=>ta ρ fun r ρ1=>match r with
 |.d (.lst xs)=>tb ρ1 fun r2 ρ2=>iK r2 fun j=>(0≤j∧j≤100000)∧xs.length*j.toNat≤sizeLine∧∀p,post (.own p (List.replicate j.toNat xs).flatten) ρ2
 |_=>False
theorem zH{X:Cx}{pins:List (Addr×Obj)}{s:Shared}{σ:St}{H:Hp}{l:Addr}{vs:List V}{k:Int}{t:Tok}{Q:Value→Shared→Prop}(I:Inv X pins σ H s)(hz:SqL X.K H l vs)(h1 : -(2^63)≤k)(h2:k<2^63)(hs:vs.length*k.toNat≤sizeLine)
  (q:∀s' p,H p=none→Inv X pins σ (upd H p (.lst (List.replicate k.toNat vs).flatten)) s'→Q (.ref p) s'):wpAny (model X.prog X.w) X.A (binaryOp .Mult (.ref l) (.int k t)) Q X.xe s:=by
 obtain⟨its,r,⟨⟨cls,d,data,sl⟩,n,e,hc,_,hd⟩,_⟩:=I.list hz
 cases hc
 cases hd
 have hl:=r.length
 have hlen:its.toArray.size*k.toNat≤sizeLine:=by rw[List.size_toArray,← hl];exact hs
 have hcap:¬its.toArray.size*k.toNat > (2^63-1) / 8:=by
  have:(sizeLine:Nat)≤(2^63-1) / 8:=by decide
  omega
 have hfit:¬(!Builtin.List.listFitsIndex k)=true:=by
  rw[fitsIndex_both h1 h2]
  exact Bool.false_ne_true
 have hlong:¬Builtin.List.listTooLong (its.toArray.size*k.toNat)=true:=by
  rw[qq hlen]
  exact Bool.false_ne_true
 have hnew:List.foldl (fun x1 x2=>x1++x2) #[] (List.replicate (if its.toArray.isEmpty=true then 0 else k.toNat) its.toArray)=(List.replicate k.toNat its).flatten.toArray:=by
  have f0:∀m:Nat,List.foldl (fun x1 x2=>x1++x2) #[] (List.replicate m its.toArray)=(List.replicate m its).flatten.toArray:=fun m=>by
   have:=kI its m []
   rw[List.nil_append]at this
   exact this
  rw[f0]
  cases its with
  |nil=>simp
  |cons a r'=>rw[if_neg (by simp)]
 refine wpAny_binaryOp_repeat_ref (T:="list") (U:="int") (by decide) ⟨_,e,rfl⟩ (fun s'=>typeIs_int s' k t) noFill_list_mul F.fills_int_mul F.slot_int_rmul repeat_list F.slot_int_index.lookup
  (call_meets F.slot_int_rmul (typeIs_int s k t) F.entry_int_rmul (F.args_int_rmul_2 _ _) (lm_int_rmul_list_any k t l its.toArray n d sl)
   ⟨e,rfl,⟨_,e,rfl⟩,call_meets F.slot_list_mul ⟨_,e,rfl⟩ F.entry_list_mul (F.args_list_mul_2 _ _) (lm_list_mul_any l its.toArray n d sl k t hfit hcap hlong) ⟨e,?_⟩⟩)
 rw[hnew]
 exact q _ _ I.fresh (I.lnew (t':=s.toks) (r.rep k.toNat) (by rw[tR,Nat.mul_comm];exact hs))
theorem zJ{X:Cx}{a b:Expr}{pos:Pos}{ta tb:W L}(ha:PL X a ta)(hb:PL X b tb):PL X (.BinOp a .Mult b pos) (zG ta tb):=by
 intro pins s σ H Pr ρ post I E h
 refine wpAny_BinOp (thn (ha pins s σ H Pr ρ _ I E h) fun u s1 ⟨v,H1,r,ρ1,I1,r1,E1,q1⟩=>?_)
 dsimp only at q1
 split at q1
 rotate_left
 ·
  exact q1.elim
 rename_i xs
 refine thn (hb pins s1 σ H1 _ ρ1 _ I1 E1.tail.wide q1) fun u2 s2 ⟨y,H2,r2,ρ2,I2,ry,E2,q2⟩=>?_
 obtain⟨j,rfl,⟨h1,h2⟩,hz,q2⟩:=cf q2
 have E3:REnv X.K Pr H2 (some y::some v::σ) (.d (.int j)::.d (.lst xs)::ρ2):=REnv.step (τ:=[some v]) (lam:=[.d (.lst xs)]) (w:=[some y]) (μ:=[.d (.int j)]) E1 rfl E2 rfl
 obtain⟨_,e1,p1⟩:=E3.head_d
 cases e1
 cases p1
 obtain⟨_,e1,p1⟩:=E3.tail.head_d
 cases e1
 have E4:REnv X.K Pr H2 σ ρ2:=E3.tail.tail
 cases p1 with
 | lst hq rs =>
  cases r1
  obtain⟨t,rfl⟩:=ry
  exact zH I2 hq.l (by omega) (by omega) (by rw[rs.length];exact hz) fun s' p hp I3=>⟨.ref p,_,_,ρ2,I3,rfl,E4.cons_own hp (rs.rep _),q2 p⟩
end L2
namespace HT
open PySem PySem.Spec PyProof.Rows
end HT
namespace L2
open PySem PySem.Spec PyProof.Rows
end L2
namespace L2
open PySem
theorem kE{g:Tg}{b:W Fl}{post:Fl→Ev→Prop}:∀(xs:List D)(I:Nat→Ev→Prop)(ρ:Ev),I 0 ρ →
  (∀j x ρ,xs[j]?=some x→I j ρ→∀Q:Fl→Ev→Prop,(∀ρ',I (j+1) ρ'→Q .nx ρ')→(∀ρ',I (j+1) ρ'→Q .ct ρ')→(∀ρ',post .nx ρ'→Q .bk ρ')→(∀r ρ',post (.rt r) ρ'→Q (.rt r) ρ')→g x ρ fun ρ1=>b ρ1 Q) →
  (∀ρ,I xs.length ρ→post .nx ρ)→fU g b xs ρ post
 |[],I,ρ,h0,_,fin=>fin ρ h0
 | x::xs,I,ρ,h0,step,fin=>by
  unfold fU
  refine step 0 x ρ rfl h0 _ (fun ρ' h=>?_) (fun ρ' h=>?_) (fun ρ' h=>h) (fun r ρ' h=>h)
  ·
   exact kE xs (fun j=>I (j+1)) ρ' h (fun j y ρ e hi=>step (j+1) y ρ e hi) fin
  ·
   exact kE xs (fun j=>I (j+1)) ρ' h (fun j y ρ e hi=>step (j+1) y ρ e hi) fin
theorem qW{g:Tg}{ti:W Bool}{te:W L}{k:List D→Ev→Prop}:∀(xs:List D)(I:Nat→Ev→List D→Prop)(ρ:Ev)(acc:List D),I 0 ρ acc →
  (∀j x ρ acc,xs[j]?=some x→I j ρ acc→∀Q:Ev→List D→Prop,(∀ρ' acc',I (j+1) ρ' acc'→Q ρ' acc')→g x ρ fun ρ1=>ti ρ1 fun b ρ2=>if b=true then te ρ2 fun r ρ3=>toD r fun y=>Q ρ3 (acc++[y])else Q ρ2 acc) →
  (∀ρ acc,I xs.length ρ acc→k acc ρ)→gn g ti te xs ρ acc k
 |[],I,ρ,acc,h0,_,fin=>fin ρ acc h0
 | x::xs,I,ρ,acc,h0,step,fin=>by
  unfold gn
  exact step 0 x ρ acc rfl h0 (fun ρ acc=>gn g ti te xs ρ acc k) fun ρ' acc' h=>qW xs (fun j=>I (j+1)) ρ' acc' h (fun j y ρ acc e hi=>step (j+1) y ρ acc e hi) fin
theorem iX{α:Type}{enc:α→D}{h:α→Option D}{caps:Ev}{ti:W Bool}{te:W L}{k:List D→Ev→Prop}:∀(as:List α)(acc:List D)(l:L),
  (∀a∈as,∀Q:Ev→Option D→Prop,Q (.d (enc a)::caps) (h a)→ti (.d (enc a)::caps) fun b ρ2=>if b=true then te ρ2 fun r ρ3=>toD r fun y=>Q ρ3 (some y)else Q ρ2 none) →
  (∀l',k (acc++as.filterMap h) (l'::caps))→gn (cb 0) ti te (as.map enc) (l::caps) acc k
 |[],acc,l,_,fin=>by have:=fin l;simpa[gn]using this
 | a::as,acc,l,step,fin=>by
  show gn (cb 0) ti te (enc a::as.map enc) (l::caps) acc k
  unfold gn
  show ti (.d (enc a)::caps) _
  refine step a List.mem_cons_self (fun ρ o=>match o with|some y=>gn (cb 0) ti te (as.map enc) ρ (acc++[y]) k|none=>gn (cb 0) ti te (as.map enc) ρ acc k) ?_
  cases e:h a with
  |none=>exact iX as acc _ (fun b hb=>step b (List.mem_cons_of_mem _ hb)) (by simpa[List.filterMap_cons,e]using fin)
  |some y=>exact iX as (acc++[y]) _ (fun b hb=>step b (List.mem_cons_of_mem _ hb)) (by simpa[List.filterMap_cons,e]using fin)
theorem w7{α:Type}{enc:α→D}{h:α→D}{caps:Ev}{te:W L}{k:List D→Ev→Prop}(as:List α)(acc:List D)(l:L)
  (step:∀a∈as,∀Q:Ev→D→Prop,Q (.d (enc a)::caps) (h a)→te (.d (enc a)::caps) fun r ρ3=>toD r fun y=>Q ρ3 y)
  (fin:∀l',k (acc++as.map h) (l'::caps)):gn (cb 0) r6 te (as.map enc) (l::caps) acc k:=by
 refine iX (h:=fun a=>some (h a)) as acc l (fun a ha Q q=>?_) (by simpa using fin)
 simp only[r6,if_true]
 exact step a ha (fun ρ y=>Q ρ (some y)) q
theorem su{α:Type}{x:α}{xs:List α}:atI (x::xs) 0=some x:=dD (j:=0) rfl
theorem sx{α:Type}{x y:α}{xs:List α}:atI (x::y::xs) 1=some y:=dD (j:=1) rfl
theorem Bz{α:Type}{x y z:α}{xs:List α}:atI (x::y::z::xs) 2=some z:=dD (j:=2) rfl
theorem BA{α:Type}{x y z w:α}{xs:List α}:atI (x::y::z::w::xs) 3=some w:=dD (j:=3) rfl
theorem Cv{α:Type}{x y z w v:α}{xs:List α}:atI (x::y::z::w::v::xs) 4=some v:=dD (j:=4) rfl
theorem qX{α:Type}{xs:List α}{i:Int}{x:α}(h0:0≤i)(h:xs[i.toNat]?=some x):atI xs i=some x:=by
 have:=dD h
 rwa [Int.toNat_of_nonneg h0]at this
theorem ix30:ixN 3 0=some 0:=by decide
theorem ix31:ixN 3 1=some 1:=by decide
theorem ix32:ixN 3 2=some 2:=by decide
theorem qY{g:Tg}{b:W Fl}{post:Fl→Ev→Prop}(lo:Int)(n:Nat)(I:Nat→Ev→Prop)(ρ:Ev)(h0:I 0 ρ)
  (step:∀j ρ,j<n→I j ρ→∀Q:Fl→Ev→Prop,(∀ρ',I (j+1) ρ'→Q .nx ρ')→(∀ρ',I (j+1) ρ'→Q .ct ρ')→(∀ρ',post .nx ρ'→Q .bk ρ')→(∀r ρ',post (.rt r) ρ'→Q (.rt r) ρ')→g (.int (lo+(j:Int))) ρ fun ρ1=>b ρ1 Q)
  (fin:∀ρ,I n ρ→post .nx ρ):fU g b (rngD lo n) ρ post:=by
 have hl:(rngD lo n).length=n:=by simp[rngD]
 refine kE _ I ρ h0 (fun j x ρ hj hi Q h1 h2 h3 h4=>?_) fun ρ h=>fin ρ (by rwa [hl]at h)
 have hj':j<n:=by rw[← hl];exact(List.getElem?_eq_some_iff.mp hj).1
 have e:x=.int (lo+(j:Int)):=by
  unfold rngD at hj
  rw[List.getElem?_map,List.getElem?_range hj']at hj
  exact(Option.some.inj hj).symm
 subst e
 exact step j ρ hj' hi Q h1 h2 h3 h4
theorem lg{g:Tg}{b:W Fl}{post:Fl→Ev→Prop}(n:Nat)(I:Nat→Ev→Prop)(ρ:Ev)(h0:I 0 ρ)
  (step:∀j ρ,j<n→I j ρ→∀Q:Fl→Ev→Prop,(∀ρ',I (j+1) ρ'→Q .nx ρ')→(∀ρ',I (j+1) ρ'→Q .ct ρ')→(∀ρ',post .nx ρ'→Q .bk ρ')→(∀r ρ',post (.rt r) ρ'→Q (.rt r) ρ')→g (.int (j:Int)) ρ fun ρ1=>b ρ1 Q)
  (fin:∀ρ,I n ρ→post .nx ρ):fU g b (rngD 0 n) ρ post :=
 qY 0 n I ρ h0 (fun j ρ hj hi Q h1 h2 h3 h4=>by rw[Int.zero_add];exact step j ρ hj hi Q h1 h2 h3 h4) fin
theorem cI{i:Int}(h:i.natAbs<2^200):cD i:=Nat.lt_of_lt_of_le h (Nat.pow_le_pow_right (by decide) (by decide))
theorem iY(x:Int){m:Int}(h:0<m):0≤x.fmod m∧x.fmod m<m:=by
 rw[Int.fmod_eq_emod_of_nonneg _ (by omega)]
 exact⟨Int.emod_nonneg _ (by omega),Int.emod_lt_of_pos _ h⟩
theorem pQ{i:Int}{n:Nat}(h0:0≤i)(h:i<2^n)(hn:n≤1000000):cD i:=by
 have:i.natAbs<2^n:=by
  have e:((2^n:Nat):Int)=(2:Int)^n:=by simp
  omega
 exact Nat.lt_of_lt_of_le this (Nat.pow_le_pow_right (by decide) hn)
theorem Cw:(10:Int)^60<2^200:=by decide
theorem oa{i:Int}(h0:0≤i)(h:i≤10^60):i.natAbs<2^9000:=by
 have:i.natAbs<2^200:=by
  have:=Cw
  have e:((2^200:Nat):Int)=(2:Int)^200:=by decide
  omega
 exact Nat.lt_of_lt_of_le this (Nat.pow_le_pow_right (by decide) (by decide))
theorem RB.of_divInt{t b:Int}{n:Nat}(h:b≠0)(ht:t.natAbs<2^n)(hb:b.natAbs<2^n):RB n (Rat.divInt t b):=⟨Nat.lt_of_le_of_lt (xM h) ht,Nat.lt_of_le_of_lt (xK h) hb⟩
structure Ask where
 nm:Str
 one:Nat
 other:Nat
 size:Rat
structure Ring where
 rooms:List Rat
 asks:List Ask
def Ring.n(R:Ring):Nat:=R.rooms.length
def askD(a:Ask):D:=.tup [.str a.nm,.int a.one,.int a.other,frD a.size]
def w8(R:Ring):D:=.tup [.lst (R.rooms.map frD),.lst (R.asks.map askD)]
structure BB (n:Nat) (a:Ask):Prop where
 one:a.one<n
 other:a.other<n
 ne:a.one≠a.other
 size:0≤a.size
 lt:a.size<((2^300:Nat):Rat)
 nm:PyData.strOk a.nm=true
structure Ring.Ok (R:Ring):Prop where
 lo:2≤R.n
 hi:R.n≤12
 few:R.asks.length≤20
 room:∀q∈R.rooms,0<q∧RB 60 q
 ask:∀a∈R.asks,BB R.n a
 cd:∃D:Nat,0<D∧D<2^1240∧∀a∈R.asks,a.size.den∣D
theorem q8{α:Type}{n:Nat}{f:α→D}:∀xs:List α,(∀x∈xs,okD n (f x)=true)→okDs n (xs.map f)=true
 |[],_=>rfl
 |x::xs,h=>by simp[okDs,h x List.mem_cons_self,q8 xs fun y hy=>h y (List.mem_cons_of_mem _ hy)]
theorem BC(n:Nat)(q:Rat):okD (n+1) (frD q)=true:=by cases n<;>simp[frD,okD,okDs]
def StOk(xs:List D):Prop:=∃(c sd:Int)(t:Bool),xs=[.int c,.int sd,.bl t]∧0≤sd∧sd<2147483647
theorem w9{t b g:Int}(h:b≠0)(e:g=cH t b):D.tup [.int (t.fdiv g),.int (b.fdiv g)]=frD (Rat.divInt t b):=by
 subst e
 rw[uw h,yO h]
 rfl
def denP(qs:List Rat):Nat:=(qs.map (·.den)).foldr (·*·) 1
def sumQ(qs:List Rat):Rat:=qs.foldl (·+·) 0
theorem uZ(qs:List Rat):∀acc:Rat,qs.foldl (·+·) acc=acc+sumQ qs:=by
 unfold sumQ
 induction qs with
 |nil=>intro acc;simp[Rat.add_zero]
 |cons q qs ih=>intro acc;rw[List.foldl_cons,List.foldl_cons,ih,ih (0+q),Rat.zero_add,Rat.add_assoc]
theorem u4(q:Rat)(qs:List Rat):sumQ (q::qs)=q+sumQ qs:=by
 show(q::qs).foldl (·+·) 0=_
 rw[List.foldl_cons,uZ,Rat.zero_add]
theorem xa{xs:List D}{i:Int}{k:L→Prop}:opIx (.lst xs) (.int i) k=∃v,atI xs i=some v∧k (.d v):=rfl
theorem xb{xs:List D}{i:Int}{k:L→Prop}:opIx (.tup xs) (.int i) k=∃v,atI xs i=some v∧k (.d v):=rfl
theorem xc{z:Str}{i:Int}{k:L→Prop}:opIx (.str z) (.int i) k=(z.length≤sizeLine∧∃c,atI z.cps.toList i=some c∧k (.d (.str ⟨#[c]⟩))):=rfl
theorem xf{R:Ring}{k:L→Prop}:opIx (w8 R) (.int 0) k=k (.d (.lst (R.rooms.map frD))):=by
 show(∃v,atI _ _=some v∧_)=_
 simp only[su,Option.some.injEq,exists_eq_left']
theorem xg{R:Ring}{k:L→Prop}:opIx (w8 R) (.int 1) k=k (.d (.lst (R.asks.map askD))):=by
 show(∃v,atI _ _=some v∧_)=_
 simp only[sx,Option.some.injEq,exists_eq_left']
theorem zK{a:Ask}{k:L→Prop}:opIx (askD a) (.int 0) k=k (.d (.str a.nm)):=by
 show(∃v,atI _ _=some v∧_)=_
 simp only[su,Option.some.injEq,exists_eq_left']
theorem zL{a:Ask}{k:L→Prop}:opIx (askD a) (.int 1) k=k (.d (.int a.one)):=by
 show(∃v,atI _ _=some v∧_)=_
 simp only[sx,Option.some.injEq,exists_eq_left']
theorem zM{a:Ask}{k:L→Prop}:opIx (askD a) (.int 2) k=k (.d (.int a.other)):=by
 show(∃v,atI _ _=some v∧_)=_
 simp only[Bz,Option.some.injEq,exists_eq_left']
theorem zN{a:Ask}{k:L→Prop}:opIx (askD a) (.int 3) k=k (.d (frD a.size)):=by
 show(∃v,atI _ _=some v∧_)=_
 simp only[BA,Option.some.injEq,exists_eq_left']
theorem BD{q:Rat}{k:L→Prop}:opIx (frD q) (.int 0) k=k (.d (.int q.num)):=by
 show(∃v,atI _ _=some v∧_)=_
 simp only[su,Option.some.injEq,exists_eq_left']
theorem BE{q:Rat}{k:L→Prop}:opIx (frD q) (.int 1) k=k (.d (.int (q.den:Int))):=by
 show(∃v,atI _ _=some v∧_)=_
 simp only[sx,Option.some.injEq,exists_eq_left']
theorem xU(q:Rat):noL (frD q)=true:=by simp[frD,noL,noLs]
theorem kF{α:Type}{f:α→D}:∀(xs:List α),(∀x∈xs,noL (f x)=true)→noLs (xs.map f)=true
 |[],_=>rfl
 |x::xs,h=>by simp[noLs,h x List.mem_cons_self,kF xs fun y hy=>h y (List.mem_cons_of_mem _ hy)]
theorem mW(qs:List Rat):noLs (qs.map frD)=true:=kF _ fun q _=>xU q
theorem u5{α:Type}(f:α→Int)(xs:List α):noLs (xs.map fun x=>D.int (f x))=true:=kF _ fun _ _=>rfl
theorem u6(R:Ring):R.rooms.length=R.n:=rfl
def wayS(w:Bool):Str:=if w then "on" else "back"
theorem rg:cF (.str "on"):=cQ (n:=0) (by decide +kernel) (by decide)
theorem mi:cF (.str "back"):=cQ (n:=0) (by decide +kernel) (by decide)
theorem u7(w:Bool):cF (.str (wayS w)):=by
 cases w
 ·
  exact mi
 ·
  exact rg
theorem BF(w:Bool):(wayS w="on")=(w=true):=by cases w <;> simp[wayS] <;> decide
theorem xh(w:Bool):(wayS w="back")=(w=false):=by cases w <;> simp[wayS] <;> decide
theorem u9{is:List Nat}{xs:List D}{ρ:Ev}{k:Ev→Prop}:jk is (.tup xs) ρ k=gj is xs ρ k:=rfl
theorem va{is:List Nat}{a:Ask}{ρ:Ev}{k:Ev→Prop}:jk is (askD a) ρ k=gj is [.str a.nm,.int a.one,.int a.other,frD a.size] ρ k:=rfl
theorem xi{is:List Nat}{q:Rat}{ρ:Ev}{k:Ev→Prop}:jk is (frD q) ρ k=gj is [.int q.num,.int (q.den:Int)] ρ k:=rfl
theorem pR{xs:List D}{k:List D→Prop}:kQ (.lst xs) k=k xs:=rfl
theorem pS{xs:List D}{k:List D→Prop}:kQ (.tup xs) k=k xs:=rfl
theorem sy{q:Rat}{k:List D→Prop}:kQ (frD q) k=k [.int q.num,.int (q.den:Int)]:=rfl
theorem vb{xs:List D}{k:L→Prop}:bp [.lst xs] k=k (.d (.int xs.length)):=rfl
theorem vc{xs:List D}{k:L→Prop}:bp [.tup xs] k=k (.d (.int xs.length)):=rfl
theorem vd{x:Str}{k:L→Prop}:bp [.str x] k=(x.length≤sizeLine∧k (.d (.int x.length))):=rfl
theorem xj{q:Rat}{k:L→Prop}:bp [frD q] k=k (.d (.int 2)):=rfl
theorem sD{R:Ring}{k:L→Prop}:bp [w8 R] k=k (.d (.int 2)):=rfl
theorem ve{a:Ask}{k:L→Prop}:bp [askD a] k=k (.d (.int 4)):=rfl
theorem pT(q:Rat):isTy "tuple" (frD q)=true:=rfl
theorem pU(q:Rat):isTy "list" (frD q)=false:=rfl
theorem pV(q:Rat):isTy "int" (frD q)=false:=rfl
theorem oe(q:Rat):isTy "bool" (frD q)=false:=rfl
theorem pW(q:Rat):isTy "str" (frD q)=false:=rfl
theorem mX(R:Ring):isTy "tuple" (w8 R)=true:=rfl
def frL(n:Nat)(f:Nat→Rat):List D:=(List.range n).map fun (t:Nat)=>frD (f t)
theorem zO(n:Nat)(f:Nat→Rat):(frL n f).length=n:=by simp[frL]
theorem zQ(n:Nat)(f:Nat→Rat):frL n f=((List.range n).map f).map frD:=by
 unfold frL
 rw[List.map_map]
 rfl
theorem xk(n:Nat)(f:Nat→Rat):noLs (frL n f)=true:=by rw[zQ];exact mW _
def cutP(c:Nat×Nat):D:=.tup [.int (c.1:Int),.int (c.2:Int)]
theorem zR{c:Nat×Nat}{k:L→Prop}:opIx (cutP c) (.int 0) k=k (.d (.int c.1)):=by
 show(∃v,atI _ _=some v∧_)=_
 simp only[su,Option.some.injEq,exists_eq_left']
theorem zS{c:Nat×Nat}{k:L→Prop}:opIx (cutP c) (.int 1) k=k (.d (.int c.2)):=by
 show(∃v,atI _ _=some v∧_)=_
 simp only[sx,Option.some.injEq,exists_eq_left']
theorem zT(n:Nat)(c:Nat×Nat):okD (n+1) (cutP c)=true:=by cases n<;>simp[cutP,okD,okDs]
theorem vf(c:Nat×Nat):noL (cutP c)=true:=by simp[cutP,noL,noLs]
theorem vg(c:Nat×Nat):cF (cutP c):=cQ (zT 0 c) (by decide)
theorem zU(c d:Nat×Nat):eqD (cutP c) (cutP d)=decide (c=d):=by
 unfold cutP
 rw[pB,eX,eX,mQ,ik,ik,Bool.and_true,← Bool.decide_and,decide_eq_decide]
 constructor
 ·
  rintro⟨h1,h2⟩
  exact Prod.ext (by omega) (by omega)
 ·
  rintro rfl;exact⟨rfl,rfl⟩
def gP(g:Rat×(Nat×Nat)):D:=.tup [frD g.1,cutP g.2]
theorem Cy{g:Rat×(Nat×Nat)}{k:L→Prop}:opIx (gP g) (.int 0) k=k (.d (frD g.1)):=by
 show(∃v,atI _ _=some v∧_)=_
 simp only[su,Option.some.injEq,exists_eq_left']
theorem Cz{g:Rat×(Nat×Nat)}{k:L→Prop}:opIx (gP g) (.int 1) k=k (.d (cutP g.2)):=by
 show(∃v,atI _ _=some v∧_)=_
 simp only[sx,Option.some.injEq,exists_eq_left']
theorem xl(T:String):isTy T .non=(T == "NoneType"):=rfl
theorem zV(T:String)(b:Bool):isTy T (.bl b)=(T == "bool" ||T == "int"):=rfl
theorem xm(T:String)(i:Int):isTy T (.int i)=(T == "int"):=rfl
theorem xn(T:String)(x:Str):isTy T (.str x)=(T == "str"):=rfl
theorem xq(T:String)(xs:List D):isTy T (.tup xs)=(T == "tuple"):=rfl
theorem xr(T:String)(xs:List D):isTy T (.lst xs)=(T == "list"):=rfl
theorem sE(g:Rat×(Nat×Nat)):isTy "tuple" (gP g)=true:=rfl
theorem og(c:Nat×Nat):isTy "tuple" (cutP c)=true:=rfl
theorem oh(a:Ask):isTy "tuple" (askD a)=true:=rfl
theorem vh{c:Nat×Nat}{k:L→Prop}:bp [cutP c] k=k (.d (.int 2)):=rfl
theorem zW{c:Rat×(Nat×Nat)}{k:L→Prop}:bp [gP c] k=k (.d (.int 2)):=rfl
theorem vi(cs:List (Nat×Nat)):noLs (cs.map cutP)=true:=kF _ fun c _=>vf c
end L2
namespace L2
open PySem PySem.Builtin.Str
def vj(c:Nat):Prop:=97≤c∧c≤122
structure NmOk (z:Str):Prop where
 lo:1≤z.cps.toList.length
 hi:z.cps.toList.length≤8
 let_:∀c∈z.cps.toList,vj c
theorem NmOk.ok{z:Str}(h:NmOk z):PyData.strOk z=true:=by
 unfold PyData.strOk
 rw[← Array.all_toList,List.all_eq_true]
 intro c hc
 have:=h.let_ c hc
 unfold vj at this
 simp
 omega
end L2
namespace L2
open PySem
def onL(n i j:Nat):List Nat:=(List.range ((j+n-i) % n)).map fun s=>(i+s) % n
def CA(n i j:Nat):List Nat:=(List.range ((i+n-j) % n)).map fun s=>(i+n-1-s) % n
def wayL(n:Nat)(a:Ask)(w:Bool):List Nat:=if w then onL n a.one a.other else CA n a.one a.other
def far(n i j:Nat):Nat:=(j+n-i) % n
def isOn(n:Nat)(a:Ask)(t:Nat):Bool:=decide (far n a.one t<far n a.one a.other)
theorem RB.sum{b:Nat}:∀(qs:List Rat),(∀q∈qs,RB b q)→RB (1+(b+1)*qs.length) (sumQ qs)
 |[],_=>RB.mono (m:=1) ⟨by decide,by decide⟩ (by omega)
 | q::qs,h=>by
  have ih:=RB.sum qs fun z hz=>h z (List.mem_cons_of_mem _ hz)
  rw[u4]
  refine((h q List.mem_cons_self).add ih).mono ?_
  rw[List.length_cons,Nat.mul_succ]
  omega
def sent(n:Nat)(a:Ask)(p:Rat)(t:Nat):Rat:=if isOn n a t then p else a.size-p
def BG(n:Nat)(as:List Ask)(ps:List Rat)(t:Nat):Rat:=sumQ ((as.zip ps).map fun x=>sent n x.1 x.2 t)
def sW(c:Nat×Nat)(p:Nat):Bool:=decide (c.1<p∧p≤c.2)
def apart(c:Nat×Nat)(i j:Nat):Bool:=sW c i != sW c j
def zX(as:List Ask)(c:Nat×Nat):Rat:=sumQ ((as.filter fun a=>apart c a.one a.other).map (·.size))
def Ring.room(R:Ring)(t:Nat):Rat:=R.rooms.getD t 0
def BH(R:Ring)(c:Nat×Nat):Rat:=R.room c.1+R.room c.2
def CY(R:Ring)(c:Nat×Nat):Rat:=zX R.asks c / BH R c
def CZ(n:Nat)(c:Nat×Nat):Prop:=c.1≤c.2∧c.2<n
def CB(qs:List Rat):Prop:=denP qs<2^9000∨∃D:Nat,0<D∧D<2^4400∧∀q∈qs,q.den∣D
def Ring.sz(R:Ring)(k:Nat):Rat:=(R.asks.map (·.size)).getD k 0
end L2
namespace My
open PySem L2
def sF(R:Ring)(j:Nat):Ask:=(R.asks[j]?).getD ⟨"",0,0,0⟩
def onA(R:Ring)(j t:Nat):Bool:=isOn R.n (sF R j) t
def dI(R:Ring)(w:Nat→Int)(k g h:Nat):Int:=((List.range (R.asks.length-k)).map fun i=>if onA R (k+i) g != onA R (k+i) h then w (k+i)else 0).sum
def C0(R:Ring)(w f:Nat→Int)(k:Nat):Prop:=∀g h,g<R.n→h<R.n→dI R w k g h≤f g+f h∧(f g+f h-dI R w k g h) % 2=0
def CC(R:Ring)(w f:Nat→Int)(k:Nat)(p:Int)(t:Nat):Int:=f t-if onA R k t then p else w k-p
def mnI(i j:Int):Int:=if j<i then j else i
def onT(R:Ring)(k:Nat):List Nat:=(PySem.W.sortI ((wayL R.n (sF R k) true).map fun (t:Nat)=>(t:Int))).map Int.toNat
def valI(R:Ring)(w f:Nat→Int)(k g h:Nat):Int:=f g+f h-dI R w (k+1) g h
def BI(R:Ring)(w f:Nat→Int)(k:Nat)(acc:Int)(g:Nat)(hs:List Nat):Int:=hs.foldl (fun t h=>if decide (g≤h)then mnI t (valI R w f k g h)else t) acc
def BJ(R:Ring)(w f:Nat→Int)(k:Nat)(gs:List Nat):Int:=gs.foldl (fun t g=>BI R w f k t g (onT R k)) (2*w k)
def BK(R:Ring)(w f:Nat→Int)(k:Nat):Int:=(BJ R w f k (onT R k)).fdiv 2
def fAt(R:Ring)(w f:Nat→Int):Nat→Nat→Int
 |0=>f
 |k+1=>CC R w (fAt R w f k) k (BK R w (fAt R w f k) k)
def pAt(R:Ring)(w f:Nat→Int)(k:Nat):Int:=BK R w (fAt R w f k) k
def cbN(qs:List Rat):Nat:=qs.foldl (fun b q=>Nat.lcm b q.den) 1
def BL(u:Nat)(q:Rat):Int:=q.num*((u / q.den:Nat):Int)
def BM(R:Ring):List Rat:=R.asks.map (·.size)
def CD(R:Ring)(q:Rat):List Rat:=R.rooms.map fun r=>q*r
def cbR(R:Ring)(q:Rat):Nat:=cbN (BM R++CD R q)
def xV(R:Ring)(q:Rat):Nat:=2*cbR R q
def wI(R:Ring)(q:Rat)(j:Nat):Int:=BL (xV R q) (sF R j).size
def f0I(R:Ring)(q:Rat)(t:Nat):Int:=BL (xV R q) (q*R.room t)
def pI(R:Ring)(q:Rat)(k:Nat):Int:=pAt R (wI R q) (f0I R q) k
end My
set_option exponentiation.threshold 2000
namespace L2
open PySem
theorem okD_mono:∀{m n:Nat}(d:D),m≤n→okD m d=true→okD n d=true:=by
 intro m n d hmn h
 have:∀(m:Nat),(∀(n:Nat)(d:D),m≤n→okD m d=true→okD n d=true)∧∀(n:Nat)(ds:List D),m≤n→okDs m ds=true→okDs n ds=true:=by
  intro m
  induction m with
  | zero =>
   have h0:∀(n:Nat)(d:D),0≤n→okD 0 d=true→okD n d=true:=fun n d _ h=>by
    cases d<;>cases n<;>simp_all [okD]
   refine⟨h0,fun n ds hn h=>?_⟩
   induction ds with
   |nil=>simp[okDs]
   |cons x xs ih=>simp only[okDs,Bool.and_eq_true]at h ⊢;exact⟨h0 n x hn h.1,ih h.2⟩
  | succ m ih =>
   have h0:∀(n:Nat)(d:D),m+1≤n→okD (m+1) d=true→okD n d=true:=fun n d hn h=>by
    obtain⟨k,rfl⟩:∃k,n=k+1:=⟨n-1,by omega⟩
    cases d<;>simp_all [okD]
    all_goals exact ih.2 k _ (by omega) h
   refine⟨h0,fun n ds hn h=>?_⟩
   induction ds with
   |nil=>simp[okDs]
   |cons x xs ihx=>simp only[okDs,Bool.and_eq_true]at h ⊢;exact⟨h0 n x hn h.1,ihx h.2⟩
 exact(this m).1 n d hmn h
end L2
set_option exponentiation.threshold 5000
namespace My
open PySem L2
structure LB (R:Ring) (ps:List Rat):Prop where
 p:∀p∈ps,RB 4100 p
 ld:∀k t,RB 4100 (BG R.n (R.asks.take k) (ps.take k) t)
 st:∀(k:Nat)(h1:k<R.asks.length)(h2:k<ps.length)(t:Nat),RB 4100 (sent R.n R.asks[k] ps[k] t)
 sm:∀t,CB ((R.asks.zip ps).map fun x=>sent R.n x.1 x.2 t)
theorem LB.all{R:Ring}{ps:List Rat}(h:LB R ps)(hl:ps.length=R.asks.length)(t:Nat):RB 4100 (BG R.n R.asks ps t):=by
 have:=h.ld R.asks.length t
 rwa [List.take_of_length_le (Nat.le_refl _),List.take_of_length_le (by omega)]at this
def zI(R:Ring)(q:Rat)(t j:Nat):Int:=if isOn R.n (sF R j) t then pI R q j else wI R q j-pI R q j
def ratB:D→Bool
 |.tup [.int i,.int j]=>decide (1≤j) && decide ((Int.gcd i j:Int)=1)
 |_=>false
theorem vk{d:D}(h:∀i j,d≠.tup [.int i,.int j]):ratB d=false:=by
 unfold ratB
 split
 ·
  rename_i i j
  exact absurd rfl (h i j)
 ·
  rfl
theorem zY{i j:Int}(hj:0<j):((Rat.divInt i j).num=i∧((Rat.divInt i j).den:Int)=j)↔(Int.gcd i j:Int)=1:=by
 have hn:=Rat.num_divInt i j
 have hd:=Rat.den_divInt i j
 constructor
 ·
  rintro⟨h1,h2⟩
  have hc:=(Rat.divInt i j).reduced
  unfold Nat.Coprime at hc
  rw[h1]at hc
  have:(Rat.divInt i j).den=j.natAbs:=by omega
  rw[this]at hc
  show((Nat.gcd i.natAbs j.natAbs:Nat):Int)=1
  rw[hc];rfl
 ·
  intro h
  have h1:Int.gcd i j=1:=by omega
  have e:Rat.divInt i j=(⟨i,j.natAbs,by omega,by unfold Nat.Coprime;exact h1⟩:Rat):=by
   rw[Rat.mk_eq_divInt]
   congr 1
   omega
  rw[e]
  exact⟨rfl,by show((j.natAbs:Nat):Int)=j;omega⟩
def pX(c:Nat):Bool:=pF "a" ⟨#[c]⟩ && pF ⟨#[c]⟩ "z"
def pY:D→Bool
 |.str x=>(decide (1≤x.cps.size) && decide (x.cps.size≤8)) && x.cps.toList.all pX
 |_=>false
def AscD(d:D):Prop:=∀x,d=.str x→x.cps.all (· < 128)=true∧x.cps.size<100
theorem xu(x:Str):x.length=x.cps.size:=by simp[Str.length]
mutual
def widD:D→Nat
 |.tup xs=>max xs.length (pZ xs)
 |.lst xs=>max xs.length (pZ xs)
 |_=>0
def pZ:List D→Nat
 |[]=>0
 |x::xs=>max (widD x) (pZ xs)
end
theorem rh{n:Nat}:∀{xs:List D},(∀x∈xs,widD x≤n)→pZ xs≤n
 |[],_=>Nat.zero_le _
 | y::ys,h=>by
  simp only[pZ]
  have:=h y List.mem_cons_self
  have:=rh (xs:=ys) fun x hx=>h x (List.mem_cons_of_mem _ hx)
  omega
theorem zZ(q:Rat):widD (frD q)=2:=by simp[frD,widD,pZ]
theorem xv(a:Ask):widD (askD a)=4:=by
 have:=zZ a.size
 simp[askD,widD,pZ,this]
theorem vm{as:List Ask}{n:Nat}(h:as.length≤n)(h2:4≤n):widD (.lst (as.map askD))≤n:=by
 simp only[widD,List.length_map]
 have:=rh (n:=4) (xs:=as.map askD) fun x hx=>by
  obtain⟨q,_,rfl⟩:=List.mem_map.mp hx
  rw[xv]
  exact Nat.le_refl _
 omega
structure SmD (n:Nat) (d:D):Prop where
 dep:depD d<n
 wid:widD d≤99
theorem SmD.mono{n m:Nat}{d:D}(h:SmD n d)(hm:n≤m):SmD m d:=⟨Nat.lt_of_lt_of_le h.dep hm,h.wid⟩
theorem z6(q:Rat):depD (frD q)=1:=by simp[frD,depD,pJ]
theorem xw(a:Ask):depD (askD a)=2:=by
 have:=z6 a.size
 simp[askD,depD,pJ,this]
theorem xx{xs:List D}{n:Nat}(h:∀x∈xs,depD x≤n):depD (.lst xs)≤n+1:=by
 simp only[depD]
 have:=qL h
 omega
theorem vn(as:List Ask):depD (.lst (as.map askD))≤3:=xx fun x hx=>by
 obtain⟨q,_,rfl⟩:=List.mem_map.mp hx
 rw[xw]
 exact Nat.le_refl _
theorem SmD.asks{as:List Ask}(h:as.length≤99):SmD 4 (.lst (as.map askD)):=⟨by have:=vn as;omega,vm h (by decide)⟩
mutual
theorem okD_mono:∀(n:Nat)(d:D),okD n d=true→okD (n+1) d=true
 |_,.non,_=>by simp[okD]
 |_,.bl _,_=>by simp[okD]
 |_,.int _,_=>by simp[okD]
 |_,.str x,h=>by simpa[okD]using h
 |0,.tup _,h=>by simp[okD]at h
 |0,.lst _,h=>by simp[okD]at h
 | n+1,.tup xs,h=>by
  simp only[okD]at h ⊢
  exact lh n xs h
 | n+1,.lst xs,h=>by
  simp only[okD]at h ⊢
  exact lh n xs h
 |_,.dct _,h=>by simp[okD]at h
 |_,.exc _ _ _,h=>by simp[okD]at h
 |_,.fn _ _,h=>by simp[okD]at h
theorem lh:∀(n:Nat)(ds:List D),okDs n ds=true→okDs (n+1) ds=true
 |_,[],_=>rfl
 | n,d::ds,h=>by
  simp only[okDs,Bool.and_eq_true]at h ⊢
  exact⟨okD_mono n d h.1,lh n ds h.2⟩
end
end My
set_option exponentiation.threshold 5000
namespace My
open PySem L2
end My
set_option exponentiation.threshold 5000
namespace My
open PySem L2
structure CF where
 k:Nat
 kw:Bool
 l:Nat
 lw:Bool
 am:Rat
def nsQ(R:Ring)(ps:List Rat)(k:Nat)(w:Bool):Rat:=if w then R.sz k-ps.getD k 0 else ps.getD k 0
def msQ(R:Ring)(ps:List Rat)(k:Nat)(kw:Bool)(l:Nat)(lw:Bool):Rat:=if nsQ R ps l lw<nsQ R ps k kw then nsQ R ps l lw else nsQ R ps k kw
def CG(n:Nat)(a:Ask)(aw:Bool)(b:Ask)(bw:Bool):Bool:=!((wayL n a aw).any fun t=>decide (t∈wayL n b bw))
end My
set_option exponentiation.threshold 5000
namespace My
open PySem L2
end My
set_option exponentiation.threshold 5000
namespace My
open PySem L2
def slB(R:Ring)(ps:List Rat)(s:CF):Bool:=!decide (s.k=s.l) && (CG R.n (sF R s.k) s.kw (sF R s.l) s.lw && (decide (0<s.am) && !decide (msQ R ps s.k s.kw s.l s.lw<s.am)))
end My
set_option exponentiation.threshold 5000
namespace My
open PySem L2
end My
set_option exponentiation.threshold 5000
namespace My
open PySem L2
structure Pt (n:Nat) (d:D):Prop where
 dep:depD d≤n
 wid:widD d≤99
 same:uU (20+n) d=true
theorem Pt.int(i:Int):Pt 0 (.int i):=⟨by simp[depD],by simp[widD],by simp[uU]⟩
end My
set_option exponentiation.threshold 5000
namespace My
open PySem L2
def C1:D→Option Nat
 |.int i=>if 0≤i then some i.toNat else none
 |_=>none
theorem xy(q:Rat):ratB (frD q)=true:=by
 unfold frD ratB
 have h1:=q.den_pos
 have h2:=q.reduced
 unfold Nat.Coprime at h2
 rw[Bool.and_eq_true,decide_eq_true_eq,decide_eq_true_eq]
 refine⟨by omega,?_⟩
 show((Nat.gcd q.num.natAbs ((q.den:Int)).natAbs:Nat):Int)=1
 rw[Int.natAbs_natCast,h2]
 rfl
def gv(d:D)(n:Int):Bool:=match d with
 |.int i=>decide (0≤i∧i<n)
 |_=>false
def rmB:D→Bool
 |.tup [.int i,.int j]=>ratB (.tup [.int i,.int j]) && decide (0<i)
 |_=>false
theorem BN{d:D}(h:∀i j,d≠.tup [.int i,.int j]):rmB d=false:=by
 unfold rmB
 split
 ·
  exact absurd rfl (h _ _)
 ·
  rfl
def NR(p:Str)(n:D):Xc:=⟨"NoRing",["part","number"],[.str p,n]⟩
def optN:Option Nat→D
 |none=>.non
 |some i=>.int i
def bc:D→Option (Option Nat)
 |.lst rs=>if 2≤rs.length∧rs.length≤12 then(rs.findIdx? fun r=>!rmB r).map some else some none
 |_=>some none
def posB:D→Bool
 |.tup (.int i::_)=>decide (0≤i)
 |_=>false
def askB(n:Int):D→Bool
 |.tup [a,b,c,s]=>pY a && ratB s && (gv b n && gv c n) && (!(eqD b c) && posB s)
 |_=>false
def nmOf:D→Str
 |.tup (.str x::_)=>x
 |_=>""
def hZ(n:Int):List D→List Str→Nat→Option Nat
 |[],_,_=>none
 |a::r,tk,i=>if askB n a=true∧nmOf a∉tk then hZ n r (nmOf a::tk) (i+1)else some i
def lj(n:Int):D→Option (Option Nat)
 |.lst as=>(hZ n as [] 0).map some
 |_=>some none
def iZ(n:Int):D→Option (Option Nat)
 |.lst as=>if 20<as.length then some none else lj n (.lst as)
 |d=>lj n d
def lenD:D→Int
 |.lst xs=>(xs.length:Int)
 |_=>0
def jv:D→Option (Str×Option Nat)
 | .tup [r,a]=>match bc r with
  |some k=>some ("rooms",k)
  |none=>(iZ (lenD r) a).map fun k=>("asks",k)
 |_=>some ("ring",none)
def AskA(d:D):Prop:=∀xs,d=.tup xs→∀a,xs[0]?=some a→AscD a
def xA(d:D):Prop:=∀as,d=.lst as→as.length≤1000∧∀a∈as,AskA a
theorem CH(n:Int)(a b c s:D):askB n (.tup [a,b,c,s])=(pY a && ratB s && (gv b n && gv c n) && (!(eqD b c) && posB s)):=rfl
theorem rj{d:D}{n:Int}(h:gv d n=true):∃i,d=.int i:=by
 cases d with
 |int i=>exact⟨i,rfl⟩
 |_=>cases h
theorem z7{n:Int}{d:D}(h:askB n d=true):∃x i j s,d=.tup [.str x,.int i,.int j,s]∧pY (.str x)=true∧ratB s=true:=by
 unfold askB at h
 split at h
 ·
  rename_i a b c s
  simp only[Bool.and_eq_true]at h
  obtain⟨⟨⟨h1,h2⟩,h3,h4⟩,_⟩:=h
  have e1:∃x,a=.str x:=by
   cases a with
   |str x=>exact⟨x,rfl⟩
   |_=>cases h1
  have e2:∃i,b=.int i:=by
   cases b with
   |int i=>exact⟨i,rfl⟩
   |_=>cases h3
  have e3:∃i,c=.int i:=by
   cases c with
   |int i=>exact⟨i,rfl⟩
   |_=>cases h4
  obtain⟨x,rfl⟩:=e1
  obtain⟨i,rfl⟩:=e2
  obtain⟨j,rfl⟩:=e3
  exact⟨x,i,j,s,rfl,h1,h2⟩
 ·
  cases h
theorem mY{d:D}(h:ratB d=true):∃i j,d=.tup [.int i,.int j]:=by
 unfold ratB at h
 split at h
 ·
  exact⟨_,_,rfl⟩
 ·
  cases h
theorem BO{q:Rat}(h:0<q):rmB (frD q)=true:=by
 show(ratB (frD q) && decide (0<q.num))=true
 rw[xy,Bool.true_and]
 have h0:=Rat.num_nonneg.mpr (Rat.le_of_lt h)
 have h1:q.num≠0:=fun z=>by
  have:q=0:=Rat.num_eq_zero.mp z
  rw[this]at h
  exact absurd h (by decide)
 exact decide_eq_true (by omega)
theorem mZ{qs:List Rat}(h:∀q∈qs,0<q)(h1:2≤qs.length)(h2:qs.length≤12):bc (.lst (qs.map frD))=none:=by
 unfold bc
 dsimp only
 rw[if_pos (by rw[List.length_map];exact⟨h1,h2⟩)]
 have e:(qs.map frD).findIdx? (fun r=>!rmB r)=none:=by
  rw[List.findIdx?_eq_none_iff]
  intro x hx
  obtain⟨q,hq,rfl⟩:=List.mem_map.mp hx
  rw[BO (h q hq)]
  rfl
 rw[e]
 rfl
def sG(i:Nat)(xs:List D):List D:=(xs.zipIdx i).map fun p=>.tup [.int (p.2:Int),p.1]
theorem jw(xs:List D):lP xs=sG 0 xs:=rfl
theorem jx(i:Nat)(x:D)(xs:List D):sG i (x::xs)=.tup [.int (i:Int),x]::sG (i+1) xs:=rfl
theorem jy{g:Tg}{b:W Fl}{x:D}{xs:List D}{ρ:Ev}{post:Fl→Ev→Prop}:fU g b (x::xs) ρ post=g x ρ fun ρ1=>b ρ1 fun f ρ2=>match f with
  |.nx=>fU g b xs ρ2 post
  |.ct=>fU g b xs ρ2 post
  |.bk=>post .nx ρ2
  |.rt r=>post (.rt r) ρ2:=rfl
def dkv(zs:List Str):List (Key×D):=zs.map fun x=>(.inr x,.bl true)
theorem rk{x:Str}:∀zs:List Str,(valD (dkv zs) (.inr x)).isSome=decide (x∈zs)
 |[]=>by simp[dkv,valD]
 | z::zs=>by
  have ih:=rk (x:=x) zs
  unfold dkv at ih ⊢
  rw[List.map_cons]
  unfold valD
  by_cases e:z=x
  ·
   subst e;simp
  ·
   have e1:¬((Sum.inr z:Key)=.inr x):=fun q=>e (Sum.inr.inj q)
   simp only[e1,if_false,List.mem_cons,show(x=z)=False from by simp[Ne.symm e],false_or]
   exact ih
theorem xB{x:Str}{zs:List Str}(h:x∉zs):putD (dkv zs) (.inr x) (.bl true)=dkv (zs++[x]):=by
 unfold putD
 have e:((dkv zs).any fun p=>decide (p.1=.inr x))=false:=by
  rw[List.any_eq_false]
  intro p hp
  obtain⟨z,hz,rfl⟩:=List.mem_map.mp hp
  simp only[decide_eq_true_eq]
  intro q
  exact h (by rw[← Sum.inr.inj q];exact hz)
 rw[e]
 simp[dkv]
theorem z8(zs:List Str):(dkv zs).length=zs.length:=by simp[dkv]
theorem oj{n:Int}:∀(as:List D)(t1 t2:List Str)(i:Nat),(∀x,x∈t1↔x∈t2)→hZ n as t1 i=hZ n as t2 i
 |[],_,_,_,_=>rfl
 | a::as,t1,t2,i,h=>by
  have e:=oj (n:=n) as (nmOf a::t1) (nmOf a::t2) (i+1) fun x=>by rw[List.mem_cons,List.mem_cons,h]
  simp only[hZ,e,h]
structure xW (R:Ring):Prop where
 ok:R.Ok
 hi:R.n≤12
 few:R.asks.length≤20
 nms:(∀a∈R.asks,NmOk a.nm)∧(R.asks.map (·.nm)).Nodup
 tt:∀a∈R.asks,RB 60 a.size
theorem xW.all{R:Ring}(h:xW R):∀a∈R.asks,BB R.rooms.length a∧NmOk a.nm∧RB 60 a.size:=fun a ha=>⟨h.ok.ask a ha,h.nms.1 a ha,h.tt a ha⟩
def ElL(xs:List D):Prop:=∀x∈xs,x=.non∨∃w,x=.str (wayS w)
theorem ElL.ok{xs:List D}(h:ElL xs):okD 1 (.lst xs)=true:=by
 simp only[okD]
 have:=q8 (f:=id) (n:=0) xs fun x hx=>by
  rcases h x hx with rfl|⟨w,rfl⟩
  ·
   rfl
  ·
   cases w<;>decide +kernel
 rwa [List.map_id]at this
def p5(xs:List D)(i:Nat):Nat:=match xs[i]? with
 |some (.tup (.lst rs::_))=>rs.length
 |_=>0
def ed(xs:List D):D→Bool
 |.tup [.int i,.int j]=>decide (0≤i∧i<(xs.length:Int)∧0≤j∧j<(p5 xs i.toNat:Int)∧(j≠0∨i=0))
 |_=>false
theorem gw{xs:List D}{d:D}(h:∀i j,d≠.tup [.int i,.int j]):ed xs d=false:=by
 unfold ed
 split
 ·
  exact absurd rfl (h _ _)
 ·
  rfl
theorem jz(xs:List D)(i j:Int):ed xs (.tup [.int i,.int j])=decide (0≤i∧i<(xs.length:Int)∧0≤j∧j<(p5 xs i.toNat:Int)∧(j≠0∨i=0)):=rfl
def Hung(xs:List D):Prop:=∀x∈xs,∃rs b,x=.tup [.lst rs,b]
theorem Hung.at_{xs:List D}(h:Hung xs){i:Nat}(hi:i<xs.length):∃rs b,xs[i]?=some (.tup [.lst rs,b])∧p5 xs i=rs.length:=by
 obtain⟨rs,b,e⟩:=h _ (List.getElem_mem hi)
 have e2:xs[i]?=some (.tup [.lst rs,b]):=by rw[List.getElem?_eq_getElem hi,e]
 exact⟨rs,b,e2,by unfold p5;rw[e2]⟩
def om:D→Bool
 |.non=>true
 |_=>false
def jA(xs:List D):D→Bool
 |.tup [r,p]=>(bc r).isNone && (if xs.isEmpty then om p else ed xs p)
 |_=>false
theorem rn{xs:List D}{d:D}(h:jA xs d=true):∃rs b,d=.tup [.lst rs,b]:=by
 unfold jA at h
 split at h
 ·
  rename_i r p
  simp only[Bool.and_eq_true]at h
  have h1:=h.1
  cases r with
  |lst rs=>exact⟨rs,p,rfl⟩
  |_=>cases h1
 ·
  cases h
def bX(pre:List D):List D→Option Nat
 |[]=>none
 |x::r=>if jA pre x=true then bX (pre++[x]) r else some pre.length
def eY:D→Option (Option Nat)
 |.lst xs=>if 1≤xs.length∧xs.length≤6 then(bX [] xs).map some else some none
 |_=>some none
def NS(n:D):Xc:=⟨"NoString",["number"],[n]⟩
def gy(d:D):List D:=match eY d with
 |none=>[]
 |some k=>[optN k]
mutual
theorem ou:∀{n:Nat}{d:D},okD n d=true→okW d=true
 |_,.non,_=>rfl
 |_,.bl _,_=>rfl
 |_,.int _,_=>rfl
 |0,.str x,h=>by simpa only[okD,okW]using h
 |_+1,.str x,h=>by simpa only[okD,okW]using h
 |0,.tup _,h=>by simp[okD]at h
 |0,.lst _,h=>by simp[okD]at h
 | n+1,.tup xs,h=>by
  simp only[okD]at h
  simp only[okW]
  exact p6 h
 | n+1,.lst xs,h=>by
  simp only[okD]at h
  simp only[okW]
  exact p6 h
 |0,.dct _,h=>by simp[okD]at h
 |0,.exc _ _ _,h=>by simp[okD]at h
 |0,.fn _ _,h=>by simp[okD]at h
 |_+1,.dct _,h=>by simp[okD]at h
 |_+1,.exc _ _ _,h=>by simp[okD]at h
 |_+1,.fn _ _,h=>by simp[okD]at h
theorem p6:∀{n:Nat}{ds:List D},okDs n ds=true→okWs ds=true
 |_,[],_=>rfl
 | n,d::ds,h=>by
  simp only[okDs,Bool.and_eq_true]at h
  simp only[okWs,ou h.1,p6 h.2,Bool.and_self]
end
structure PG (y:D):Prop where
 ok:okD 4 y=true
 sh:a0 y=true
 sg:sgnD y≤200000
 ln:∀rs,y=.lst rs→rs.length≤1000
structure GI (x:D):Prop where
 ok:okD 6 x=true
 sh:a0 x=true
 sg:sgnD x≤700000
 ln:∀ys,x=.tup ys→∀y∈ys,∀rs,y=.lst rs→rs.length≤1000
structure SOk (d:D):Prop where
 rp:RepW d
 it:∀xs,d=.lst xs→xs.length≤19∧∀x∈xs,GI x
theorem eZ{n:Nat}:∀{ds:List D},(∀d∈ds,okD n d=true)→okDs n ds=true
 |[],_=>rfl
 |d::ds,h=>by simp only[okDs,h d List.mem_cons_self,eZ fun x hx=>h x (List.mem_cons_of_mem _ hx),Bool.and_self]
theorem cZ:∀{ds:List D},(∀d∈ds,a0 d=true)→bA ds=true
 |[],_=>rfl
 |d::ds,h=>by simp only[bA,h d List.mem_cons_self,cZ fun x hx=>h x (List.mem_cons_of_mem _ hx),Bool.and_self]
theorem fb{n:Nat}:∀{ds:List D},(∀d∈ds,sgnD d≤n)→jt ds≤(n+2)*ds.length
 |[],_=>Nat.le_refl _
 | d::ds,h=>by
  have h1:=h d List.mem_cons_self
  have h2:=fb fun x hx=>h x (List.mem_cons_of_mem _ hx)
  simp only[jt,List.length_cons,Nat.mul_add,Nat.mul_one]
  omega
theorem PG.two{ys:List D}(h:∀y∈ys,PG y)(hl:ys.length≤3):GI (.tup ys)∧GI (.lst ys):=by
 have e1:okDs 5 ys=true:=eZ fun d hd=>L2.okD_mono d (by decide) (h d hd).ok
 have e2:bA ys=true:=cZ fun d hd=>(h d hd).sh
 have e3:jt ys≤200002*ys.length:=fb fun d hd=>(h d hd).sg
 refine⟨⟨by simpa only[okD]using e1,by simpa only[a0]using e2,by simp only[sgnD];omega,fun zs e y hy=>?_⟩,⟨by simpa only[okD]using e1,by simpa only[a0]using e2,by simp only[sgnD];omega,fun zs e=>by cases e⟩⟩
 cases e
 exact(h y hy).ln
theorem PG.gi{y:D}(h:PG y)(ht:∀ys,y≠.tup ys):GI y:=⟨L2.okD_mono y (by decide) h.ok,h.sh,by have:=h.sg;omega,fun ys e=>absurd e (ht ys)⟩
theorem SOk.lst{xs:List D}(h:∀x∈xs,GI x)(hl:xs.length≤19):SOk (.lst xs):=by
 have e1:okD 7 (.lst xs)=true:=by simp only[okD];exact eZ fun d hd=>(h d hd).ok
 have e2:bA xs=true:=cZ fun d hd=>(h d hd).sh
 have e3:jt xs≤700002*xs.length:=fb fun d hd=>(h d hd).sg
 refine⟨⟨ou e1,by simpa only[a0]using e2,Nat.le_trans (gp 7 _ e1).2 (by decide),by simp only[sgnD];omega⟩,fun ys e=>?_⟩
 cases e
 exact⟨hl,h⟩
def plD:Option (Nat×Nat)→D
 |none=>.non
 |some c=>.tup [.int (c.1:Int),.int (c.2:Int)]
def itD(x:List Rat×Option (Nat×Nat)):D:=.tup [.lst (x.1.map frD),plD x.2]
structure RmOk (qs:List Rat):Prop where
 lo:2≤qs.length
 hi:qs.length≤12
 q:∀q∈qs,0<q∧RB 60 q
structure fV (S:List (List Rat×Option (Nat×Nat))):Prop where
 rm:∀x∈S,RmOk x.1
 at0:∀x,S[0]?=some x→x.2=none
 at1:∀k x,0<k→S[k]?=some x→∃i j y,x.2=some (i,j)∧i<k∧S[i]?=some y∧j<y.1.length∧(j≠0∨i=0)
theorem xX(S:List (List Rat×Option (Nat×Nat))):Hung (S.map itD):=fun x hx=>by
 obtain⟨y,_,rfl⟩:=List.mem_map.mp hx
 exact⟨_,_,rfl⟩
theorem z9{S:List (List Rat×Option (Nat×Nat))}{i:Nat}{y:List Rat×Option (Nat×Nat)}(h:S[i]?=some y):p5 (S.map itD) i=y.1.length:=by
 unfold p5
 rw[List.getElem?_map,h]
 simp[itD]
theorem fV.nil:fV []:=⟨(fun x hx=>by cases hx),(fun x hx=>by simp at hx),fun k x _ hx=>by simp at hx⟩
theorem fV.snoc{S:List (List Rat×Option (Nat×Nat))}{qs:List Rat}{p:Option (Nat×Nat)}(h:fV S)(hq:RmOk qs)(h0:S.length=0→p=none)(h1:0<S.length→∃i j y,p=some (i,j)∧S[i]?=some y∧j<y.1.length∧(j≠0∨i=0)):fV (S++[(qs,p)]):=by
 refine⟨fun x hx=>?_,fun x hx=>?_,fun k x hk hx=>?_⟩
 ·
  rcases List.mem_append.mp hx with hx|hx
  ·
   exact h.rm x hx
  ·
   rw[List.mem_singleton.mp hx];exact hq
 ·
  cases S with
  |nil=>simp at hx;subst hx;exact h0 rfl
  |cons y S=>exact h.at0 x (by simpa using hx)
 ·
  have get:∀i y,S[i]?=some y→(S++[(qs,p)])[i]?=some y:=fun i y e=>by
   rw[List.getElem?_append_left (List.getElem?_eq_some_iff.mp e).1];exact e
  by_cases c:k<S.length
  ·
   rw[List.getElem?_append_left c]at hx
   obtain⟨i,j,y,e1,e2,e3,e4⟩:=h.at1 k x hk hx
   exact⟨i,j,y,e1,e2,get i y e3,e4⟩
  ·
   have hk':k<(S++[(qs,p)]).length:=(List.getElem?_eq_some_iff.mp hx).1
   rw[List.length_append,List.length_singleton]at hk'
   have e:k=S.length:=by omega
   subst e
   rw[List.getElem?_append_right (Nat.le_refl _)]at hx
   simp at hx
   subst hx
   obtain⟨i,j,y,e1,e3,e4⟩:=h1 hk
   exact⟨i,j,y,e1,(List.getElem?_eq_some_iff.mp e3).1,get i y e3,e4⟩
theorem j5:∀(suf pre:List (List Rat×Option (Nat×Nat))),fV (pre++suf)→bX (pre.map itD) (suf.map itD)=none
 |[],pre,_=>rfl
 | x::suf,pre,h=>by
  have hx:(pre++x::suf)[pre.length]?=some x:=by rw[List.getElem?_append_right (Nat.le_refl _)];simp
  have hr:=h.rm x (by simp)
  have e1:(bc (.lst (x.1.map frD))).isNone=true:=by rw[mZ (fun q hq=>(hr.q q hq).1) hr.lo hr.hi];rfl
  have eb:jA (pre.map itD) (itD x)=true:=by
   show((bc (.lst (x.1.map frD))).isNone && (if(pre.map itD).isEmpty then om (plD x.2)else ed (pre.map itD) (plD x.2)))=true
   rw[e1,Bool.true_and]
   cases hp:pre with
   | nil =>
    subst hp
    rw[h.at0 x hx]
    rfl
   | cons y ys =>
    obtain⟨i,j,z,a1,a2,a3,a4,a5⟩:=h.at1 pre.length x (by rw[hp];simp) hx
    have a3':pre[i]?=some z:=by rw[List.getElem?_append_left a2]at a3;exact a3
    rw[← hp,if_neg (by rw[hp];simp),a1]
    show ed (pre.map itD) (.tup [.int (i:Int),.int (j:Int)])=true
    rw[jz,Int.toNat_natCast,z9 a3',List.length_map]
    exact decide_eq_true (by omega)
  have e:bX (pre.map itD) ((x::suf).map itD)=if jA (pre.map itD) (itD x)=true then bX (pre.map itD++[itD x]) (suf.map itD)else some (pre.map itD).length:=rfl
  rw[e,if_pos eb]
  have:=j5 suf (pre++[x]) (by rw[List.append_assoc];exact h)
  rw[List.map_append]at this
  exact this
theorem p7{S:List (List Rat×Option (Nat×Nat))}(h:fV S)(h1:1≤S.length)(h2:S.length≤6):eY (.lst (S.map itD))=none:=by
 unfold eY
 dsimp only
 rw[if_pos (by rw[List.length_map];exact⟨h1,h2⟩)]
 have:=j5 S [] h
 rw[List.map_nil]at this
 rw[this]
 rfl
theorem vo{q:Rat}(h:RB 60 q):a0 (frD q)=true:=by
 have h1:q.num.natAbs<2^1900:=Nat.lt_of_lt_of_le h.1 (Nat.pow_le_pow_right (by decide) (by decide))
 have h2:((q.den:Int)).natAbs<2^1900:=by rw[Int.natAbs_natCast];exact Nat.lt_of_lt_of_le h.2 (Nat.pow_le_pow_right (by decide) (by decide))
 simp only[frD,a0,bA,decide_eq_true h1,decide_eq_true h2,Bool.and_self]
theorem Aa(q:Rat):sgnD (frD q)=1211:=rfl
theorem PG.rooms{rs:List D}(h:∀r∈rs,okD 3 r=true∧a0 r=true∧sgnD r≤1300)(hl:rs.length≤150):PG (.lst rs)∧PG (.tup rs):=by
 have e1:okDs 3 rs=true:=eZ fun d hd=>(h d hd).1
 have e2:bA rs=true:=cZ fun d hd=>(h d hd).2.1
 have e3:jt rs≤1302*rs.length:=fb fun d hd=>(h d hd).2.2
 refine⟨⟨by simpa only[okD]using e1,by simpa only[a0]using e2,by simp only[sgnD];omega,fun ys e=>?_⟩,⟨by simpa only[okD]using e1,by simpa only[a0]using e2,by simp only[sgnD];omega,fun ys e=>by cases e⟩⟩
 cases e
 omega
theorem i0{q:Rat}(h:RB 60 q):okD 3 (frD q)=true∧a0 (frD q)=true∧sgnD (frD q)≤1300:=⟨BC 2 q,vo h,by rw[Aa];decide⟩
theorem PG.place{p:Option (Nat×Nat)}(h:∀i j,p=some (i,j)→i<100∧j<100):PG (plD p):=by
 cases p with
 |none=>exact⟨rfl,rfl,by decide,fun rs e=>by cases e⟩
 | some c =>
  obtain⟨h1,h2⟩:=h c.1 c.2 rfl
  have b1:((c.1:Int)).natAbs<2^1900:=by rw[Int.natAbs_natCast];exact Nat.lt_trans h1 (by decide)
  have b2:((c.2:Int)).natAbs<2^1900:=by rw[Int.natAbs_natCast];exact Nat.lt_trans h2 (by decide)
  exact⟨rfl,by simp only[plD,a0,bA,decide_eq_true b1,decide_eq_true b2,Bool.and_self],by simp only[plD,sgnD,jt];decide,fun rs e=>by cases e⟩
theorem fV.pl{S:List (List Rat×Option (Nat×Nat))}(h:fV S)(h2:S.length≤6){x:List Rat×Option (Nat×Nat)}(hx:x∈S):PG (.lst (x.1.map frD))∧PG (plD x.2):=by
 have hr:=h.rm x hx
 refine⟨(PG.rooms (fun r hr'=>?_) (by rw[List.length_map];have:=hr.hi;omega)).1,PG.place fun i j e=>?_⟩
 ·
  obtain⟨q,hq,rfl⟩:=List.mem_map.mp hr'
  exact i0 (hr.q q hq).2
 ·
  obtain⟨k,hk,e2⟩:=List.mem_iff_getElem.mp hx
  have e3:S[k]?=some x:=by rw[List.getElem?_eq_getElem hk,e2]
  by_cases k0:k=0
  ·
   subst k0
   rw[h.at0 x e3]at e
   cases e
  ·
   obtain⟨i',j',y,a1,a2,a3,a4,a5⟩:=h.at1 k x (by omega) e3
   rw[a1]at e
   cases e
   have:=(h.rm y (List.mem_of_getElem? a3)).hi
   exact⟨by omega,by omega⟩
theorem fV.gi{S:List (List Rat×Option (Nat×Nat))}(h:fV S)(h2:S.length≤6):∀x∈S.map itD,GI x:=fun x hx=>by
 obtain⟨y,hy,rfl⟩:=List.mem_map.mp hx
 obtain⟨p1,p2⟩:=h.pl h2 hy
 exact(PG.two (ys:=[.lst (y.1.map frD),plD y.2]) (by simp[p1,p2]) (by simp)).1
theorem ll{xs:List D}{i:Int}(h0:0≤i)(h1:i<(xs.length:Int)):∃v,atI xs i=some v∧v∈xs:=by
 have hi:i.toNat<xs.length:=by omega
 exact⟨xs[i.toNat],qX h0 (List.getElem?_eq_getElem hi),List.getElem_mem hi⟩
theorem GI.put{xs:List D}{x:D}{k:Nat}(h:∀y∈xs,GI y)(hx:GI x)(hl:xs.length≤10):SOk (.lst (xs.take k++[x]++xs.drop (k+1))):=by
 refine SOk.lst (fun y hy=>?_) ?_
 ·
  rcases List.mem_append.mp hy with hy|hy
  ·
   rcases List.mem_append.mp hy with hy|hy
   ·
    exact h y (List.mem_of_mem_take hy)
   ·
    rw[List.mem_singleton.mp hy];exact hx
  ·
   exact h y (List.mem_of_mem_drop hy)
 ·
  rw[List.length_append,List.length_append,List.length_take,List.length_drop,List.length_singleton]
  omega
theorem GI.drop{xs:List D}{k:Nat}(h:∀y∈xs,GI y)(hl:xs.length≤10):SOk (.lst (xs.take k++xs.drop (k+1))):=by
 refine SOk.lst (fun y hy=>?_) ?_
 ·
  rcases List.mem_append.mp hy with hy|hy
  ·
   exact h y (List.mem_of_mem_take hy)
  ·
   exact h y (List.mem_of_mem_drop hy)
 ·
  rw[List.length_append,List.length_take,List.length_drop]
  omega
theorem jB(xs:List D)(k:Nat):cutD xs none (some (k:Int))=xs.take k:=by
 have:¬((k:Int)<0):=by omega
 unfold cutD
 simp[HT.sIx,this]
theorem i1(xs:List D)(k:Nat):cutD xs (some (k:Int)) none=xs.drop k:=by
 have:¬((k:Int)<0):=by omega
 unfold cutD
 simp[HT.sIx,this]
 by_cases h:k≤xs.length
 ·
  rw[Nat.min_eq_left h]
  exact List.take_of_length_le (by rw[List.length_drop];exact Nat.le_refl _)
 ·
  rw[Nat.min_eq_right (by omega),List.drop_eq_nil_of_le (Nat.le_refl _),List.drop_eq_nil_of_le (by omega),List.take_nil]
theorem PG.non:PG .non:=⟨rfl,rfl,by decide,fun rs e=>by cases e⟩
theorem PG.bl(b:Bool):PG (.bl b):=⟨rfl,rfl,by simp only[sgnD];decide,fun rs e=>by cases e⟩
theorem PG.int{i:Int}(h:i.natAbs<2^60):PG (.int i):=⟨rfl,by simp only[a0];exact decide_eq_true (Nat.lt_of_lt_of_le h (Nat.pow_le_pow_right (by decide) (by decide))),by simp only[sgnD];decide,fun rs e=>by cases e⟩
theorem PG.small{ys:List D}(h:∀y∈ys,okD 2 y=true∧a0 y=true∧sgnD y≤1300)(hl:ys.length≤150):PG (.lst ys)∧PG (.tup ys):=PG.rooms (fun r hr=>⟨L2.okD_mono r (by decide) (h r hr).1,(h r hr).2⟩) hl
theorem xY{i:Int}(h:i.natAbs<2^60):okD 2 (.int i)=true∧a0 (.int i)=true∧sgnD (.int i)≤1300:=⟨rfl,(PG.int h).sh,by simp only[sgnD];decide⟩
theorem SOk.of{d:D}(h:PG d)(hn:∀xs,d≠.lst xs):SOk d:=⟨⟨ou h.ok,h.sh,Nat.le_trans (gp 4 _ h.ok).2 (by decide),Nat.le_trans h.sg (by decide)⟩,fun xs e=>absurd e (hn xs)⟩
theorem GI.rep{x:D}(h:GI x):RepW x:=⟨ou h.ok,h.sh,Nat.le_trans (gp 6 _ h.ok).2 (by decide),Nat.le_trans h.sg (by decide)⟩
theorem SOk.tup{xs:List D}(h:∀x∈xs,GI x)(hl:xs.length≤10):SOk (.tup xs):=by
 have e1:okD 7 (.tup xs)=true:=by simp only[okD];exact eZ fun d hd=>(h d hd).ok
 have e2:bA xs=true:=cZ fun d hd=>(h d hd).sh
 have e3:jt xs≤700002*xs.length:=fb fun d hd=>(h d hd).sg
 exact⟨⟨ou e1,by simpa only[a0]using e2,Nat.le_trans (gp 7 _ e1).2 (by decide),by simp only[sgnD];omega⟩,fun ys e=>by cases e⟩
theorem gz{n:Nat}(h:n≤1000):n≤sizeLine:=Nat.le_trans h (by decide)
theorem vp{S:List (List Rat×Option (Nat×Nat))}{i:Nat}(h:i<S.length):atI (S.map itD) (i:Int)=some (.tup [.lst (S[i].1.map frD),plD S[i].2]):=dD (by rw[List.getElem?_map,List.getElem?_eq_getElem h];rfl)
end My
set_option exponentiation.threshold 1000
namespace Hd
open PySem PySem.W PyProof.Rows
abbrev pr:Program:=PySem.Challenge.pw_ringloads_k68_what_is_a_string
def top(i:Nat):Stmt:=pr.main.body.getD i (.Pass ⟨0,0,0,0⟩)
def inCls(st:Stmt)(j:Nat):Stmt:=match st with
 |.ClassDef _ _ _ b ..=>b.getD j (.Pass ⟨0,0,0,0⟩)
 |_=>.Pass ⟨0,0,0,0⟩
def vq(s:Stmt):Str:=match s with
 |.FunctionDef n ..=>n
 |_=>""
def BP(s:Stmt):Arguments:=match s with
 |.FunctionDef _ a _ _ _ _ _ _ _ _=>a
 |_=>{posonlyargs:=[],args:=[],vararg:=none,kwonlyargs:=[],kw_defaults:=[],kwarg:=none,defaults:=[] }
def CI(s:Stmt):List Stmt:=match s with
 |.FunctionDef _ _ b _ _ _ _ _ _ _=>b
 |_=>[]
def BQ(s:Stmt):Scope:=match s with
 |.FunctionDef _ _ _ _ _ _ sc _ _ _=>sc
 |_=>{kind:=.function,names:=[],isGenerator:=false,isCoroutine:=false}
def dPos(s:Stmt):Pos:=match s with
 |.FunctionDef _ _ _ _ _ _ _ _ _ p=>p
 |_=>⟨0,0,0,0⟩
def fdOf (st:Stmt) (q:Str) (g:Addr) (md cd:Value):FuncData:={ name:=vq st,qualname:=q,params:=BP st,body:=.stmts (CI st),scope:=BQ st,globals:=g,closure:=[],defaults:=.none,kwdefaults:=.none,doc:=.none,pyModule:=md,annotations:=none,code:=cd,closureTuple:=.none,builtins:=0 }
noncomputable def kh(P:Params)(x:Str):Int:=PySem.PyData.keyHash P x
def tupO(vs:List Value):Obj:=⟨.type "tuple",none,.seq vs.toArray 0,#[]⟩
def fldO(vs:List Value):Obj:=⟨.none,none,.fields vs.toArray,#[]⟩
def numb:Nat→List Str→List Value
 |_,[]=>[]
 |t,x::r=>.str x t::numb (t+1) r
noncomputable def BR(st:Stmt)(a t:Nat)(v1 v2:Value)(tm u:Nat):Obj:=⟨.type "code",none,.fields #[.str (vq st) t,.str (vq st) (t+1),.str "/claim/cut.py" (t+2),.int (dPos st).line 0,.int (BP st).args.length 0,.int 0 0,.int 0 0,.int 3 0,.ref a,.bool true,.int 181 0,.ref (a+1),.none,v1,v2,.ref tm,.int u 0,.int (dPos st).line 0,.str "/claim/cut.py" (u+1)],#[]⟩
def fnO(st:Stmt)(md:Value)(cd:Nat):Obj:=⟨.type "function",none,.func (fdOf st (vq st) 3 md (.ref cd)),#[]⟩
def tmO(st:Stmt):Obj:=⟨.none,none,.func (fdOf st (vq st) 0 .none .none),#[]⟩
noncomputable def c8(st:Stmt)(a t:Nat)(vs:List Str)(md:Value):List Obj:=[tupO [],fldO [],tupO (numb (t+3) vs),tupO [],tmO st,BR st a t (.ref (a+2)) (.ref (a+3)) (a+4) (t+3+vs.length),fnO st md (a+5)]
noncomputable def Ab(st:Stmt)(a t:Nat)(md:Value):List Obj:=[tupO [],fldO [],tmO st,BR st a t .none .none (a+2) (t+3),fnO st md (a+3)]
noncomputable def m3 (P:Params) (nm:Value) (es:List DictEntry) (n:Nat):Obj:=⟨.type "dict",none,.dict (([⟨kh P "__name__",.str "__name__" 165,nm⟩,⟨kh P "__doc__",.str "__doc__" 166,.none⟩,⟨kh P "__package__",.str "__package__" 167,.none⟩,⟨kh P "__loader__",.str "__loader__" 168,.builtin "__main__.__loader__#opaque"⟩,⟨kh P "__spec__",.str "__spec__" 169,.none⟩,⟨kh P "__annotations__",.str "__annotations__" 170,.ref 6⟩,⟨kh P "__builtins__",.str "__builtins__" 171,.ref 4⟩,⟨kh P "__file__",.str "__file__" 173,.str "/claim/cut.py" 172⟩,⟨kh P "__cached__",.str "__cached__" 174,.none⟩]:List DictEntry)++es).toArray n,#[]⟩
noncomputable def modO:Obj:=⟨.type "code",none,.fields #[.str "<module>" 182,.str "<module>" 183,.str "/claim/cut.py" 184,.int 1 0,.int 0 0,.int 0 0,.int 0 0,.int 0 0,.ref 11,.bool false,.int 181 0,.ref 12,.none,.none,.none,.none,.int 185 0,.int 1 0,.str "/claim/cut.py" 186],#[]⟩
noncomputable def frmO:Obj:=⟨.type "frame",none,.plain,#[some (.ref 13),some (.ref 3),some (.ref 3),none,some (.str "__main__" 164),none,some (.ref 0)]⟩
noncomputable def Ac(P:Params):List Obj:=[boot_o_0 P,boot_o_1 P,boot_o_2 P,boot_o_3 P,boot_o_4 P,boot_o_5 P,boot_o_6 P,boot_o_7 P,boot_o_8 P,boot_o_9 P,boot_o_10 P,tupO [],fldO [],modO,frmO]
def jC:Life:=⟨[],[],[],0,[],[],false,#[],[],0,false,false,false,0,[2000,10,10],false,0,true,[],[],0,false⟩
noncomputable def CJ(l:List (Nat×Obj))(b:Nat):Option Obj:=@List.rec (Nat×Obj) (fun _=>Option Obj) none (fun x _ ih=>bif Nat.beq x.1 b then some x.2 else ih) l
noncomputable def BS(P:Params)(ob:Params→Nat→Obj)(b:Nat):Obj:=bif b.blt 15 then(Ac P).getD b default else ob P b
noncomputable def memN(l:List Nat)(b:Nat):Bool:=@List.rec Nat (fun _=>Bool) false (fun x _ ih=>@Bool.rec (fun _=>Bool) ih true (Nat.beq x b)) l
noncomputable def obAt(ks:List Nat)(P:Params)(ov:List (Nat×Obj))(ob:Params→Nat→Obj)(b j:Nat):Obj:=@Bool.rec (fun _=>Obj) (BS P ob b) ((CJ ov b).getD default) (memN ks b)
noncomputable def L0(n:Nat)(f:Nat→Obj)(a b j:Nat):BT:=.nil
noncomputable def L1(n:Nat)(f:Nat→Obj)(a b j:Nat):BT:=@Bool.rec (fun _=>BT) .nil (.node (f b) (L0 n f (2*a) (a+b) j) (L0 n f (2*a) (2*a+b) j)) (b.blt n)
noncomputable def L2(n:Nat)(f:Nat→Obj)(a b j:Nat):BT:=@Bool.rec (fun _=>BT) .nil (.node (f b) (L1 n f (2*a) (a+b) j) (L1 n f (2*a) (2*a+b) j)) (b.blt n)
noncomputable def L3(n:Nat)(f:Nat→Obj)(a b j:Nat):BT:=@Bool.rec (fun _=>BT) .nil (.node (f b) (L2 n f (2*a) (a+b) j) (L2 n f (2*a) (2*a+b) j)) (b.blt n)
noncomputable def L4(n:Nat)(f:Nat→Obj)(a b j:Nat):BT:=@Bool.rec (fun _=>BT) .nil (.node (f b) (L3 n f (2*a) (a+b) j) (L3 n f (2*a) (2*a+b) j)) (b.blt n)
noncomputable def L5(n:Nat)(f:Nat→Obj)(a b j:Nat):BT:=@Bool.rec (fun _=>BT) .nil (.node (f b) (L4 n f (2*a) (a+b) j) (L4 n f (2*a) (2*a+b) j)) (b.blt n)
noncomputable def L6(n:Nat)(f:Nat→Obj)(a b j:Nat):BT:=@Bool.rec (fun _=>BT) .nil (.node (f b) (L5 n f (2*a) (a+b) j) (L5 n f (2*a) (2*a+b) j)) (b.blt n)
noncomputable def L7(n:Nat)(f:Nat→Obj)(a b j:Nat):BT:=@Bool.rec (fun _=>BT) .nil (.node (f b) (L6 n f (2*a) (a+b) j) (L6 n f (2*a) (2*a+b) j)) (b.blt n)
noncomputable def L8(n:Nat)(f:Nat→Obj)(a b j:Nat):BT:=@Bool.rec (fun _=>BT) .nil (.node (f b) (L7 n f (2*a) (a+b) j) (L7 n f (2*a) (2*a+b) j)) (b.blt n)
noncomputable def L9(n:Nat)(f:Nat→Obj)(a b j:Nat):BT:=@Bool.rec (fun _=>BT) .nil (.node (f b) (L8 n f (2*a) (a+b) j) (L8 n f (2*a) (2*a+b) j)) (b.blt n)
noncomputable def L10(n:Nat)(f:Nat→Obj)(a b j:Nat):BT:=@Bool.rec (fun _=>BT) .nil (.node (f b) (L9 n f (2*a) (a+b) j) (L9 n f (2*a) (2*a+b) j)) (b.blt n)
noncomputable def L11(n:Nat)(f:Nat→Obj)(a b j:Nat):BT:=@Bool.rec (fun _=>BT) .nil (.node (f b) (L10 n f (2*a) (a+b) j) (L10 n f (2*a) (2*a+b) j)) (b.blt n)
noncomputable def L12(n:Nat)(f:Nat→Obj)(a b j:Nat):BT:=@Bool.rec (fun _=>BT) .nil (.node (f b) (L11 n f (2*a) (a+b) j) (L11 n f (2*a) (2*a+b) j)) (b.blt n)
theorem i2{p:Program}{w:World}{m:Nat}{ann:Option Value}{b n:Nat}{s:SharedT}{t:Thread}{r:Option (Flow×SharedT×Code×Pos)}(h:Fast.tw10110043849684766642 Fast.tw14364793385576792824 p w m ann b n s t=r):segRunT treeTable p w m ann b n s t=r:=by
 rw[Fast.te10110043849684766642,Fast.te14364793385576792824];exact h
theorem BU{p:Program}{w:World}{m:Nat}{ann:Option Value}{n:Nat}{s:Shared}{t:Thread}{r:Option Shared}(h:Fast.tw14082659384304107361 Fast.tw14364793385576792824 p w m ann n s t=r):topRun treeTable p w m ann n s t=r:=by
 rw[Fast.te14082659384304107361,Fast.te14364793385576792824];exact h
theorem BV:denote treeTable=Fast.tw11892475500146522536 Fast.tw14364793385576792824:=by rw[← Fast.te11892475500146522536,← Fast.te14364793385576792824]
theorem CK{p:Program}{w:World}{m:Nat}{ann:Option Value}{n:Nat}{s:Shared}{t:Thread}{r:Option (Shared×Thread)}(h:Fast.tw15667345088766844465 Fast.tw14364793385576792824 p w m ann n s t=r):topGo treeTable p w m ann n s t=r:=by
 rw[Fast.te15667345088766844465,Fast.te14364793385576792824];exact h
theorem Ad{b b':List Stmt}(e:b=b'){tb:String→Option Builtin}{p:Program}{w:World}{m:Nat}{ann:Option Value}{n:Nat}{s:Shared}{env:Env}{c:Code}{ps:Pos}{B:List Frame}{r:Option Shared}(h:topRun tb p w m ann n s (restOf b' env c ps B)=r):topRun tb p w m ann n s (restOf b env c ps B)=r:=by rw[e];exact h
noncomputable def f1(P:Params):List Obj:=[(Obj.mk (.type "tuple") none (.seq #[(.type "ValueError")] 0) #[]),
 (Obj.mk (.type "builtin_function_or_method") none (.fields #[(.builtin "type.__prepare__"),(.type "type")]) #[]),
 (Obj.mk (.type "dict") none (.dict #[(DictEntry.mk (kh P "__module__") (.str "__module__" 196) (.str "ringloads.errors" 187)),(DictEntry.mk (kh P "__qualname__") (.str "__qualname__" 198) (.str "LoadError" 197)),(DictEntry.mk (kh P "__firstlineno__") (.str "__firstlineno__" 200) (.int 2 199)),(DictEntry.mk (kh P "__init__") (.str "__init__" 208) (.ref 28)),(DictEntry.mk (kh P "__static_attributes__") (.str "__static_attributes__" 209) (.ref 29))] 5) #[]),
 (Obj.mk (.type "tuple") none (.seq #[] 0) #[]),
 (Obj.mk .none none (.fields #[(.int 4 0),(.int 4 0),(.ref 27)]) #[]),
 (Obj.mk (.type "code") none (.fields #[(.str "LoadError" 191),(.str "LoadError" 192),(.str "/claim/cut.py" 193),(.int 2 0),(.int 0 0),(.int 0 0),(.int 0 0),(.int 0 0),(.ref 18),(.bool false),(.int 181 0),(.ref 19),.none,.none,.none,.none,(.int 194 0),(.int 2 0),(.str "/claim/cut.py" 195)]) #[]),
 (Obj.mk (.type "frame") none .plain #[(some (.ref 20)),(some (.ref 3)),(some (.ref 17)),none,(some (.str "ringloads.errors" 187)),none,(some (.ref 0))]),
 (Obj.mk (.type "tuple") none (.seq #[] 0) #[]),
 (Obj.mk .none none (.fields #[]) #[]),
 (Obj.mk (.type "tuple") none (.seq #[(.str "self" 204),(.str "text" 205)] 0) #[]),
 (Obj.mk (.type "tuple") none (.seq #[] 0) #[]),
 (Obj.mk .none none (.func (fdOf (inCls (top 1) 0) "LoadError.__init__" 0 .none .none)) #[]),
 (Obj.mk (.type "code") none (.fields #[(.str "__init__" 201),(.str "LoadError.__init__" 202),(.str "/claim/cut.py" 203),(.int 4 0),(.int 2 0),(.int 0 0),(.int 0 0),(.int 3 0),(.ref 22),(.bool true),(.int 181 0),(.ref 23),.none,(.ref 24),(.ref 25),(.ref 26),(.int 206 0),(.int 4 0),(.str "/claim/cut.py" 207)]) #[]),
 (Obj.mk (.type "function") none (.func (fdOf (inCls (top 1) 0) "LoadError.__init__" 3 (.str "ringloads.errors" 187) (.ref 27))) #[]),
 (Obj.mk (.type "tuple") none (.seq #[] 0) #[]),
 (Obj.mk (.type "dict") none (.dict #[(DictEntry.mk (kh P "__module__") (.str "__module__" 196) (.str "ringloads.errors" 187)),(DictEntry.mk (kh P "__firstlineno__") (.str "__firstlineno__" 200) (.int 2 199)),(DictEntry.mk (kh P "__init__") (.str "__init__" 208) (.ref 28)),(DictEntry.mk (kh P "__static_attributes__") (.str "__static_attributes__" 209) (.ref 29)),(DictEntry.mk (kh P "__weakref__") (.str "__weakref__" 211) (.ref 32)),(DictEntry.mk (kh P "__doc__") (.str "__doc__" 212) .none)] 3) #[]),
 (Obj.mk (.type "type") none (.cls (PySem.ClassData.mk "LoadError" [(.type "ValueError")] [(.ref 31),(.type "ValueError"),(.type "Exception"),(.type "BaseException"),(.type "object")] 30 "LoadError" true [] [(.ref 51),(.ref 63),(.ref 75),(.ref 94),(.ref 106)] false none false)) #[(some (.ref 15)),none,(some (.str "LoadError" 189)),(some (.str "LoadError" 197)),(some (.builtin "ValueError.__new__")),(some (.bool true))]),
 (Obj.mk (.type "getset_descriptor") none (.fields #[(.str "__weakref__" 210),(.ref 31),(.builtin "ExceptionGroup.__weakref__"),.none]) #[]),
 (Obj.mk (.type "super") none (.fields #[(.ref 31),(.ref 31),(.ref 31)]) #[]),
 (Obj.mk (.type "builtin_function_or_method") none (.fields #[(.builtin "object.__init_subclass__"),(.ref 31)]) #[])]
noncomputable def f2(P:Params):List Obj:=[(Obj.mk (.type "tuple") none (.seq #[(.ref 31)] 0) #[]),
 (Obj.mk (.type "builtin_function_or_method") none (.fields #[(.builtin "type.__prepare__"),(.type "type")]) #[]),
 (Obj.mk (.type "dict") none (.dict #[(DictEntry.mk (kh P "__module__") (.str "__module__" 222) (.str "ringloads.errors" 187)),(DictEntry.mk (kh P "__qualname__") (.str "__qualname__" 224) (.str "NoRing" 223)),(DictEntry.mk (kh P "__firstlineno__") (.str "__firstlineno__" 226) (.int 6 225)),(DictEntry.mk (kh P "__init__") (.str "__init__" 235) (.ref 48)),(DictEntry.mk (kh P "__static_attributes__") (.str "__static_attributes__" 238) (.ref 49))] 5) #[]),
 (Obj.mk (.type "tuple") none (.seq #[] 0) #[]),
 (Obj.mk .none none (.fields #[(.int 8 0),(.int 4 0),(.ref 47)]) #[]),
 (Obj.mk (.type "code") none (.fields #[(.str "NoRing" 217),(.str "NoRing" 218),(.str "/claim/cut.py" 219),(.int 6 0),(.int 0 0),(.int 0 0),(.int 0 0),(.int 0 0),(.ref 38),(.bool false),(.int 181 0),(.ref 39),.none,.none,.none,.none,(.int 220 0),(.int 6 0),(.str "/claim/cut.py" 221)]) #[]),
 (Obj.mk (.type "frame") none .plain #[(some (.ref 40)),(some (.ref 3)),(some (.ref 37)),none,(some (.str "ringloads.errors" 187)),none,(some (.ref 0))]),
 (Obj.mk (.type "tuple") none (.seq #[] 0) #[]),
 (Obj.mk .none none (.fields #[]) #[]),
 (Obj.mk (.type "tuple") none (.seq #[(.str "self" 230),(.str "part" 231),(.str "number" 232)] 0) #[]),
 (Obj.mk (.type "tuple") none (.seq #[] 0) #[]),
 (Obj.mk .none none (.func (fdOf (inCls (top 2) 0) "NoRing.__init__" 0 .none .none)) #[]),
 (Obj.mk (.type "code") none (.fields #[(.str "__init__" 227),(.str "NoRing.__init__" 228),(.str "/claim/cut.py" 229),(.int 8 0),(.int 3 0),(.int 0 0),(.int 0 0),(.int 3 0),(.ref 42),(.bool true),(.int 181 0),(.ref 43),.none,(.ref 44),(.ref 45),(.ref 46),(.int 233 0),(.int 8 0),(.str "/claim/cut.py" 234)]) #[]),
 (Obj.mk (.type "function") none (.func (fdOf (inCls (top 2) 0) "NoRing.__init__" 3 (.str "ringloads.errors" 187) (.ref 47))) #[]),
 (Obj.mk (.type "tuple") none (.seq #[(.str "number" 236),(.str "part" 237)] 0) #[]),
 (Obj.mk (.type "dict") none (.dict #[(DictEntry.mk (kh P "__module__") (.str "__module__" 222) (.str "ringloads.errors" 187)),(DictEntry.mk (kh P "__firstlineno__") (.str "__firstlineno__" 226) (.int 6 225)),(DictEntry.mk (kh P "__init__") (.str "__init__" 235) (.ref 48)),(DictEntry.mk (kh P "__static_attributes__") (.str "__static_attributes__" 238) (.ref 49)),(DictEntry.mk (kh P "__doc__") (.str "__doc__" 239) .none)] 2) #[]),
 (Obj.mk (.type "type") none (.cls (PySem.ClassData.mk "NoRing" [(.ref 31)] [(.ref 51),(.ref 31),(.type "ValueError"),(.type "Exception"),(.type "BaseException"),(.type "object")] 50 "NoRing" true [] [] false none false)) #[(some (.ref 35)),none,(some (.str "NoRing" 215)),(some (.str "NoRing" 223)),(some (.builtin "ValueError.__new__")),(some (.bool true))]),
 (Obj.mk (.type "super") none (.fields #[(.ref 51),(.ref 51),(.ref 51)]) #[]),
 (Obj.mk (.type "builtin_function_or_method") none (.fields #[(.builtin "object.__init_subclass__"),(.ref 51)]) #[])]
noncomputable def f3(P:Params):List Obj:=[(Obj.mk (.type "tuple") none (.seq #[(.ref 31)] 0) #[]),
 (Obj.mk (.type "builtin_function_or_method") none (.fields #[(.builtin "type.__prepare__"),(.type "type")]) #[]),
 (Obj.mk (.type "dict") none (.dict #[(DictEntry.mk (kh P "__module__") (.str "__module__" 249) (.str "ringloads.errors" 187)),(DictEntry.mk (kh P "__qualname__") (.str "__qualname__" 251) (.str "TooMany" 250)),(DictEntry.mk (kh P "__firstlineno__") (.str "__firstlineno__" 253) (.int 12 252)),(DictEntry.mk (kh P "__static_attributes__") (.str "__static_attributes__" 254) (.ref 61))] 4) #[]),
 (Obj.mk (.type "tuple") none (.seq #[] 0) #[]),
 (Obj.mk .none none (.fields #[]) #[]),
 (Obj.mk (.type "code") none (.fields #[(.str "TooMany" 244),(.str "TooMany" 245),(.str "/claim/cut.py" 246),(.int 12 0),(.int 0 0),(.int 0 0),(.int 0 0),(.int 0 0),(.ref 57),(.bool false),(.int 181 0),(.ref 58),.none,.none,.none,.none,(.int 247 0),(.int 12 0),(.str "/claim/cut.py" 248)]) #[]),
 (Obj.mk (.type "frame") none .plain #[(some (.ref 59)),(some (.ref 3)),(some (.ref 56)),none,(some (.str "ringloads.errors" 187)),none,(some (.ref 0))]),
 (Obj.mk (.type "tuple") none (.seq #[] 0) #[]),
 (Obj.mk (.type "dict") none (.dict #[(DictEntry.mk (kh P "__module__") (.str "__module__" 249) (.str "ringloads.errors" 187)),(DictEntry.mk (kh P "__firstlineno__") (.str "__firstlineno__" 253) (.int 12 252)),(DictEntry.mk (kh P "__static_attributes__") (.str "__static_attributes__" 254) (.ref 61)),(DictEntry.mk (kh P "__doc__") (.str "__doc__" 255) .none)] 2) #[]),
 (Obj.mk (.type "type") none (.cls (PySem.ClassData.mk "TooMany" [(.ref 31)] [(.ref 63),(.ref 31),(.type "ValueError"),(.type "Exception"),(.type "BaseException"),(.type "object")] 62 "TooMany" true [] [] false none false)) #[(some (.ref 54)),none,(some (.str "TooMany" 242)),(some (.str "TooMany" 250)),(some (.builtin "ValueError.__new__")),(some (.bool true))]),
 (Obj.mk (.type "super") none (.fields #[(.ref 63),(.ref 63),(.ref 63)]) #[]),
 (Obj.mk (.type "builtin_function_or_method") none (.fields #[(.builtin "object.__init_subclass__"),(.ref 63)]) #[])]
noncomputable def f4(P:Params):List Obj:=[(Obj.mk (.type "tuple") none (.seq #[(.ref 31)] 0) #[]),
 (Obj.mk (.type "builtin_function_or_method") none (.fields #[(.builtin "type.__prepare__"),(.type "type")]) #[]),
 (Obj.mk (.type "dict") none (.dict #[(DictEntry.mk (kh P "__module__") (.str "__module__" 265) (.str "ringloads.errors" 187)),(DictEntry.mk (kh P "__qualname__") (.str "__qualname__" 267) (.str "NoPlace" 266)),(DictEntry.mk (kh P "__firstlineno__") (.str "__firstlineno__" 269) (.int 14 268)),(DictEntry.mk (kh P "__static_attributes__") (.str "__static_attributes__" 270) (.ref 73))] 4) #[]),
 (Obj.mk (.type "tuple") none (.seq #[] 0) #[]),
 (Obj.mk .none none (.fields #[]) #[]),
 (Obj.mk (.type "code") none (.fields #[(.str "NoPlace" 260),(.str "NoPlace" 261),(.str "/claim/cut.py" 262),(.int 14 0),(.int 0 0),(.int 0 0),(.int 0 0),(.int 0 0),(.ref 69),(.bool false),(.int 181 0),(.ref 70),.none,.none,.none,.none,(.int 263 0),(.int 14 0),(.str "/claim/cut.py" 264)]) #[]),
 (Obj.mk (.type "frame") none .plain #[(some (.ref 71)),(some (.ref 3)),(some (.ref 68)),none,(some (.str "ringloads.errors" 187)),none,(some (.ref 0))]),
 (Obj.mk (.type "tuple") none (.seq #[] 0) #[]),
 (Obj.mk (.type "dict") none (.dict #[(DictEntry.mk (kh P "__module__") (.str "__module__" 265) (.str "ringloads.errors" 187)),(DictEntry.mk (kh P "__firstlineno__") (.str "__firstlineno__" 269) (.int 14 268)),(DictEntry.mk (kh P "__static_attributes__") (.str "__static_attributes__" 270) (.ref 73)),(DictEntry.mk (kh P "__doc__") (.str "__doc__" 271) .none)] 2) #[]),
 (Obj.mk (.type "type") none (.cls (PySem.ClassData.mk "NoPlace" [(.ref 31)] [(.ref 75),(.ref 31),(.type "ValueError"),(.type "Exception"),(.type "BaseException"),(.type "object")] 74 "NoPlace" true [] [] false none false)) #[(some (.ref 66)),none,(some (.str "NoPlace" 258)),(some (.str "NoPlace" 266)),(some (.builtin "ValueError.__new__")),(some (.bool true))]),
 (Obj.mk (.type "super") none (.fields #[(.ref 75),(.ref 75),(.ref 75)]) #[]),
 (Obj.mk (.type "builtin_function_or_method") none (.fields #[(.builtin "object.__init_subclass__"),(.ref 75)]) #[])]
noncomputable def f5(P:Params):List Obj:=[(Obj.mk (.type "tuple") none (.seq #[(.ref 31)] 0) #[]),
 (Obj.mk (.type "builtin_function_or_method") none (.fields #[(.builtin "type.__prepare__"),(.type "type")]) #[]),
 (Obj.mk (.type "dict") none (.dict #[(DictEntry.mk (kh P "__module__") (.str "__module__" 281) (.str "ringloads.errors" 187)),(DictEntry.mk (kh P "__qualname__") (.str "__qualname__" 283) (.str "NoString" 282)),(DictEntry.mk (kh P "__firstlineno__") (.str "__firstlineno__" 285) (.int 16 284)),(DictEntry.mk (kh P "__init__") (.str "__init__" 293) (.ref 91)),(DictEntry.mk (kh P "__static_attributes__") (.str "__static_attributes__" 295) (.ref 92))] 5) #[]),
 (Obj.mk (.type "tuple") none (.seq #[] 0) #[]),
 (Obj.mk .none none (.fields #[(.int 18 0),(.int 4 0),(.ref 90)]) #[]),
 (Obj.mk (.type "code") none (.fields #[(.str "NoString" 276),(.str "NoString" 277),(.str "/claim/cut.py" 278),(.int 16 0),(.int 0 0),(.int 0 0),(.int 0 0),(.int 0 0),(.ref 81),(.bool false),(.int 181 0),(.ref 82),.none,.none,.none,.none,(.int 279 0),(.int 16 0),(.str "/claim/cut.py" 280)]) #[]),
 (Obj.mk (.type "frame") none .plain #[(some (.ref 83)),(some (.ref 3)),(some (.ref 80)),none,(some (.str "ringloads.errors" 187)),none,(some (.ref 0))]),
 (Obj.mk (.type "tuple") none (.seq #[] 0) #[]),
 (Obj.mk .none none (.fields #[]) #[]),
 (Obj.mk (.type "tuple") none (.seq #[(.str "self" 289),(.str "number" 290)] 0) #[]),
 (Obj.mk (.type "tuple") none (.seq #[] 0) #[]),
 (Obj.mk .none none (.func (fdOf (inCls (top 5) 0) "NoString.__init__" 0 .none .none)) #[]),
 (Obj.mk (.type "code") none (.fields #[(.str "__init__" 286),(.str "NoString.__init__" 287),(.str "/claim/cut.py" 288),(.int 18 0),(.int 2 0),(.int 0 0),(.int 0 0),(.int 3 0),(.ref 85),(.bool true),(.int 181 0),(.ref 86),.none,(.ref 87),(.ref 88),(.ref 89),(.int 291 0),(.int 18 0),(.str "/claim/cut.py" 292)]) #[]),
 (Obj.mk (.type "function") none (.func (fdOf (inCls (top 5) 0) "NoString.__init__" 3 (.str "ringloads.errors" 187) (.ref 90))) #[]),
 (Obj.mk (.type "tuple") none (.seq #[(.str "number" 294)] 0) #[]),
 (Obj.mk (.type "dict") none (.dict #[(DictEntry.mk (kh P "__module__") (.str "__module__" 281) (.str "ringloads.errors" 187)),(DictEntry.mk (kh P "__firstlineno__") (.str "__firstlineno__" 285) (.int 16 284)),(DictEntry.mk (kh P "__init__") (.str "__init__" 293) (.ref 91)),(DictEntry.mk (kh P "__static_attributes__") (.str "__static_attributes__" 295) (.ref 92)),(DictEntry.mk (kh P "__doc__") (.str "__doc__" 296) .none)] 2) #[]),
 (Obj.mk (.type "type") none (.cls (PySem.ClassData.mk "NoString" [(.ref 31)] [(.ref 94),(.ref 31),(.type "ValueError"),(.type "Exception"),(.type "BaseException"),(.type "object")] 93 "NoString" true [] [] false none false)) #[(some (.ref 78)),none,(some (.str "NoString" 274)),(some (.str "NoString" 282)),(some (.builtin "ValueError.__new__")),(some (.bool true))]),
 (Obj.mk (.type "super") none (.fields #[(.ref 94),(.ref 94),(.ref 94)]) #[]),
 (Obj.mk (.type "builtin_function_or_method") none (.fields #[(.builtin "object.__init_subclass__"),(.ref 94)]) #[])]
noncomputable def f6(P:Params):List Obj:=[(Obj.mk (.type "tuple") none (.seq #[(.ref 31)] 0) #[]),
 (Obj.mk (.type "builtin_function_or_method") none (.fields #[(.builtin "type.__prepare__"),(.type "type")]) #[]),
 (Obj.mk (.type "dict") none (.dict #[(DictEntry.mk (kh P "__module__") (.str "__module__" 306) (.str "ringloads.errors" 187)),(DictEntry.mk (kh P "__qualname__") (.str "__qualname__" 308) (.str "NoName" 307)),(DictEntry.mk (kh P "__firstlineno__") (.str "__firstlineno__" 310) (.int 21 309)),(DictEntry.mk (kh P "__static_attributes__") (.str "__static_attributes__" 311) (.ref 104))] 4) #[]),
 (Obj.mk (.type "tuple") none (.seq #[] 0) #[]),
 (Obj.mk .none none (.fields #[]) #[]),
 (Obj.mk (.type "code") none (.fields #[(.str "NoName" 301),(.str "NoName" 302),(.str "/claim/cut.py" 303),(.int 21 0),(.int 0 0),(.int 0 0),(.int 0 0),(.int 0 0),(.ref 100),(.bool false),(.int 181 0),(.ref 101),.none,.none,.none,.none,(.int 304 0),(.int 21 0),(.str "/claim/cut.py" 305)]) #[]),
 (Obj.mk (.type "frame") none .plain #[(some (.ref 102)),(some (.ref 3)),(some (.ref 99)),none,(some (.str "ringloads.errors" 187)),none,(some (.ref 0))]),
 (Obj.mk (.type "tuple") none (.seq #[] 0) #[]),
 (Obj.mk (.type "dict") none (.dict #[(DictEntry.mk (kh P "__module__") (.str "__module__" 306) (.str "ringloads.errors" 187)),(DictEntry.mk (kh P "__firstlineno__") (.str "__firstlineno__" 310) (.int 21 309)),(DictEntry.mk (kh P "__static_attributes__") (.str "__static_attributes__" 311) (.ref 104)),(DictEntry.mk (kh P "__doc__") (.str "__doc__" 312) .none)] 2) #[]),
 (Obj.mk (.type "type") none (.cls (PySem.ClassData.mk "NoName" [(.ref 31)] [(.ref 106),(.ref 31),(.type "ValueError"),(.type "Exception"),(.type "BaseException"),(.type "object")] 105 "NoName" true [] [] false none false)) #[(some (.ref 97)),none,(some (.str "NoName" 299)),(some (.str "NoName" 307)),(some (.builtin "ValueError.__new__")),(some (.bool true))]),
 (Obj.mk (.type "super") none (.fields #[(.ref 106),(.ref 106),(.ref 106)]) #[]),
 (Obj.mk (.type "builtin_function_or_method") none (.fields #[(.builtin "object.__init_subclass__"),(.ref 106)]) #[])]
noncomputable def f8(P:Params):List Obj:=c8 (top 8) 109 317 ["one","other","rest"] (.str "ringloads.divisors" 315)
noncomputable def f11(P:Params):List Obj:=c8 (top 11) 116 330 ["thing"] (.str "ringloads.names" 326)
noncomputable def f12(P:Params):List Obj:=c8 (top 12) 123 337 ["thing","many"] (.str "ringloads.names" 326)
noncomputable def f13(P:Params):List Obj:=c8 (top 13) 130 345 ["thing"] (.str "ringloads.names" 326)
noncomputable def f14(P:Params):List Obj:=c8 (top 14) 137 352 ["thing"] (.str "ringloads.names" 326)
noncomputable def f15(P:Params):List Obj:=Ab (top 15) 144 359 (.str "ringloads.names" 326)
noncomputable def f20(P:Params):List Obj:=c8 (top 20) 149 373 ["thing"] (.str "ringloads.rings" 365)
noncomputable def f21(P:Params):List Obj:=c8 (top 21) 156 380 ["thing"] (.str "ringloads.rings" 365)
noncomputable def f22(P:Params):List Obj:=c8 (top 22) 163 387 ["rooms","number","room"] (.str "ringloads.rings" 365)
noncomputable def f23(P:Params):List Obj:=[(Obj.mk (.type "tuple") none (.seq #[] 0) #[]),
 (Obj.mk .none none (.fields #[]) #[]),
 (Obj.mk (.type "tuple") none (.seq #[(.str "asks" 399),(.str "places" 400)] 0) #[]),
 (Obj.mk (.type "tuple") none (.seq #[(.str "places" 401)] 0) #[]),
 (Obj.mk .none none (.func (fdOf (top 23) "look_at_asks" 0 .none .none)) #[]),
 (Obj.mk (.type "code") none (.fields #[(.str "look_at_asks" 396),(.str "look_at_asks" 397),(.str "/claim/cut.py" 398),(.int 65 0),(.int 2 0),(.int 0 0),(.int 0 0),(.int 3 0),(.ref 170),(.bool true),(.int 181 0),(.ref 171),.none,(.ref 172),(.ref 173),(.ref 174),(.int 402 0),(.int 65 0),(.str "/claim/cut.py" 403)]) #[]),
 (Obj.mk (.type "function") none (.func (fdOf (top 23) "look_at_asks" 3 (.str "ringloads.rings" 365) (.ref 175))) #[])]
noncomputable def f24(P:Params):List Obj:=c8 (top 24) 177 405 ["asks","is_end","taken","number","ask"] (.str "ringloads.rings" 365)
noncomputable def f25(P:Params):List Obj:=c8 (top 25) 184 416 ["thing","is_end"] (.str "ringloads.rings" 365)
noncomputable def f28(P:Params):List Obj:=c8 (top 28) 191 428 ["thing","number","one"] (.str "ringloads.strings" 424)
noncomputable def f29(P:Params):List Obj:=c8 (top 29) 198 437 ["ahead","thing"] (.str "ringloads.strings" 424)
noncomputable def f30(P:Params):List Obj:=c8 (top 30) 205 445 ["string","thing"] (.str "ringloads.strings" 424)
noncomputable def f32(P:Params):List Obj:=c8 (top 32) 212 455 ["_law_script","_law_k","_law_cell"] (.str "law_ringloads_k68_what_is_a_string" 453)
noncomputable def f33(P:Params):List Obj:=c8 (top 33) 219 464 ["_law_state","_law_many","_law_digit","_law_drawn","_law_turn"] (.str "law_ringloads_k68_what_is_a_string" 453)
noncomputable def f34(P:Params):List Obj:=c8 (top 34) 226 475 ["_law_top","_law_bottom","_law_one","_law_share"] (.str "law_ringloads_k68_what_is_a_string" 453)
noncomputable def f35(P:Params):List Obj:=c8 (top 35) 233 485 ["_law_state","_law_least","_law_kind","_law_bottom","_law_top"] (.str "law_ringloads_k68_what_is_a_string" 453)
noncomputable def f36(P:Params):List Obj:=c8 (top 36) 240 496 ["_law_state","_law_string_here","_law_ring"] (.str "law_ringloads_k68_what_is_a_string" 453)
noncomputable def f37(P:Params):List Obj:=Ab (top 37) 247 505 (.str "law_ringloads_k68_what_is_a_string" 453)
noncomputable def f38(P:Params):List Obj:=c8 (top 38) 252 511 ["_law_thing"] (.str "law_ringloads_k68_what_is_a_string" 453)
noncomputable def f39(P:Params):List Obj:=c8 (top 39) 259 518 ["_law_thing"] (.str "law_ringloads_k68_what_is_a_string" 453)
noncomputable def f40(P:Params):List Obj:=c8 (top 40) 266 525 ["_law_string_here","_law_thing"] (.str "law_ringloads_k68_what_is_a_string" 453)
noncomputable def f41(P:Params):List Obj:=Ab (top 41) 273 533 (.str "law_ringloads_k68_what_is_a_string" 453)
noncomputable def f42(P:Params):List Obj:=c8 (top 42) 278 539 ["_law_thing","_law_caught","_law_told_here","e"] (.str "law_ringloads_k68_what_is_a_string" 453)
noncomputable def f43(P:Params):List Obj:=c8 (top 43) 285 549 ["_law_state","_law_string_here","_law_at","_law_rooms","_law_hung","_law_way","_law_some","_law_odd_here","_law_tie","_law_ahead"] (.str "law_ringloads_k68_what_is_a_string" 453)
noncomputable def f44(P:Params):List Obj:=c8 (top 44) 292 565 ["_law_state","_law_string_here","_law_turn","_law_ring","_law_place_here","_law_odd_here","_law_thing","_law_told_here"] (.str "law_ringloads_k68_what_is_a_string" 453)
noncomputable def f45(P:Params):List Obj:=c8 (top 45) 299 579 ["_law_script","_law_string_here","_law_shown","_law_k","_law_thing","_law_kept"] (.str "law_ringloads_k68_what_is_a_string" 453)
noncomputable def obll(P:Params)(b:Nat):Obj:=(bif b.blt 78 then(bif b.blt 54 then(bif b.blt 35 then(f1 P).getD (b-15) default else(f2 P).getD (b-35) default)else(bif b.blt 66 then(f3 P).getD (b-54) default else(f4 P).getD (b-66) default))else(bif b.blt 109 then(bif b.blt 97 then(f5 P).getD (b-78) default else(f6 P).getD (b-97) default)else(bif b.blt 116 then(f8 P).getD (b-109) default else(f11 P).getD (b-116) default)))
noncomputable def oblr(P:Params)(b:Nat):Obj:=(bif b.blt 149 then(bif b.blt 137 then(bif b.blt 130 then(f12 P).getD (b-123) default else(f13 P).getD (b-130) default)else(bif b.blt 144 then(f14 P).getD (b-137) default else(f15 P).getD (b-144) default))else(bif b.blt 163 then(bif b.blt 156 then(f20 P).getD (b-149) default else(f21 P).getD (b-156) default)else(bif b.blt 170 then(f22 P).getD (b-163) default else(bif b.blt 177 then(f23 P).getD (b-170) default else(f24 P).getD (b-177) default))))
noncomputable def obl(P:Params)(b:Nat):Obj:=bif b.blt 123 then obll P b else oblr P b
noncomputable def obrl(P:Params)(b:Nat):Obj:=(bif b.blt 212 then(bif b.blt 198 then(bif b.blt 191 then(f25 P).getD (b-184) default else(f28 P).getD (b-191) default)else(bif b.blt 205 then(f29 P).getD (b-198) default else(f30 P).getD (b-205) default))else(bif b.blt 226 then(bif b.blt 219 then(f32 P).getD (b-212) default else(f33 P).getD (b-219) default)else(bif b.blt 233 then(f34 P).getD (b-226) default else(bif b.blt 240 then(f35 P).getD (b-233) default else(f36 P).getD (b-240) default))))
noncomputable def obrr(P:Params)(b:Nat):Obj:=(bif b.blt 273 then(bif b.blt 259 then(bif b.blt 252 then(f37 P).getD (b-247) default else(f38 P).getD (b-252) default)else(bif b.blt 266 then(f39 P).getD (b-259) default else(f40 P).getD (b-266) default))else(bif b.blt 285 then(bif b.blt 278 then(f41 P).getD (b-273) default else(f42 P).getD (b-278) default)else(bif b.blt 292 then(f43 P).getD (b-285) default else(bif b.blt 299 then(f44 P).getD (b-292) default else(f45 P).getD (b-299) default))))
noncomputable def obr(P:Params)(b:Nat):Obj:=bif b.blt 247 then obrl P b else obrr P b
noncomputable def ob(P:Params)(b:Nat):Obj:=bif b.blt 184 then obl P b else obr P b
noncomputable def ents(P:Params):List DictEntry:=[(DictEntry.mk (kh P "LoadError") (.str "LoadError" 214) (.ref 31)),
 (DictEntry.mk (kh P "NoRing") (.str "NoRing" 241) (.ref 51)),
 (DictEntry.mk (kh P "TooMany") (.str "TooMany" 257) (.ref 63)),
 (DictEntry.mk (kh P "NoPlace") (.str "NoPlace" 273) (.ref 75)),
 (DictEntry.mk (kh P "NoString") (.str "NoString" 298) (.ref 94)),
 (DictEntry.mk (kh P "NoName") (.str "NoName" 314) (.ref 106)),
 (DictEntry.mk (kh P "greatest_shared") (.str "greatest_shared" 325) (.ref 115)),
 (DictEntry.mk (kh P "LONGEST_NAME") (.str "LONGEST_NAME" 329) (.int 8 328)),
 (DictEntry.mk (kh P "is_whole") (.str "is_whole" 336) (.ref 122)),
 (DictEntry.mk (kh P "is_number_below") (.str "is_number_below" 344) (.ref 129)),
 (DictEntry.mk (kh P "are_two_wholes") (.str "are_two_wholes" 351) (.ref 136)),
 (DictEntry.mk (kh P "is_ratio") (.str "is_ratio" 358) (.ref 143)),
 (DictEntry.mk (kh P "is_name") (.str "is_name" 364) (.ref 148)),
 (DictEntry.mk (kh P "FEWEST_TIES") (.str "FEWEST_TIES" 368) (.int 2 367)),
 (DictEntry.mk (kh P "MOST_TIES") (.str "MOST_TIES" 370) (.int 12 369)),
 (DictEntry.mk (kh P "MOST_ASKS") (.str "MOST_ASKS" 372) (.int 20 371)),
 (DictEntry.mk (kh P "look_at_ring") (.str "look_at_ring" 379) (.ref 155)),
 (DictEntry.mk (kh P "is_ring") (.str "is_ring" 386) (.ref 162)),
 (DictEntry.mk (kh P "look_at_rooms") (.str "look_at_rooms" 395) (.ref 169)),
 (DictEntry.mk (kh P "look_at_asks") (.str "look_at_asks" 404) (.ref 176)),
 (DictEntry.mk (kh P "look_at_each_ask") (.str "look_at_each_ask" 415) (.ref 183)),
 (DictEntry.mk (kh P "is_ask") (.str "is_ask" 423) (.ref 190)),
 (DictEntry.mk (kh P "MOST_RINGS") (.str "MOST_RINGS" 427) (.int 6 426)),
 (DictEntry.mk (kh P "look_at_string") (.str "look_at_string" 436) (.ref 197)),
 (DictEntry.mk (kh P "can_hang") (.str "can_hang" 444) (.ref 204)),
 (DictEntry.mk (kh P "is_place") (.str "is_place" 452) (.ref 211)),
 (DictEntry.mk (kh P "_law_begun") (.str "_law_begun" 463) (.ref 218)),
 (DictEntry.mk (kh P "_law_take") (.str "_law_take" 474) (.ref 225)),
 (DictEntry.mk (kh P "_law_low") (.str "_law_low" 484) (.ref 232)),
 (DictEntry.mk (kh P "_law_amount") (.str "_law_amount" 495) (.ref 239)),
 (DictEntry.mk (kh P "_law_place") (.str "_law_place" 504) (.ref 246)),
 (DictEntry.mk (kh P "_law_string") (.str "_law_string" 510) (.ref 251)),
 (DictEntry.mk (kh P "_law_whole") (.str "_law_whole" 517) (.ref 258)),
 (DictEntry.mk (kh P "_law_ratio") (.str "_law_ratio" 524) (.ref 265)),
 (DictEntry.mk (kh P "_law_is_place") (.str "_law_is_place" 532) (.ref 272)),
 (DictEntry.mk (kh P "_law_fault") (.str "_law_fault" 538) (.ref 277)),
 (DictEntry.mk (kh P "_law_told") (.str "_law_told" 548) (.ref 284)),
 (DictEntry.mk (kh P "_law_odd") (.str "_law_odd" 564) (.ref 291)),
 (DictEntry.mk (kh P "_law_pairs_right") (.str "_law_pairs_right" 578) (.ref 298)),
 (DictEntry.mk (kh P "law") (.str "law" 590) (.ref 305))]
noncomputable def plc:List Value:=[(.int 2 0),(.int 0 0),(.ref 20),(.int 6 0),(.int 0 0),(.ref 40),(.int 12 0),(.int 0 0),(.ref 59),(.int 14 0),(.int 0 0),(.ref 71),(.int 16 0),(.int 0 0),(.ref 83),(.int 21 0),(.int 0 0),(.ref 102),(.int 24 0),(.int 0 0),(.ref 114),(.int 32 0),(.int 0 0),(.ref 121),(.int 34 0),(.int 0 0),(.ref 128),(.int 36 0),(.int 0 0),(.ref 135),(.int 38 0),(.int 0 0),(.ref 142),(.int 40 0),(.int 0 0),(.ref 147),(.int 48 0),(.int 0 0),(.ref 154),(.int 53 0),(.int 0 0),(.ref 161),(.int 59 0),(.int 0 0),(.ref 168),(.int 65 0),(.int 0 0),(.ref 175),(.int 69 0),(.int 0 0),(.ref 182),(.int 77 0),(.int 0 0),(.ref 189),(.int 87 0),(.int 0 0),(.ref 196),(.int 93 0),(.int 0 0),(.ref 203),(.int 97 0),(.int 0 0),(.ref 210),(.int 102 0),(.int 0 0),(.ref 217),(.int 107 0),(.int 0 0),(.ref 224),(.int 118 0),(.int 0 0),(.ref 231),(.int 126 0),(.int 0 0),(.ref 238),(.int 130 0),(.int 0 0),(.ref 245),(.int 135 0),(.int 0 0),(.ref 250),(.int 150 0),(.int 0 0),(.ref 257),(.int 152 0),(.int 0 0),(.ref 264),(.int 156 0),(.int 0 0),(.ref 271),(.int 162 0),(.int 0 0),(.ref 276),(.int 174 0),(.int 0 0),(.ref 283),(.int 188 0),(.int 0 0),(.ref 290),(.int 214 0),(.int 0 0),(.ref 297),(.int 224 0),(.int 0 0),(.ref 304)]
noncomputable def ov0(P:Params):List (Nat×Obj):=[(12,fldO (plc.take 0))]
noncomputable def T0(P:Params):BT:=L12 15 (fun b=>obAt [12] P (ov0 P) ob b 0) 1 0 0
noncomputable abbrev S0(w:World)(os:OsState):SharedT:=⟨T0 w.params,15,jC,#[],⟨0,0,0,0⟩,187,os⟩
noncomputable def ov1(P:Params):List (Nat×Obj):=[(3,m3 P (.str "ringloads.errors" 187) ((ents P).take 1) 10),(12,fldO (plc.take 3)),(31,(Obj.mk (.type "type") none (.cls (PySem.ClassData.mk "LoadError" [(.type "ValueError")] [(.ref 31),(.type "ValueError"),(.type "Exception"),(.type "BaseException"),(.type "object")] 30 "LoadError" true [] [] false none false)) #[(some (.ref 15)),none,(some (.str "LoadError" 189)),(some (.str "LoadError" 197)),(some (.builtin "ValueError.__new__")),(some (.bool true))]))]
noncomputable def T1(P:Params):BT:=L12 35 (fun b=>obAt [3,12,31] P (ov1 P) ob b 1) 1 0 1
noncomputable abbrev S1(w:World)(os:OsState):SharedT:=⟨T1 w.params,35,jC,#[],⟨0,0,0,0⟩,215,os⟩
noncomputable def ov2(P:Params):List (Nat×Obj):=[(3,m3 P (.str "ringloads.errors" 187) ((ents P).take 2) 11),(12,fldO (plc.take 6)),(31,(Obj.mk (.type "type") none (.cls (PySem.ClassData.mk "LoadError" [(.type "ValueError")] [(.ref 31),(.type "ValueError"),(.type "Exception"),(.type "BaseException"),(.type "object")] 30 "LoadError" true [] [(.ref 51)] false none false)) #[(some (.ref 15)),none,(some (.str "LoadError" 189)),(some (.str "LoadError" 197)),(some (.builtin "ValueError.__new__")),(some (.bool true))]))]
noncomputable def T2(P:Params):BT:=L12 54 (fun b=>obAt [3,12,31] P (ov2 P) ob b 2) 1 0 2
noncomputable abbrev S2(w:World)(os:OsState):SharedT:=⟨T2 w.params,54,jC,#[],⟨0,0,0,0⟩,242,os⟩
noncomputable def ov3(P:Params):List (Nat×Obj):=[(3,m3 P (.str "ringloads.errors" 187) ((ents P).take 3) 12),(12,fldO (plc.take 9)),(31,(Obj.mk (.type "type") none (.cls (PySem.ClassData.mk "LoadError" [(.type "ValueError")] [(.ref 31),(.type "ValueError"),(.type "Exception"),(.type "BaseException"),(.type "object")] 30 "LoadError" true [] [(.ref 51),(.ref 63)] false none false)) #[(some (.ref 15)),none,(some (.str "LoadError" 189)),(some (.str "LoadError" 197)),(some (.builtin "ValueError.__new__")),(some (.bool true))]))]
noncomputable def T3(P:Params):BT:=L12 66 (fun b=>obAt [3,12,31] P (ov3 P) ob b 3) 1 0 3
noncomputable abbrev S3(w:World)(os:OsState):SharedT:=⟨T3 w.params,66,jC,#[],⟨0,0,0,0⟩,258,os⟩
noncomputable def ov4(P:Params):List (Nat×Obj):=[(3,m3 P (.str "ringloads.errors" 187) ((ents P).take 4) 13),(12,fldO (plc.take 12)),(31,(Obj.mk (.type "type") none (.cls (PySem.ClassData.mk "LoadError" [(.type "ValueError")] [(.ref 31),(.type "ValueError"),(.type "Exception"),(.type "BaseException"),(.type "object")] 30 "LoadError" true [] [(.ref 51),(.ref 63),(.ref 75)] false none false)) #[(some (.ref 15)),none,(some (.str "LoadError" 189)),(some (.str "LoadError" 197)),(some (.builtin "ValueError.__new__")),(some (.bool true))]))]
noncomputable def T4(P:Params):BT:=L12 78 (fun b=>obAt [3,12,31] P (ov4 P) ob b 4) 1 0 4
noncomputable abbrev S4(w:World)(os:OsState):SharedT:=⟨T4 w.params,78,jC,#[],⟨0,0,0,0⟩,274,os⟩
noncomputable def ov5(P:Params):List (Nat×Obj):=[(3,m3 P (.str "ringloads.errors" 187) ((ents P).take 5) 14),(12,fldO (plc.take 15)),(31,(Obj.mk (.type "type") none (.cls (PySem.ClassData.mk "LoadError" [(.type "ValueError")] [(.ref 31),(.type "ValueError"),(.type "Exception"),(.type "BaseException"),(.type "object")] 30 "LoadError" true [] [(.ref 51),(.ref 63),(.ref 75),(.ref 94)] false none false)) #[(some (.ref 15)),none,(some (.str "LoadError" 189)),(some (.str "LoadError" 197)),(some (.builtin "ValueError.__new__")),(some (.bool true))]))]
noncomputable def T5(P:Params):BT:=L12 97 (fun b=>obAt [3,12,31] P (ov5 P) ob b 5) 1 0 5
noncomputable abbrev S5(w:World)(os:OsState):SharedT:=⟨T5 w.params,97,jC,#[],⟨0,0,0,0⟩,299,os⟩
noncomputable def ov6(P:Params):List (Nat×Obj):=[(3,m3 P (.str "ringloads.names" 326) ((ents P).take 12) 21),(12,fldO (plc.take 33))]
noncomputable def T6(P:Params):BT:=L12 144 (fun b=>obAt [3,12] P (ov6 P) ob b 6) 1 0 6
noncomputable abbrev S6(w:World)(os:OsState):SharedT:=⟨T6 w.params,144,jC,#[],⟨0,0,0,0⟩,359,os⟩
noncomputable def ov7(P:Params):List (Nat×Obj):=[(3,m3 P (.str "law_ringloads_k68_what_is_a_string" 453) ((ents P).take 27) 36),(12,fldO (plc.take 66))]
noncomputable def T7(P:Params):BT:=L12 219 (fun b=>obAt [3,12] P (ov7 P) ob b 7) 1 0 7
noncomputable abbrev S7(w:World)(os:OsState):SharedT:=⟨T7 w.params,219,jC,#[],⟨0,0,0,0⟩,464,os⟩
noncomputable def ov8(P:Params):List (Nat×Obj):=[(3,m3 P (.str "law_ringloads_k68_what_is_a_string" 453) ((ents P).take 39) 48),(12,fldO (plc.take 102))]
noncomputable def T8(P:Params):BT:=L12 299 (fun b=>obAt [3,12] P (ov8 P) ob b 8) 1 0 8
noncomputable abbrev S8(w:World)(os:OsState):SharedT:=⟨T8 w.params,299,jC,#[],⟨0,0,0,0⟩,579,os⟩
noncomputable def ov9(P:Params):List (Nat×Obj):=[(3,m3 P (.str "law_ringloads_k68_what_is_a_string" 453) ((ents P).take 40) 49),(12,fldO (plc.take 105))]
noncomputable def T9(P:Params):BT:=L12 306 (fun b=>obAt [3,12] P (ov9 P) ob b 9) 1 0 9
noncomputable abbrev S9(w:World)(os:OsState):SharedT:=⟨T9 w.params,306,jC,#[],⟨0,0,0,0⟩,591,os⟩
abbrev env:Env:={scope:=pr.main.scope,locals:=mainNs,globals:=mainNs,cells:=[],code:=.ref 13,frame:=some 14}
abbrev cE:Code:=.body (behindTheImports pr) env
abbrev B:List Frame:=[topFrame ⟨0,0,0,0⟩]
def sts1:List Stmt:=(pr.main.body.drop 0).take 2
theorem pc1(w:World)(os:OsState):segRunT treeTable pr w 11 (some (.ref 6)) 1 227 (S0 w os) (piecesOf sts1 env cE ⟨0,0,0,0⟩ B)=some (.next,S1 w os,cE,⟨2,0,5,39⟩):=i2 (by kernel_rfl)
def sts2:List Stmt:=(pr.main.body.drop 2).take 1
theorem pc2(w:World)(os:OsState):segRunT treeTable pr w 11 (some (.ref 6)) 1 248 (S1 w os) (piecesOf sts2 env cE ⟨2,0,5,39⟩ B)=some (.next,S2 w os,cE,⟨6,0,11,28⟩):=i2 (by kernel_rfl)
def sts3:List Stmt:=(pr.main.body.drop 3).take 1
theorem pc3(w:World)(os:OsState):segRunT treeTable pr w 11 (some (.ref 6)) 1 214 (S2 w os) (piecesOf sts3 env cE ⟨6,0,11,28⟩ B)=some (.next,S3 w os,cE,⟨12,0,13,8⟩):=i2 (by kernel_rfl)
def sts4:List Stmt:=(pr.main.body.drop 4).take 1
theorem pc4(w:World)(os:OsState):segRunT treeTable pr w 11 (some (.ref 6)) 1 214 (S3 w os) (piecesOf sts4 env cE ⟨12,0,13,8⟩ B)=some (.next,S4 w os,cE,⟨14,0,15,8⟩):=i2 (by kernel_rfl)
def sts5:List Stmt:=(pr.main.body.drop 5).take 1
theorem pc5(w:World)(os:OsState):segRunT treeTable pr w 11 (some (.ref 6)) 1 246 (S4 w os) (piecesOf sts5 env cE ⟨14,0,15,8⟩ B)=some (.next,S5 w os,cE,⟨16,0,20,28⟩):=i2 (by kernel_rfl)
def sts6:List Stmt:=(pr.main.body.drop 6).take 9
theorem pc6(w:World)(os:OsState):segRunT treeTable pr w 11 (some (.ref 6)) 1 389 (S5 w os) (piecesOf sts6 env cE ⟨16,0,20,28⟩ B)=some (.next,S6 w os,cE,⟨38,0,39,97⟩):=i2 (by kernel_rfl)
def sts7:List Stmt:=(pr.main.body.drop 15).take 18
theorem pc7(w:World)(os:OsState):segRunT treeTable pr w 11 (some (.ref 6)) 1 395 (S6 w os) (piecesOf sts7 env cE ⟨38,0,39,97⟩ B)=some (.next,S7 w os,cE,⟨102,0,106,115⟩):=i2 (by kernel_rfl)
def sts8:List Stmt:=(pr.main.body.drop 33).take 12
theorem pc8(w:World)(os:OsState):segRunT treeTable pr w 11 (some (.ref 6)) 1 376 (S7 w os) (piecesOf sts8 env cE ⟨102,0,106,115⟩ B)=some (.next,S8 w os,cE,⟨214,0,223,15⟩):=i2 (by kernel_rfl)
def sts9:List Stmt:=(pr.main.body.drop 45).take 1
theorem pc9(w:World)(os:OsState):segRunT treeTable pr w 11 (some (.ref 6)) 1 35 (S8 w os) (piecesOf sts9 env cE ⟨214,0,223,15⟩ B)=some (.next,S9 w os,cE,⟨224,0,236,47⟩):=i2 (by kernel_rfl)
noncomputable abbrev H1(P:Params):Heap:=absHeap (T9 P) 306 jC
theorem pre(w:World)(os:OsState):topGo treeTable pr w 11 (some (.ref 6)) 12 ⟨boot_heap w.params,#[],boot_drawn,boot_toks,os⟩ (topStub pr)=some (⟨⟨⟨Ac w.params⟩,jC⟩,#[],⟨0,0,0,0⟩,187,os⟩,⟨denote treeTable cE,cE,⟨0,0,0,0⟩,B⟩):=by rw[BV];exact CK (by kernel_rfl)
theorem yd(w:World)(os:OsState):segRun treeTable pr w 11 (some (.ref 6)) 1 1 ⟨⟨⟨Ac w.params⟩,jC⟩,#[],⟨0,0,0,0⟩,187,os⟩ (blockOf (behindTheImports pr) env cE ⟨0,0,0,0⟩ B)=some (.next,(S0 w os).abs,cE,⟨0,0,0,0⟩):=by kernel_rfl
theorem fin(w:World)(os:OsState):topRun treeTable pr w 11 (some (.ref 6)) 2 (S9 w os).abs ⟨doneF .next,cE,⟨224,0,236,47⟩,B⟩=some ⟨H1 w.params,#[],⟨0,0,0,0⟩,591,os⟩:=BU (by kernel_rfl)
theorem Ae:behindTheImports pr=(sts1++(sts2++(sts3++(sts4++(sts5++(sts6++(sts7++(sts8++(sts9++[]))))))))):=by kernel_rfl
theorem run(w:World)(os:OsState):topRun treeTable pr w 11 (some (.ref 6)) (12+(1+(227+(248+(214+(214+(246+(389+(395+(376+(35+2))))))))))) ⟨boot_heap w.params,#[],boot_drawn,boot_toks,os⟩ (topStub pr)=some ⟨H1 w.params,#[],⟨0,0,0,0⟩,591,os⟩ :=
 go_top (pre w os) (piece_block (yd w os) (Ad Ae (piece_app (segRun_of (pc1 w os)) (piece_app (segRun_of (pc2 w os)) (piece_app (segRun_of (pc3 w os)) (piece_app (segRun_of (pc4 w os)) (piece_app (segRun_of (pc5 w os)) (piece_app (segRun_of (pc6 w os)) (piece_app (segRun_of (pc7 w os)) (piece_app (segRun_of (pc8 w os)) (piece_app (segRun_of (pc9 w os)) (piece_nil (fin w os)))))))))))))
abbrev q:Program:=view pr [23,28,45]
noncomputable def loose:List Str:=(["LoadError","NoRing","TooMany","NoPlace","NoString","NoName","greatest_shared","LONGEST_NAME","is_whole","is_number_below","are_two_wholes","is_ratio","is_name","FEWEST_TIES","MOST_TIES","MOST_ASKS","look_at_ring","is_ring","look_at_rooms","look_at_each_ask","is_ask","MOST_RINGS","can_hang","is_place","_law_begun","_law_take","_law_low","_law_amount","_law_place","_law_string","_law_whole","_law_ratio","_law_is_place","_law_fault","_law_told","_law_odd","_law_pairs_right"]:List String).map Str.ofString
noncomputable def Kf(P:Params):Frag:=(3,((ov9 P).getD 0 (0,default)).2)::[(2,boot_o_2 P),(15,(f1 P).getD 0 default),(16,(f1 P).getD 1 default),(17,(f1 P).getD 2 default),(18,(f1 P).getD 3 default),(19,(f1 P).getD 4 default),(20,(f1 P).getD 5 default),(21,(f1 P).getD 6 default),(22,(f1 P).getD 7 default),(23,(f1 P).getD 8 default),(24,(f1 P).getD 9 default),(25,(f1 P).getD 10 default),(26,(f1 P).getD 11 default),(27,(f1 P).getD 12 default),(28,(f1 P).getD 13 default),(29,(f1 P).getD 14 default),(30,(f1 P).getD 15 default),(31,(f1 P).getD 16 default),(32,(f1 P).getD 17 default),(33,(f1 P).getD 18 default),(34,(f1 P).getD 19 default),(35,(f2 P).getD 0 default),(36,(f2 P).getD 1 default),(37,(f2 P).getD 2 default),(38,(f2 P).getD 3 default),(39,(f2 P).getD 4 default),(40,(f2 P).getD 5 default),(41,(f2 P).getD 6 default),(42,(f2 P).getD 7 default),(43,(f2 P).getD 8 default),(44,(f2 P).getD 9 default),(45,(f2 P).getD 10 default),(46,(f2 P).getD 11 default),(47,(f2 P).getD 12 default),(48,(f2 P).getD 13 default),(49,(f2 P).getD 14 default),(50,(f2 P).getD 15 default),(51,(f2 P).getD 16 default),(52,(f2 P).getD 17 default),(53,(f2 P).getD 18 default),(54,(f3 P).getD 0 default),(55,(f3 P).getD 1 default),(56,(f3 P).getD 2 default),(57,(f3 P).getD 3 default),(58,(f3 P).getD 4 default),(59,(f3 P).getD 5 default),(60,(f3 P).getD 6 default),(61,(f3 P).getD 7 default),(62,(f3 P).getD 8 default),(63,(f3 P).getD 9 default),(64,(f3 P).getD 10 default),(65,(f3 P).getD 11 default),(66,(f4 P).getD 0 default),(67,(f4 P).getD 1 default),(68,(f4 P).getD 2 default),(69,(f4 P).getD 3 default),(70,(f4 P).getD 4 default),(71,(f4 P).getD 5 default),(72,(f4 P).getD 6 default),(73,(f4 P).getD 7 default),(74,(f4 P).getD 8 default),(75,(f4 P).getD 9 default),(76,(f4 P).getD 10 default),(77,(f4 P).getD 11 default),(78,(f5 P).getD 0 default),(79,(f5 P).getD 1 default),(80,(f5 P).getD 2 default),(81,(f5 P).getD 3 default),(82,(f5 P).getD 4 default),(83,(f5 P).getD 5 default),(84,(f5 P).getD 6 default),(85,(f5 P).getD 7 default),(86,(f5 P).getD 8 default),(87,(f5 P).getD 9 default),(88,(f5 P).getD 10 default),(89,(f5 P).getD 11 default),(90,(f5 P).getD 12 default),(91,(f5 P).getD 13 default),(92,(f5 P).getD 14 default),(93,(f5 P).getD 15 default),(94,(f5 P).getD 16 default),(95,(f5 P).getD 17 default),(96,(f5 P).getD 18 default),(97,(f6 P).getD 0 default),(98,(f6 P).getD 1 default),(99,(f6 P).getD 2 default),(100,(f6 P).getD 3 default),(101,(f6 P).getD 4 default),(102,(f6 P).getD 5 default),(103,(f6 P).getD 6 default),(104,(f6 P).getD 7 default),(105,(f6 P).getD 8 default),(106,(f6 P).getD 9 default),(107,(f6 P).getD 10 default),(108,(f6 P).getD 11 default),(114,(f8 P).getD 5 default),(115,(f8 P).getD 6 default),(121,(f11 P).getD 5 default),(122,(f11 P).getD 6 default),(128,(f12 P).getD 5 default),(129,(f12 P).getD 6 default),(135,(f13 P).getD 5 default),(136,(f13 P).getD 6 default),(142,(f14 P).getD 5 default),(143,(f14 P).getD 6 default),(147,(f15 P).getD 3 default),(148,(f15 P).getD 4 default),(154,(f20 P).getD 5 default),(155,(f20 P).getD 6 default),(161,(f21 P).getD 5 default),(162,(f21 P).getD 6 default),(168,(f22 P).getD 5 default),(169,(f22 P).getD 6 default),(175,(f23 P).getD 5 default),(176,(f23 P).getD 6 default),(182,(f24 P).getD 5 default),(183,(f24 P).getD 6 default),(189,(f25 P).getD 5 default),(190,(f25 P).getD 6 default),(196,(f28 P).getD 5 default),(197,(f28 P).getD 6 default),(203,(f29 P).getD 5 default),(204,(f29 P).getD 6 default),(210,(f30 P).getD 5 default),(211,(f30 P).getD 6 default),(217,(f32 P).getD 5 default),(218,(f32 P).getD 6 default),(224,(f33 P).getD 5 default),(225,(f33 P).getD 6 default),(231,(f34 P).getD 5 default),(232,(f34 P).getD 6 default),(238,(f35 P).getD 5 default),(239,(f35 P).getD 6 default),(245,(f36 P).getD 5 default),(246,(f36 P).getD 6 default),(250,(f37 P).getD 3 default),(251,(f37 P).getD 4 default),(257,(f38 P).getD 5 default),(258,(f38 P).getD 6 default),(264,(f39 P).getD 5 default),(265,(f39 P).getD 6 default),(271,(f40 P).getD 5 default),(272,(f40 P).getD 6 default),(276,(f41 P).getD 3 default),(277,(f41 P).getD 4 default),(283,(f42 P).getD 5 default),(284,(f42 P).getD 6 default),(290,(f43 P).getD 5 default),(291,(f43 P).getD 6 default),(297,(f44 P).getD 5 default),(298,(f44 P).getD 6 default),(304,(f45 P).getD 5 default),(305,(f45 P).getD 6 default)]
noncomputable abbrev as:List Addr:=[3,2,15,16,17,18,19,20,21,22,23,24,25,26,27,28,29,30,31,32,33,34,35,36,37,38,39,40,41,42,43,44,45,46,47,48,49,50,51,52,53,54,55,56,57,58,59,60,61,62,63,64,65,66,67,68,69,70,71,72,73,74,75,76,77,78,79,80,81,82,83,84,85,86,87,88,89,90,91,92,93,94,95,96,97,98,99,100,101,102,103,104,105,106,107,108,114,115,121,122,128,129,135,136,142,143,147,148,154,155,161,162,168,169,175,176,182,183,189,190,196,197,203,204,210,211,217,218,224,225,231,232,238,239,245,246,250,251,257,258,264,265,271,272,276,277,283,284,290,291,297,298,304,305]
noncomputable abbrev Hk:Hook:=kHook Kf as (fun _=>by kernel_rfl)
abbrev Xt:Shared→Bool:=fun s=>xlAt q [] s && recOk (RowW.records PySem.Challenge.rw_ringloads_k68_what_is_a_string.row.toRowW) s
theorem size (w:World):((boot_heap w.params).isNs mainGlobals && (#[]:Array GenState).size == 0,(boot_heap w.params).objs.size,(boot_heap w.params).nsMap mainGlobals "__annotations__")=(true,11,some (.ref 6)):=by kernel_rfl
theorem CL(w:World)(os:OsState):(staticsOk (importedModules pr.main.body) (boot_heap w.params) (H1 w.params) && namesBound pr (H1 w.params) && gensDone ⟨H1 w.params,#[],⟨0,0,0,0⟩,591,os⟩ && laidKept (boot_heap w.params) (H1 w.params))=true:=by kernel_rfl
theorem CM(w:World)(os:OsState):openSeen q loose (importedModules pr.main.body) Xt true ⟨H1 w.params,#[],⟨0,0,0,0⟩,591,os⟩=openGood q loose:=by rw[Fast.te4187177175401517315];kernel_rfl
theorem CN(w:World)(os:OsState):Hk.obs ⟨H1 w.params,#[],⟨0,0,0,0⟩,591,os⟩=Hk.val w:=by kernel_rfl
theorem BW:opening pr=plainProg pr.main.scope.names:=by kernel_rfl
theorem left:LeftO pr q loose Xt Hk.obs Hk.val 5370:=LeftO.of_pieces (M:=(12+(1+(227+(248+(214+(214+(246+(389+(395+(376+(35+2)))))))))))) (boot_open BW (by decide) (fun s=>by kernel_rfl)) size run (by decide +kernel) (fun w=>funext fun os=>looks_pair (CL w os) (looks_pair (CM w os) (CN w os)))
end Hd
namespace My
open PySem L2
local macro_rules | `(tactic| walk_at "w")=>do
 let ids:=("mV k9 datV fnV isDk noLs noL wTry qQ n4 mf gu uQ n5 n6 fldD isC isA sk okX wV zw wW Bs wDIn zr wDct dicV lQ wq uD yZ y1 pH AU vZ yv AV v5 yw we A8 yL yU n9 zE w5 w4 zG Be Ci yW Bf Cj yY Ck AR AS vY t7 pC Bd wo yS uB si wx wD wF wRep pD j3 wz wSeq wIf aB wBin wUn wVar t8 wC wSet wRet nL aX br a8 aH aVal aVar aNil toD toDs iK isBl wTup wLst wNot wAnd wOr iI wOrV v7 wIfE wFrz d8 wIxV uj wApp noL noLs dM wu yT nX List.all_cons List.all_nil Bool.and_true Bool.true_and ownV wPar yJ wFor nN yz wSrc uA fR pR pS sy cb u9 va xi gj bW eH iN o8 kR rW opLt opLe opGt opGe opEq opNe ua xa xb xc xf xg zK zL zM zN BD BE zR zS Cy Cz vf vg zU Bb wm xU mW vi u5 rg mi u7 BF xh List.length_map u6 vb vc vd xj sD ve pT pU pV oe pW mX xk zO rX wd wc pf nO kU cG xl zV xm xn xq xr sE og oh vh zW pw kW beq_self_eq_true String.reduceBEq String.reduceEq reduceCtorEq wSl2 rY nT bQ eW a6 r9 uy se ik yP Ba List.getElem?_cons_zero List.getElem?_cons_succ List.set_cons_zero List.set_cons_succ List.cons_append List.nil_append List.replicate_succ List.replicate_zero List.map_cons List.map_nil List.drop_succ_cons List.drop_zero Option.getD_some true_and decide_eq_true_eq Bool.not_eq_true' decide_eq_false_iff_not ite_true ite_false Bool.false_eq_true Bool.true_eq_false if_true if_false List.length_cons List.length_nil Nat.reduceAdd Nat.reduceSub su sx Bz BA Cv ix30 ix31 ix32 Option.some.injEq exists_eq_left' exists_eq_left".splitOn " ").toArray.map fun s=>Lean.mkIdent ((s.splitOn ".").foldl Lean.Name.mkStr Lean.Name.anonymous)
 `(tactic| try simp only [$[$ids:ident],*])
local macro_rules | `(tactic| walk_at "o")=>`(tactic| first | exact Or.inl rfl | exact Or.inr rfl)
abbrev cJ:Stmt:=Hd.top 8
noncomputable abbrev jD:List Str:=["one","other","rest"]
abbrev jE:Stmt:=Hd.top 11
noncomputable abbrev sH:List Str:=["thing"]
abbrev cK:Stmt:=Hd.top 12
noncomputable abbrev jF:List Str:=["thing","many"]
abbrev c9:Stmt:=Hd.top 13
noncomputable abbrev kq:List Str:=["thing"]
abbrev jG:Stmt:=Hd.top 14
noncomputable abbrev sI:List Str:=["thing"]
abbrev i3:Stmt:=Hd.top 15
noncomputable abbrev oy:List Str:=["thing"]
abbrev dP:Stmt:=Hd.top 22
noncomputable abbrev lp:List Str:=["rooms","number","room"]
abbrev m4:Stmt:=Hd.top 25
noncomputable abbrev xC:List Str:=["thing","is_end"]
abbrev cj:Stmt:=Hd.top 24
noncomputable abbrev i4:List Str:=["asks","is_end","taken","number","ask"]
abbrev cS:Stmt:=Hd.top 23
noncomputable abbrev lR:List Str:=["asks","places"]
abbrev eK:Stmt:=Hd.top 20
noncomputable abbrev lS:List Str:=["thing"]
abbrev lq:Stmt:=Hd.top 21
noncomputable abbrev vt:List Str:=["thing"]
abbrev jH:Stmt:=Hd.top 30
noncomputable abbrev sJ:List Str:=["string","thing"]
abbrev jI:Stmt:=Hd.top 29
noncomputable abbrev sL:List Str:=["ahead","thing"]
abbrev da:Stmt:=Hd.top 28
noncomputable abbrev kr:List Str:=["thing","number","one"]
abbrev iq:Stmt:=Hd.top 33
noncomputable abbrev p8:List Str:=["_law_state","_law_many","_law_digit","_law_drawn","_law_turn"]
abbrev jJ:Stmt:=Hd.top 34
noncomputable abbrev sM:List Str:=["_law_top","_law_bottom","_law_one","_law_share"]
abbrev fy:Stmt:=Hd.top 35
noncomputable abbrev m5:List Str:=["_law_state","_law_least","_law_kind","_law_bottom","_law_top"]
abbrev gA:Stmt:=Hd.top 36
noncomputable abbrev oz:List Str:=["_law_state","_law_string_here","_law_ring"]
abbrev dm:Stmt:=Hd.top 37
noncomputable abbrev i5:List Str:=["_law_state","_law_most","_law_places","_law_string_here","_law_shape","_law_k","_law_kind","_law_rooms","_law_at"]
abbrev gB:Stmt:=Hd.top 32
noncomputable abbrev oA:List Str:=["_law_script","_law_k","_law_cell"]
abbrev jK:Stmt:=Hd.top 43
noncomputable abbrev sN:List Str:=["_law_state","_law_string_here","_law_at","_law_rooms","_law_hung","_law_way","_law_some","_law_odd_here","_law_tie","_law_ahead"]
abbrev ir:Stmt:=Hd.top 42
noncomputable abbrev p9:List Str:=["_law_thing","_law_caught","_law_told_here","e"]
abbrev gC:Stmt:=Hd.top 38
noncomputable abbrev oB:List Str:=["_law_thing"]
abbrev dQ:Stmt:=Hd.top 40
noncomputable abbrev lr:List Str:=["_law_string_here","_law_thing"]
abbrev ck:Stmt:=Hd.top 44
noncomputable abbrev i6:List Str:=["_law_state","_law_string_here","_law_turn","_law_ring","_law_place_here","_law_odd_here","_law_thing","_law_told_here"]
abbrev gD:Stmt:=Hd.top 39
noncomputable abbrev oC:List Str:=["_law_thing"]
abbrev ee:Stmt:=Hd.top 41
noncomputable abbrev j6:List Str:=["_law_thing","_law_k","_law_one"]
abbrev xD:Stmt:=Hd.top 45
noncomputable abbrev CO:List Str:=["_law_script","_law_string_here","_law_shown","_law_k","_law_thing","_law_kept"]
def cm:FS:=fun ls post=>∃a b:Int,ls=[.d (.int a),.d (.int b)]∧post (.d (.int (Int.gcd a b))) ls
def iu:W Fl:=(wSeq (wSet 2 (wBin kR (wVar 0) (wVar 1)))
  (wSeq (wSet 0 (wVar 1))
  (wSet 1 (wVar 2))))
def cL:W Fl:=(wSeq (ub (aB (wBin opNe (wVar 1) (wC (.int 0)))) iu)
  (wRet (aH rX (aVal (wVar 0) aNil))))
theorem iw:∀ls post,ls.length=2→cm ls post→cL (ls++List.replicate 1 .un) (bL ls post):=by
 rintro ls post - ⟨a,b,rfl,h⟩
 unfold cL
 walk_at "w"
 refine⟨fun n ρ=>∃x y r,ρ=[.d (.int x),.d (.int y),r]∧Int.gcd x y=Int.gcd a b∧n=y.natAbs,⟨_,a,b,_,rfl,rfl,rfl⟩,?_⟩
 rintro n ρ ⟨x,y,r,rfl,hg,rfl⟩
 walk_at "w"
 split
 ·
  rename_i hy
  have hy:y≠0:=by simpa using hy
  exact⟨hy,_,hW x hy,y,x.fmod y,_,rfl,by rw[qH];exact hg,rfl⟩
 ·
  rename_i hy
  have hy:y=0:=by simpa using hy
  subst hy
  refine⟨_,ao (ao aK),?_⟩
  have e:(if x<0 then -x else x)=((Int.gcd a b:Nat):Int):=by rw[← hg,Int.gcd_zero_right];split<;>omega
  rw[e]
  exact h
def dR:FS:=fun ls post=>(∃i:Int,ls=[.d (.int i)]∧post (.d (.bl true)) ls)∨∃d:D,ls=[.d d]∧(∀i,d≠.int i)∧post (.d (.bl false)) ls
def g8:W Fl:=(wRet (iI (wUn (cG "int") (wVar 0)) (v7 (aB (wUn (cG "bool") (wVar 0))))))
theorem oE:∀ls post,ls.length=1→dR ls post→g8 (ls++List.replicate 0 .un) (bL ls post):=by
 rintro ls post-(⟨i,rfl,h⟩|⟨d,rfl,hd,h⟩)
 ·
  unfold g8
  walk_at "w"
  exact⟨_,ao aK,h⟩
 ·
  unfold g8
  cases d with
  |int i=>exact absurd rfl (hd i)
  |_=>walk_at "w"; exact⟨_,ao aK,h⟩
def bf:FS:=fun ls post=>∃(d:D)(n:Int),ls=[.d d,.d (.int n)]∧post (.d (.bl (gv d n))) ls
def cM:W Fl:=(wRet (iI (br dR (aVal (wVar 0) aNil)) (fR opLe opLt (wC (.int 0)) (wVar 0) (wVar 1))))
theorem ix:∀ls post,ls.length=2→bf ls post→cM (ls++List.replicate 0 .un) (bL ls post):=by
 rintro ls post - ⟨d,n,rfl,h⟩
 unfold cM
 by_cases hd:∃i,d=.int i
 ·
  obtain⟨i,rfl⟩:=hd
  have h:post (.d (.bl (decide (0≤i∧i<n)))) [.d (.int i),.d (.int n)]:=h
  walk_at "w"
  refine .inl ⟨i,rfl,?_⟩
  walk_at "w"
  by_cases c:0≤i
  ·
   rw[if_pos c]
   have e:decide (0≤i∧i<n)=decide (i<n):=by rw[decide_eq_decide];omega
   rw[e]at h
   exact⟨_,ao (ao aK),h⟩
  ·
   rw[if_neg c]
   have e:decide (0≤i∧i<n)=false:=decide_eq_false (by omega)
   rw[e]at h
   exact⟨_,ao (ao aK),h⟩
 ·
  have e:gv d n=false:=by
   unfold gv
   split
   ·
    exact absurd ⟨_,rfl⟩ hd
   ·
    rfl
  rw[e]at h
  walk_at "w"
  refine .inr ⟨d,rfl,fun i e=>hd ⟨i,e⟩,?_⟩
  walk_at "w"
  exact⟨_,ao (ao aK),h⟩
def twoB:D→Bool
 |.tup [.int _,.int _]=>true
 |_=>false
theorem Af{d:D}(h:twoB d=true):∃i j,d=.tup [.int i,.int j]:=by
 unfold twoB at h
 split at h
 ·
  exact⟨_,_,rfl⟩
 ·
  cases h
theorem oF(d:D):(∃i j,d=.tup [.int i,.int j])∨(∀i j,d≠.tup [.int i,.int j]):=by
 cases h:twoB d with
 |true=>exact .inl (Af h)
 |false=>exact .inr fun i j e=>by subst e;cases h
def bM:FS:=fun ls post=>(∃i j:Int,ls=[.d (.tup [.int i,.int j])]∧post (.d (.bl true)) ls)∨∃d:D,ls=[.d d]∧(∀i j,d≠.tup [.int i,.int j])∧post (.d (.bl false)) ls
def bT:W Fl:=(wRet (iI (wUn (cG "tuple") (wVar 0)) (iI (wBin opEq (aH bp (aVal (wVar 0) aNil)) (wC (.int 2))) (iI (br dR (aVal (wBin opIx (wVar 0) (wC (.int 0))) aNil)) (br dR (aVal (wBin opIx (wVar 0) (wC (.int 1))) aNil))))))
theorem i7:∀ls post,ls.length=1→bM ls post→bT (ls++List.replicate 0 .un) (bL ls post):=by
 rintro ls post-(⟨i,j,rfl,h⟩|⟨d,rfl,hd,h⟩)
 ·
  unfold bT
  walk_at "w"
  refine .inl ⟨_,rfl,?_⟩
  walk_at "w"
  refine .inl ⟨_,rfl,?_⟩
  walk_at "w"
  exact⟨_,ao aK,h⟩
 ·
  unfold bT
  have fin:∀b:Bool,b=false→bL [.d d] post (.rt (.d (.bl b))) [.d d]:=fun b hb=>by subst hb;exact⟨_,ao aK,h⟩
  cases d with
  | tup xs =>
   match xs,hd with
   | [x,y],hd =>
    walk_at "w"
    have wh:∀z:D,(∃i,z=.int i)∨(∀i,z≠.int i):=fun z=>by cases z<;>simp
    rcases wh x with⟨i,rfl⟩|hx
    ·
     refine .inl ⟨_,rfl,?_⟩
     walk_at "w"
     rcases wh y with⟨j,rfl⟩|hy
     ·
      exact absurd rfl (hd i j)
     ·
      refine .inr ⟨_,rfl,hy,?_⟩
      walk_at "w"
      exact fin _ rfl
    ·
     refine .inr ⟨_,rfl,hx,?_⟩
     walk_at "w"
     exact fin _ rfl
   |[],_=>walk_at "w"; exact fin _ rfl
   |[x],_=>walk_at "w"; exact fin _ rfl
   | x::y::z::r,_ =>
    walk_at "w"
    have e:¬(((r.length+1+1+1:Nat):Int)=2):=by omega
    simp only[e,decide_false]
    exact fin _ rfl
  |_=>walk_at "w"; exact fin _ rfl
def fz:FS:=fun ls post=>∃d:D,ls=[.d d]∧post (.d (.bl (ratB d))) ls
def g9:W Fl:=(wRet (iI (br bM (aVal (wVar 0) aNil)) (iI (wBin opGe (wBin opIx (wVar 0) (wC (.int 1))) (wC (.int 1))) (wBin opEq (br cm (aVal (wBin opIx (wVar 0) (wC (.int 0))) (aVal (wBin opIx (wVar 0) (wC (.int 1))) aNil))) (wC (.int 1))))))
theorem oG:∀ls post,ls.length=1→fz ls post→g9 (ls++List.replicate 0 .un) (bL ls post):=by
 rintro ls post - ⟨d,rfl,h⟩
 by_cases hd:∃i j,d=.tup [.int i,.int j]
 ·
  obtain⟨i,j,rfl⟩:=hd
  unfold g9
  walk_at "w"
  refine .inl ⟨_,_,rfl,?_⟩
  walk_at "w"
  have e:ratB (.tup [.int i,.int j])=(decide (1≤j) && decide ((Int.gcd i j:Int)=1)):=rfl
  rw[e]at h
  split
  ·
   rename_i hj
   refine⟨_,_,rfl,?_⟩
   walk_at "w"
   have hj':(1:Int)≤j:=hj
   rw[decide_eq_true hj',Bool.true_and]at h
   exact⟨_,ao aK,h⟩
  ·
   rename_i hj
   have hj':¬(1:Int)≤j:=hj
   rw[decide_eq_false hj',Bool.false_and]at h
   exact⟨_,ao aK,h⟩
 ·
  have hn:∀i j,d≠.tup [.int i,.int j]:=fun i j e=>hd ⟨i,j,e⟩
  rw[vk hn]at h
  unfold g9
  walk_at "w"
  refine .inr ⟨_,rfl,hn,?_⟩
  walk_at "w"
  exact⟨_,ao aK,h⟩
def jL:FS:=fun ls post=>∃d:D,ls=[.d d]∧AscD d∧post (.d (.bl (pY d))) ls
def lu:W L:=(pD (wC (.str "a")) [(wz,(wVar 0)),(wz,(wC (.str "z")))])
def lx:W Fl:=(wSeq (wIf (wNot (aB (wUn (cG "str") (wVar 0)))) (wRet (wC (.bl false))) aX)
  (wRet (iI (fR opLe opLe (wC (.int 1)) (aH bp (aVal (wVar 0) aNil)) (wC (.int 8))) (aH Bg (aVal (wFrz (nT 1 [] (y1 (wVar 0)) (cb 0) r6 lu)) aNil)))))
theorem qa:∀ls post,ls.length=1→jL ls post→lx (ls++List.replicate 0 .un) (bL ls post):=by
 rintro ls post - ⟨d,rfl,ha,h⟩
 unfold lx
 cases d with
 | str x =>
  obtain⟨hx,hs⟩:=ha x rfl
  walk_at "w"
  have el:=xu x
  have e8:pY (.str x)=((decide (1≤x.cps.size) && decide (x.cps.size≤8)) && x.cps.toList.all pX):=rfl
  rw[e8]at h
  refine⟨Nat.le_trans (show x.length≤100 by omega) (by decide),?_⟩
  by_cases h1:1≤x.cps.size
  ·
   rw[if_pos (show(1:Int)≤(x.length:Int) by omega)]
   by_cases h2:x.cps.size≤8
   ·
    rw[if_pos (show(x.length:Int)≤8 by omega)]
    rw[decide_eq_true h1,decide_eq_true h2,Bool.true_and,Bool.true_and]at h
    refine⟨hx,by unfold j4;rw[List.length_map,Array.length_toList];exact Nat.le_trans (show x.cps.size≤100 by omega) (by decide),?_⟩
    unfold j4
    refine w7 (enc:=fun c=>D.str ⟨#[c]⟩) (h:=fun c=>D.bl (pX c)) _ _ _ (fun c hc Q q=>?_) fun l'=>?_
    ·
     unfold lu
     walk_at "w"
     unfold pX at q
     cases e1:pF "a" ⟨#[c]⟩with
     |false=>rw[e1,Bool.false_and]at q;rw[if_neg (by simp)];exact q
     |true=>rw[e1,Bool.true_and]at q;rw[if_pos rfl];exact q
    ·
     walk_at "w"
     intro aa
     refine⟨x.cps.toList.map pX,by rw[List.map_map];rfl,?_⟩
     have e9:(x.cps.toList.map pX).all id=x.cps.toList.all pX:=by rw[List.all_map];rfl
     rw[e9]
     exact⟨_,ao aK,h⟩
   ·
    rw[if_neg (show ¬(x.length:Int)≤8 by omega)]
    rw[decide_eq_false h2,Bool.and_false,Bool.false_and]at h
    exact⟨_,ao aK,h⟩
  ·
   rw[if_neg (show ¬(1:Int)≤(x.length:Int) by omega)]
   rw[decide_eq_false h1,Bool.false_and,Bool.false_and]at h
   exact⟨_,ao aK,h⟩
 |_=>walk_at "w"; exact⟨_,ao aK,h⟩
def de:FSX:=fun ds post xp=>∃ d:D,ds=[d]∧(∀ rs,d=.lst rs→rs.length≤1000)∧(bc d=none→post (.d .non))∧∀ k,bc d=some k→xp (NR "rooms" (optN k))
def cN(xp:Xc→Prop):W Fl:=(wIf (wOr (wNot (aB (br fz (aVal (wVar 2) aNil)))) (aB (wBin opLe (wBin opIx (wVar 2) (wC (.int 0))) (wC (.int 0))))) (gu "NoRing" ["part","number"] xp (aVal (wC (.str "rooms")) (aVal (wVar 1) aNil))) aX)
def dS(xp:Xc→Prop):W Fl:=(wSeq (wIf (wOr (wNot (aB (wUn (cG "list") (wVar 0)))) (wNot (aB (fR opLe opLe (wC (.int 2)) (aH bp (aVal (wVar 0) aNil)) (wC (.int 12)))))) (gu "NoRing" ["part","number"] xp (aVal (wC (.str "rooms")) (aVal (wC .non) aNil))) aX)
  (wFor (uA (wVar 0)) (jk [1,2]) (cN xp)))
theorem mj{xp:Xc→Prop}{d:D}{post:Fl→Ev→Prop}:∀(rs:List D)(i:Nat)(l1 l2:L),((rs.findIdx? fun r=>!rmB r)=none→∀ l1 l2,post .nx [.d d,l1,l2])→(∀ k,(rs.findIdx? fun r=>!rmB r)=some k→xp (NR "rooms" (.int ((i+k:Nat):Int)))) →
  fU (jk [1,2]) (cN xp) (sG i rs) [.d d,l1,l2] post
 |[],i,l1,l2,h,_=>h rfl l1 l2
 | r::rs,i,l1,l2,h,hx=>by
  rw[jx,jy]
  unfold cN
  walk_at "w"
  refine⟨r,rfl,?_⟩
  rw[List.findIdx?_cons]at h hx
  cases hb:rmB r with
  | true =>
   rw[hb]at h hx
   obtain⟨a,b,rfl⟩:∃a b,r=.tup [.int a,.int b]:=by
    cases hq:oF r with
    |inl z=>exact z
    |inr z=>rw[BN z]at hb;cases hb
   have hb':ratB (.tup [.int a,.int b])=true∧0<a:=by simpa[rmB]using hb
   rw[hb'.1]
   walk_at "w"
   rw[if_neg (by omega)]
   refine mj rs (i+1) _ _ (fun e=>h (by simpa using e)) fun k e=>?_
   have:=hx (k+1) (by simp[e])
   rw[show i+1+k=i+(k+1) by omega]
   exact this
  | false =>
   rw[hb]at h hx
   have bad:=hx 0 (by simp)
   rw[Nat.add_zero]at bad
   cases hr:ratB r with
   | false =>
    walk_at "w"
    exact⟨.inr trivial,by decide,bad⟩
   | true =>
    obtain⟨a,b,rfl⟩:=mY hr
    have ha:¬0<a:=by
     intro z
     simp only[rmB,hr,Bool.true_and,decide_eq_false_iff_not]at hb
     exact hb z
    walk_at "w"
    rw[if_pos (by omega)]
    exact⟨.inr trivial,by decide,bad⟩
theorem jM:∀ds post xp,ds.length=1→de ds post xp→dS xp (ds.map .d++List.replicate 2 .un) (okX post):=by
 rintro ds post xp - ⟨d,rfl,hl,h,hx⟩
 unfold dS
 cases d with
 | lst rs =>
  have hlen:=hl rs rfl
  simp only[bc]at h hx
  walk_at "w"
  have bad:¬ (2≤rs.length∧rs.length≤12)→xp (NR "rooms" .non):=fun z=>hx none (by rw[if_neg z])
  by_cases h1:(2:Int)≤(rs.length:Int)
  ·
   rw[if_pos h1]
   by_cases h2:(rs.length:Int)≤12
   ·
    rw[if_neg (fun z=>z h2)]
    have z:2≤rs.length∧rs.length≤12:=⟨by omega,by omega⟩
    rw[if_pos z]at h hx
    rw[jw]
    refine mj rs 0 _ _ (fun e l1 l2=>h (by rw[e];rfl)) fun k e=>?_
    rw[Nat.zero_add]
    exact hx (some k) (by rw[e];rfl)
   ·
    rw[if_pos h2]
    exact⟨.inr trivial,by decide,bad (by omega)⟩
  ·
   rw[if_neg h1]
   exact⟨.inr trivial,by decide,bad (by omega)⟩
 | _ =>
  walk_at "w"
  exact⟨.inr trivial,by decide,hx _ rfl⟩
def bB:FS:=fun ls post=>∃(d:D)(n:Int),ls=[.d d,.d (.int n)]∧post (.d (.bl (gv d n))) []
def cn:W L:=(br bf (aVal (wVar 0) (aVal (wVar 1) aNil)))
theorem hG:∀a d post,bB [.d a,.d d] post→cn [.d a,.d d] (fun r _=>post r []):=by
 rintro a d post ⟨a',n,e,h⟩
 cases e
 unfold cn
 walk_at "w"
 exact⟨a,n,rfl,h⟩
def ly:FS:=fun ls post=>∃(d:D)(n:Int),ls=[.d d,.d (.fn "look_at_asks" (.int n))]∧AskA d∧post (.d (.bl (askB n d))) ls
def ml:W Fl:=(wRet (iI (wBin opNe (wBin opIx (wVar 0) (wC (.int 1))) (wBin opIx (wVar 0) (wC (.int 2)))) (wBin opGe (wBin opIx (wBin opIx (wVar 0) (wC (.int 3))) (wC (.int 0))) (wC (.int 0)))))
def mn:W Fl:=(wSeq (wIf (wOr (wNot (aB (k9 bB "look_at_asks" 1 (wBin opIx (wVar 0) (wC (.int 1)))))) (wNot (aB (k9 bB "look_at_asks" 1 (wBin opIx (wVar 0) (wC (.int 2))))))) (wRet (wC (.bl false))) aX)
  ml)
def mq:W Fl:=(wSeq (wIf (wOr (wNot (aB (br jL (aVal (wBin opIx (wVar 0) (wC (.int 0))) aNil)))) (wNot (aB (br fz (aVal (wBin opIx (wVar 0) (wC (.int 3))) aNil))))) (wRet (wC (.bl false))) aX)
  mn)
def m6:W Fl:=(wSeq (wIf (wOr (wNot (aB (wUn (cG "tuple") (wVar 0)))) (aB (wBin opNe (aH bp (aVal (wVar 0) aNil)) (wC (.int 4))))) (wRet (wC (.bl false))) aX)
  mq)
theorem sO:∀ls post,ls.length=2→ly ls post→m6 (ls++List.replicate 0 .un) (bL ls post):=by
 rintro ls post - ⟨d,n,rfl,ha,h⟩
 unfold m6
 cases d with
 | tup xs =>
  match xs,ha,h with
  | [a,b,c,s],ha,h =>
   have hA:=ha _ rfl a rfl
   rw[CH]at h
   have no:(pY a && ratB s && (gv b n && gv c n) && (!(eqD b c) && posB s))=false→bL [.d (.tup [a,b,c,s]),.d (.fn "look_at_asks" (.int n))] post (.rt (.d (.bl false))) [.d (.tup [a,b,c,s]),.d (.fn "look_at_asks" (.int n))]:=fun e=>by
    rw[e]at h
    exact⟨_,ao (ao aK),h⟩
   walk_at "w"
   unfold mq
   walk_at "w"
   refine⟨_,rfl,hA,?_⟩
   cases e1:pY a with
   | false =>
    walk_at "w"
    exact no (by rw[e1];rfl)
   | true =>
    walk_at "w"
    refine⟨_,rfl,?_⟩
    cases e2:ratB s with
    | false =>
     walk_at "w"
     exact no (by rw[e1,e2];rfl)
    | true =>
     walk_at "w"
     unfold mn
     walk_at "w"
     refine⟨b,n,rfl,?_⟩
     cases e3:gv b n with
     | false =>
      walk_at "w"
      exact no (by rw[e1,e2,e3];rfl)
     | true =>
      walk_at "w"
      refine⟨c,n,rfl,?_⟩
      cases e4:gv c n with
      | false =>
       walk_at "w"
       exact no (by rw[e1,e2,e3,e4];rfl)
      | true =>
       obtain⟨i,rfl⟩:=rj e3
       obtain⟨j,rfl⟩:=rj e4
       obtain⟨p,q,rfl⟩:=mY e2
       rw[e1,e2,e3,e4,Bool.true_and,Bool.true_and,Bool.true_and]at h
       walk_at "w"
       unfold ml
       walk_at "w"
       have eq:eqD (.int i) (.int j)=decide (i=j):=rfl
       have ep:posB (.tup [.int p,.int q])=decide (0≤p):=rfl
       rw[eq,ep]at h
       by_cases hij:i=j
       ·
        rw[if_neg (fun z=>z hij)]
        rw[decide_eq_true hij]at h
        exact⟨_,ao (ao aK),h⟩
       ·
        rw[if_pos hij]
        rw[decide_eq_false hij]at h
        exact⟨_,ao (ao aK),h⟩
  |[],_,h=>walk_at "w"; exact⟨_,ao (ao aK),h⟩
  |[_],_,h=>walk_at "w"; exact⟨_,ao (ao aK),h⟩
  |[_,_],_,h=>walk_at "w"; exact⟨_,ao (ao aK),h⟩
  |[_,_,_],_,h=>walk_at "w"; exact⟨_,ao (ao aK),h⟩
  | a::b::c::s::e::r,_,h =>
   walk_at "w"
   rw[if_pos (by omega)]
   exact⟨_,ao (ao aK),h⟩
 | _ =>
  walk_at "w"
  exact⟨_,ao (ao aK),h⟩
def bY:FSX:=fun ds post xp=>∃(d:D)(n:Int),ds=[d,.fn "look_at_asks" (.int n)]∧xA d∧(lj n d=none→post (.d .non))∧∀ k,lj n d=some k→xp (NR "asks" (optN k))
def bR(xp:Xc→Prop):W Fl:=(wSeq (wIf (wOr (wNot (aB (br ly (aVal (wVar 4) (aVal (wVar 1) aNil))))) (aB (wDIn false 2 (wBin opIx (wVar 4) (wC (.int 0)))))) (gu "NoRing" ["part","number"] xp (aVal (wC (.str "asks")) (aVal (wVar 3) aNil))) aX)
  (zr 2 (wBin opIx (wVar 4) (wC (.int 0))) (wC (.bl true))))
def cq(xp:Xc→Prop):W Fl:=(wSeq (wIf (wNot (aB (wUn (cG "list") (wVar 0)))) (gu "NoRing" ["part","number"] xp (aVal (wC (.str "asks")) (aVal (wC .non) aNil))) aX)
  (wSeq (wSet 2 (wDct []))
  (wFor (uA (wVar 0)) (jk [3,4]) (bR xp))))
theorem oH{xp:Xc→Prop}{d:D}{n:Int}{a:Addr}{post:Fl→Ev→Prop}:∀(as:List D)(i:Nat)(zs:List Str)(l1 l2:L),(∀ b∈as,AskA b)→zs.length+as.length≤1000→(hZ n as zs i=none→∀ l0 l1 l2,post .nx [.d d,.d (.fn "look_at_asks" (.int n)),l0,l1,l2]) →
  (∀ k,hZ n as zs i=some k→xp (NR "asks" (.int (k:Int)))) →
  fU (jk [3,4]) (bR xp) (sG i as) [.d d,.d (.fn "look_at_asks" (.int n)),.dic a (dkv zs),l1,l2] post
 |[],i,zs,l1,l2,_,_,h,_=>h rfl _ l1 l2
 | b::as,i,zs,l1,l2,ha,hl,h,hx=>by
  rw[List.length_cons]at hl
  rw[jx,jy]
  unfold bR
  walk_at "w"
  refine⟨b,n,rfl,ha b List.mem_cons_self,?_⟩
  unfold hZ at h hx
  cases e:askB n b with
  | false =>
   rw[e,if_neg (fun z=>by cases z.1)]at hx
   walk_at "w"
   exact⟨.inr trivial,by decide,hx _ rfl⟩
  | true =>
   obtain⟨x,p,q,s,rfl,hn,hs⟩:=z7 e
   walk_at "w"
   rw[rk]
   by_cases hm:x∈zs
   ·
    rw[if_neg (fun z=>z.2 hm)]at hx
    rw[if_pos (decide_eq_true hm)]
    exact⟨.inr trivial,by decide,hx _ rfl⟩
   ·
    rw[if_pos ⟨e,hm⟩]at h hx
    rw[if_neg (by simpa using hm)]
    walk_at "w"
    refine⟨by rw[z8];exact Nat.lt_of_lt_of_le (show zs.length<1000 by omega) (by decide),?_⟩
    rw[xB hm]
    have e2:hZ n as (zs++[x]) (i+1)=hZ n as (nmOf (.tup [.str x,.int p,.int q,s])::zs) (i+1):=oj as _ _ _ fun y=>by simp[nmOf,or_comm]
    refine oH as (i+1) (zs++[x]) _ _ (fun c hc=>ha c (List.mem_cons_of_mem _ hc)) (by rw[List.length_append,List.length_singleton];omega) (fun z=>h (by rw[← e2];exact z)) fun k z=>hx k (by rw[← e2];exact z)
theorem hJ:∀ds post xp,ds.length=2→bY ds post xp→cq xp (ds.map .d++List.replicate 3 .un) (okX post):=by
 rintro ds post xp - ⟨d,n,rfl,ha,h,hx⟩
 unfold cq
 cases d with
 | lst as =>
  obtain⟨hl,ha⟩:=ha as rfl
  simp only[lj]at h hx
  walk_at "w"
  intro a
  rw[jw]
  refine oH as 0 [] _ _ ha (by rw[List.length_nil];omega) (fun z l0 l1 l2=>h (by rw[z];rfl)) fun k z=>hx (some k) (by rw[z];rfl)
 | _ =>
  walk_at "w"
  exact⟨.inr trivial,by decide,hx _ rfl⟩
def dU:FSX:=fun ds post xp=>∃(d:D)(n:Int),ds=[d,.int n]∧xA d∧(iZ n d=none→post (.d .non))∧∀ k,iZ n d=some k→xp (NR "asks" (optN k))
def eL(xp:Xc→Prop):W Fl:=(wSeq (wIf (wAnd (aB (wUn (cG "list") (wVar 0))) (aB (wBin opGt (aH bp (aVal (wVar 0) aNil)) (wC (.int 20))))) (gu "NoRing" ["part","number"] xp (aVal (wC (.str "asks")) (aVal (wC .non) aNil))) aX)
  (nL (mV bY xp "look_at_asks" 1 (wVar 0))))
theorem ku:∀ds post xp,ds.length=2→dU ds post xp→eL xp (ds.map .d++List.replicate 0 .un) (okX post):=by
 rintro ds post xp - ⟨d,n,rfl,ha,h,hx⟩
 have nl:∀ k,noLs (NR "asks" (optN k)).ds=true:=fun k=>by cases k <;> rfl
 unfold eL
 cases d with
 | lst as =>
  obtain⟨hl,_⟩:=ha as rfl
  simp only[iZ]at h hx
  walk_at "w"
  by_cases h20:20<as.length
  ·
   rw[if_pos h20]at hx
   rw[if_pos (by omega)]
   exact⟨.inr trivial,by decide,hx _ rfl⟩
  ·
   rw[if_neg h20]at h hx
   rw[if_neg (by omega)]
   refine⟨_,n,rfl,ha,fun e=>⟨rfl,h e⟩,fun k e=>⟨nl k,hx k e⟩⟩
 | _ =>
  walk_at "w"
  refine⟨_,n,rfl,ha,fun e=>⟨rfl,h e⟩,fun k e=>⟨nl k,hx k e⟩⟩
def dW:FSX:=fun ds post xp=>∃d:D,ds=[d]∧(∀r a,d=.tup [r,a]→(∀rs,r=.lst rs→rs.length≤1000)∧xA a)∧(jv d=none→post (.d .non))∧∀p k,jv d=some (p,k)→xp (NR p (optN k))
def eM(xp:Xc→Prop):W Fl:=(wSeq (wIf (wOr (wNot (aB (wUn (cG "tuple") (wVar 0)))) (aB (wBin opNe (aH bp (aVal (wVar 0) aNil)) (wC (.int 2))))) (gu "NoRing" ["part","number"] xp (aVal (wC (.str "ring")) (aVal (wC .non) aNil))) aX)
  (wSeq (nL (n4 de xp (aVal (wBin opIx (wVar 0) (wC (.int 0))) aNil)))
  (nL (n4 dU xp (aVal (wBin opIx (wVar 0) (wC (.int 1))) (aVal (wFrz (aH bp (aVal (wBin opIx (wVar 0) (wC (.int 0))) aNil))) aNil))))))
theorem kx:∀ds post xp,ds.length=1→dW ds post xp→eM xp (ds.map .d++List.replicate 0 .un) (okX post):=by
 rintro ds post xp - ⟨d,rfl,hA,h,hx⟩
 unfold eM
 cases d with
 | tup xs =>
  match xs,hA,h,hx with
  | [r,a],hA,h,hx =>
   obtain⟨hr,ha⟩:=hA r a rfl
   simp only[jv]at h hx
   walk_at "w"
   refine⟨r,rfl,hr,fun e=>?_,fun k e=>hx _ _ (by rw[e])⟩
   rw[e]at h hx
   have hl:∃rs,r=.lst rs:=by
    cases r with
    |lst rs=>exact⟨rs,rfl⟩
    |_=>cases e
   obtain⟨rs,rfl⟩:=hl
   walk_at "w"
   refine⟨a,_,rfl,ha,fun e=>h (by simp only[lenD,e,Option.map_none]),fun k e=>hx _ _ (by simp only[lenD,e,Option.map_some])⟩
  |[],_,_,hx=>walk_at "w"; exact⟨.inr trivial,by decide,hx _ _ rfl⟩
  |[_],_,_,hx=>walk_at "w"; exact⟨.inr trivial,by decide,hx _ _ rfl⟩
  | a::b::c::r,_,_,hx =>
   walk_at "w"
   rw[if_pos (by omega)]
   exact⟨.inr trivial,by decide,hx _ _ rfl⟩
 | _ =>
  walk_at "w"
  exact⟨.inr trivial,by decide,hx _ _ rfl⟩
def jN:FS:=fun ls post=>∃d:D,ls=[.d d]∧(∀r a,d=.tup [r,a]→(∀rs,r=.lst rs→rs.length≤1000)∧xA a)∧post (.d (.bl (jv d).isNone)) ls
def lz:W Fl:=(wSeq (wTry (fun xt=>(nL (mf dW xt (aVal (wVar 0) aNil)))) "NoRing" (wRet (wC (.bl false))))
  (wRet (wC (.bl true))))
theorem qc:∀ls post,ls.length=1→jN ls post→lz (ls++List.replicate 0 .un) (bL ls post):=by
 rintro ls post - ⟨d,rfl,hd,h⟩
 unfold lz
 walk_at "w"
 refine⟨d,rfl,hd,fun e=>?_,fun p k e=>?_⟩
 ·
  walk_at "w"
  rw[e]at h
  exact⟨_,ao aK,h⟩
 ·
  rw[e]at h
  exact⟨rfl,_,ao aK,h⟩
def fA:FS:=fun ls post=>∃(xs:List D)(d:D),ls=[.d (.lst xs),.d d]∧Hung xs∧post (.d (.bl (ed xs d))) ls
def j7:W Fl:=(wRet (iI (br bf (aVal (wBin opIx (wVar 1) (wC (.int 1))) (aVal (wFrz (aH bp (aVal (wBin opIx (wBin opIx (wVar 0) (wBin opIx (wVar 1) (wC (.int 0)))) (wC (.int 0))) aNil))) aNil))) (wOrV (wBin opNe (wBin opIx (wVar 1) (wC (.int 1))) (wC (.int 0))) (wBin opEq (wBin opIx (wVar 1) (wC (.int 0))) (wC (.int 0))))))
def jO:W Fl:=(wSeq (wIf (wOr (wNot (aB (br bM (aVal (wVar 1) aNil)))) (wNot (aB (br bf (aVal (wBin opIx (wVar 1) (wC (.int 0))) (aVal (wFrz (aH bp (aVal (wVar 0) aNil))) aNil)))))) (wRet (wC (.bl false))) aX)
  j7)
theorem oI:∀ls post,ls.length=2→fA ls post→jO (ls++List.replicate 0 .un) (bL ls post):=by
 rintro ls post - ⟨xs,d,rfl,hx,h⟩
 unfold jO
 walk_at "w"
 rcases oF d with⟨i,j,rfl⟩|hd
 ·
  rw[jz]at h
  refine .inl ⟨i,j,rfl,?_⟩
  walk_at "w"
  refine⟨_,_,rfl,?_⟩
  by_cases c1:0≤i∧i<(xs.length:Int)
  ·
   rw[show gv (.int i) (xs.length:Int)=true from decide_eq_true c1]
   have hi:i.toNat<xs.length:=by omega
   obtain⟨rs,b,e1,e2⟩:=hx.at_ hi
   rw[e2]at h
   walk_at "w"
   unfold j7
   walk_at "w"
   refine⟨_,qX c1.1 e1,?_⟩
   walk_at "w"
   refine⟨_,_,rfl,?_⟩
   by_cases c2:0≤j∧j<(rs.length:Int)
   ·
    rw[show gv (.int j) (rs.length:Int)=true from decide_eq_true c2]
    walk_at "w"
    by_cases c3:j=0
    ·
     rw[if_neg (by simpa using c3)]
     have e:decide (0≤i∧i<(xs.length:Int)∧0≤j∧j<(rs.length:Int)∧(j≠0∨i=0))=decide (i=0):=by rw[decide_eq_decide];omega
     rw[e]at h
     exact⟨_,ao (ao aK),h⟩
    ·
     rw[if_pos c3]
     have e:decide (0≤i∧i<(xs.length:Int)∧0≤j∧j<(rs.length:Int)∧(j≠0∨i=0))=true:=decide_eq_true (by omega)
     rw[e]at h
     exact⟨_,ao (ao aK),h⟩
   ·
    rw[show gv (.int j) (rs.length:Int)=false from decide_eq_false c2]
    walk_at "w"
    rw[decide_eq_false (by omega)]at h
    exact⟨_,ao (ao aK),h⟩
  ·
   rw[show gv (.int i) (xs.length:Int)=false from decide_eq_false c1]
   walk_at "w"
   rw[decide_eq_false (by omega)]at h
   exact⟨_,ao (ao aK),h⟩
 ·
  refine .inr ⟨d,rfl,hd,?_⟩
  walk_at "w"
  rw[gw hd]at h
  exact⟨_,ao (ao aK),h⟩
def iy:FS:=fun ls post=>∃(xs:List D)(d:D),ls=[.d (.lst xs),.d d]∧Hung xs∧(∀r p,d=.tup [r,p]→∀rs,r=.lst rs→rs.length≤1000)∧post (.d (.bl (jA xs d))) ls
def j8:W Fl:=(wRet (wIfE (w5 0) (br fA (aVal (wVar 0) (aVal (wBin opIx (wVar 1) (wC (.int 1))) aNil))) (wBin pw (wBin opIx (wVar 1) (wC (.int 1))) (wC .non))))
def jP:W Fl:=(wSeq (wIf (wOr (wNot (aB (wUn (cG "tuple") (wVar 1)))) (wOr (aB (wBin opNe (aH bp (aVal (wVar 1) aNil)) (wC (.int 2)))) (wNot (aB (br jN (aVal (wTup (aVal (wBin opIx (wVar 1) (wC (.int 0))) (aVal (wFrz (wLst aNil)) aNil))) aNil)))))) (wRet (wC (.bl false))) aX)
  j8)
theorem qe(r:D):(jv (.tup [r,.lst []])).isNone=(bc r).isNone:=by
 unfold jv
 dsimp only
 cases bc r with
 |none=>rfl
 |some k=>rfl
theorem oJ:∀ls post,ls.length=2→iy ls post→jP (ls++List.replicate 0 .un) (bL ls post):=by
 rintro ls post - ⟨xs,d,rfl,hx,hl,h⟩
 unfold jP
 cases d with
 | tup ys =>
  match ys,hl,h with
  | [r,p],hl,h =>
   have e:jA xs (.tup [r,p])=((bc r).isNone && (if xs.isEmpty then om p else ed xs p)):=rfl
   rw[e]at h
   walk_at "w"
   rw[if_neg (by decide)]
   refine⟨by decide,fun _=>⟨by decide,_,rfl,fun r' a' e'=>?_,?_⟩⟩
   ·
    cases e'
    refine⟨hl r p rfl,fun as ea=>?_⟩
    cases ea
    exact⟨by decide,fun a ha=>by cases ha⟩
   rw[qe]
   cases eb:(bc r).isNone with
   | false =>
    rw[eb,Bool.false_and]at h
    walk_at "w"
    exact⟨_,ao (ao aK),h⟩
   | true =>
    rw[eb,Bool.true_and]at h
    walk_at "w"
    unfold j8
    walk_at "w"
    cases xs with
    | nil =>
     have h:post (.d (.bl (om p))) [.d (.lst []),.d (.tup [r,p])]:=h
     walk_at "w"
     cases p<;>exact⟨_,ao (ao aK),h⟩
    | cons x xs =>
     have h:post (.d (.bl (ed (x::xs) p))) [.d (.lst (x::xs)),.d (.tup [r,p])]:=h
     walk_at "w"
     exact⟨_,_,rfl,hx,_,ao (ao aK),h⟩
  |[],_,h=>walk_at "w"; exact⟨_,ao (ao aK),h⟩
  |[_],_,h=>walk_at "w"; exact⟨_,ao (ao aK),h⟩
  | a::b::c::r,_,h =>
   walk_at "w"
   rw[if_pos (by omega)]
   exact⟨_,ao (ao aK),h⟩
 | _ =>
  walk_at "w"
  exact⟨_,ao (ao aK),h⟩
def bN:FSX:=fun ds post xp=>∃d:D,ds=[d]∧(∀xs,d=.lst xs→xs.length≤20∧∀x∈xs,GI x)∧(eY d=none→post (.d .non))∧∀k,eY d=some k→xp (NS (optN k))
def cu(xp:Xc→Prop):W Fl:=(wIf (wNot (aB (br iy (aVal (wFrz (wSl2 (wVar 0) none (some (wVar 1)))) (aVal (wVar 2) aNil))))) (gu "NoString" ["number"] xp (aVal (wVar 1) aNil)) aX)
def df(xp:Xc→Prop):W Fl:=(wSeq (wIf (wOr (wNot (aB (wUn (cG "list") (wVar 0)))) (wNot (aB (fR opLe opLe (wC (.int 1)) (aH bp (aVal (wVar 0) aNil)) (wC (.int 6)))))) (gu "NoString" ["number"] xp (aVal (wC .non) aNil)) aX)
  (wFor (uA (wVar 0)) (jk [1,2]) (cu xp)))
theorem lA{xp:Xc→Prop}{post:Fl→Ev→Prop}:∀(suf pre:List D)(l1 l2:L),Hung pre→(∀x∈suf,GI x)→pre.length+suf.length≤20→(bX pre suf=none→∀l1 l2,post .nx [.d (.lst (pre++suf)),l1,l2])→(∀k,bX pre suf=some k→xp (NS (.int (k:Int)))) →
  fU (jk [1,2]) (cu xp) (sG pre.length suf) [.d (.lst (pre++suf)),l1,l2] post
 |[],pre,l1,l2,_,_,_,h,_=>h rfl l1 l2
 | x::suf,pre,l1,l2,hp,hg,hl,h,hx=>by
  rw[List.length_cons]at hl
  rw[jx,jy]
  unfold cu
  walk_at "w"
  have ec:cutD (pre++x::suf) none (some (pre.length:Int))=pre:=by
   unfold cutD
   have:¬((pre.length:Int)<0):=by omega
   simp[HT.sIx,this]
  have e:bX pre (x::suf)=if jA pre x=true then bX (pre++[x]) suf else some pre.length:=rfl
  rw[e]at h hx
  intro a
  rw[ec]
  refine⟨pre,x,rfl,hp,fun r p ex rs er=>(hg x List.mem_cons_self).ln _ ex r (by simp) rs er,?_⟩
  cases hb:jA pre x with
  | true =>
   rw[hb,if_pos rfl]at h hx
   walk_at "w"
   have hq:Hung (pre++[x]):=fun y hy=>by
    rcases List.mem_append.mp hy with hy|hy
    ·
     exact hp y hy
    ·
     rw[List.mem_singleton.mp hy]
     exact rn hb
   have:=lA (xp:=xp) (post:=post) suf (pre++[x]) (.d (.int (pre.length:Int))) (.d x) hq (fun y hy=>hg y (List.mem_cons_of_mem _ hy)) (by rw[List.length_append,List.length_singleton];omega) (fun z l1 l2=>by rw[List.append_assoc];exact h z l1 l2) hx
   rw[List.length_append,List.length_singleton,List.append_assoc]at this
   exact this
  | false =>
   rw[hb,if_neg (by decide)]at hx
   walk_at "w"
   exact⟨.inr trivial,by decide,hx _ rfl⟩
theorem i8:∀ds post xp,ds.length=1→bN ds post xp→df xp (ds.map .d++List.replicate 2 .un) (okX post):=by
 rintro ds post xp - ⟨d,rfl,hd,h,hx⟩
 unfold df
 cases d with
 | lst xs =>
  obtain⟨hl,hg⟩:=hd xs rfl
  simp only[eY]at h hx
  walk_at "w"
  have bad:¬(1≤xs.length∧xs.length≤6)→xp (NS .non):=fun z=>hx none (by rw[if_neg z])
  by_cases h1:(1:Int)≤(xs.length:Int)
  ·
   rw[if_pos h1]
   by_cases h2:(xs.length:Int)≤6
   ·
    rw[if_neg (fun z=>z h2)]
    have z:1≤xs.length∧xs.length≤6:=⟨by omega,by omega⟩
    rw[if_pos z]at h hx
    rw[jw]
    exact lA xs [] _ _ (fun x hx=>by cases hx) hg (by rw[List.length_nil];omega) (fun e l1 l2=>h (by rw[e];rfl)) fun k e=>hx (some k) (by rw[e];rfl)
   ·
    rw[if_pos h2]
    exact⟨.inr trivial,by decide,bad (by omega)⟩
  ·
   rw[if_neg h1]
   exact⟨.inr trivial,by decide,bad (by omega)⟩
 | _ =>
  walk_at "w"
  exact⟨.inr trivial,by decide,hx _ rfl⟩
def au:FS:=fun ls post=>∃(a:Addr)(xs:List D)(m:Int),ls=[.own a xs,.d (.int m)]∧StOk xs∧0<m∧m≤10^60∧∀(r:Int)(ys:List D),StOk ys→0≤r→r<m→post (.d (.int r)) [.own a ys,.d (.int m)]
def fB:W Fl:=(wSeq (uj 0 (wC (.int 1)) (wBin kR (wBin bW (wBin iN (d8 0 (wIxV 0 (wC (.int 1))) (wBin opIx (wVar 0) (wC (.int 1)))) (wC (.int 39373))) (wC (.int 17))) (wC (.int 2147483647))))
  (wSet 3 (wFrz (wBin bW (wBin iN (wVar 3) (wC (.int 2147483629))) (wBin kR (wBin iN (d8 0 (wIxV 0 (wC (.int 1))) (wBin opIx (wVar 0) (wC (.int 1)))) (d8 0 (wIxV 0 (wC (.int 1))) (wBin opIx (wVar 0) (wC (.int 1))))) (wC (.int 2147483629)))))))
def iz:W Fl:=(wSeq (wIf (aB (d8 0 (wIxV 0 (wC (.int 2))) (wBin opIx (wVar 0) (wC (.int 2))))) (wSeq (wSet 2 (wBin kR (d8 0 (wIxV 0 (wC (.int 0))) (wBin opIx (wVar 0) (wC (.int 0)))) (wVar 1)))
  (wSeq (uj 0 (wC (.int 0)) (wBin o8 (d8 0 (wIxV 0 (wC (.int 0))) (wBin opIx (wVar 0) (wC (.int 0)))) (wVar 1)))
  (wSeq (uj 0 (wC (.int 2)) (wBin opGt (d8 0 (wIxV 0 (wC (.int 0))) (wBin opIx (wVar 0) (wC (.int 0)))) (wC (.int 0))))
  (wRet (t8 2))))) aX)
  (wSeq (wSet 3 (wC (.int 0)))
  (wSeq (wFor (nN (wBin bW (wC (.int 1)) (wBin iN (wC (.int 8)) (aH pf (aVal (wBin opGt (wVar 1) (wBin rW (wC (.int 10)) (wC (.int 6)))) aNil))))) (cb 4) fB)
  (wRet (wBin kR (wBin o8 (wVar 3) (wC (.int 64))) (wVar 1))))))
theorem oK{a:Addr}{c:Int}{m x2:L}{post:Fl→Ev→Prop}:∀(items:List D)(sd dr:Int)(j:Nat)(x4:L),j+items.length≤100→0≤sd→sd<2147483647→0≤dr→dr<2^(40*j) →
  (∀sd' dr' x',0≤sd'→sd' < 2147483647→0≤dr'→post .nx [.own a [.int c,.int sd',.bl false],m,x2,.d (.int dr'),x']) →
  fU (cb 4) fB items [.own a [.int c,.int sd,.bl false],m,x2,.d (.int dr),x4] post
 |[],sd,dr,j,x4,_,h0,h1,h2,h3,h=>h sd dr x4 h0 h1 h2
 | y::items,sd,dr,j,x4,hl,h0,h1,h2,h3,h=>by
  unfold fU fB
  walk_at "w"
  obtain⟨r0,r1⟩:=iY (sd*39373+17) (m:=2147483647) (by decide)
  generalize (sd*39373+17).fmod 2147483647=s' at r0 r1 ⊢
  obtain⟨q0,q1⟩:=iY (s'*s') (m:=2147483629) (by decide)
  generalize (s'*s').fmod 2147483629=t' at q0 q1 ⊢
  have hl':j+(items.length+1)≤100:=hl
  have b1:cD sd:=pQ (n:=40) h0 (by omega) (by decide)
  have b2:cD s':=pQ (n:=40) r0 (by omega) (by decide)
  have b3:cD dr:=pQ (n:=40*j) h2 h3 (by omega)
  have b4:cD 39373:=cI (by decide)
  have b5:cD 2147483629:=cI (by decide)
  refine⟨b1,b4,by decide,b3,b5,b2,b2,by decide,?_⟩
  refine oK items s' (dr*2147483629+t') (j+1) _ (by omega) r0 r1 (by omega) ?_ h
  have e:(2:Int)^(40*(j+1))=2^(40*j)*1099511627776:=by
   rw[Nat.mul_succ,Int.pow_add];rfl
  omega
theorem m7:∀ls post,ls.length=2→au ls post→iz (ls++List.replicate 3 .un) (bL ls post):=by
 rintro ls post - ⟨a,xs,m,rfl,⟨c,sd,t,rfl,h0,h1⟩,hm,hM,h⟩
 unfold iz
 have hm0:m≠0:=by omega
 have hmz:=oa (by omega) hM
 cases t with
 | true =>
  walk_at "w"
  obtain⟨r0,r1⟩:=iY c hm
  exact⟨hm0,hm0,hmz,_,d6 List.mem_cons_self (ao aK),h _ _ ⟨_,_,_,rfl,h0,h1⟩ r0 r1⟩
 | false =>
  walk_at "w"
  refine⟨by decide,by decide,by decide,cI (by decide),cI (by split<;>decide),⟨by split<;>decide,by split<;>decide⟩,?_⟩
  refine oK (c:=c) _ sd 0 0 _ (by simp only[rngD,List.length_map,List.length_range];split<;>decide) h0 h1 (by decide) (by decide) fun sd' dr' x' g0 g1 g2=>?_
  walk_at "w"
  obtain⟨r0,r1⟩:=iY (dr'.fdiv 64) hm
  exact⟨by decide,by decide,hm0,_,d6 List.mem_cons_self (ao aK),h _ _ ⟨_,_,_,rfl,g0,g1⟩ r0 r1⟩
def dX:FS:=fun ls post=>∃t b:Int,ls=[.d (.int t),.d (.int b)]∧b≠0∧b.natAbs<2^9000∧post (.d (frD (Rat.divInt t b))) ls
def j9:W Fl:=(wPar 2 3 (wBin kR (wVar 3) (wVar 2)) (wVar 2))
def jQ:W Fl:=(wSeq (wSet 2 (wFrz (aH rX (aVal (wVar 0) aNil))))
  (wSeq (wSet 3 (wFrz (aH rX (aVal (wVar 1) aNil))))
  (wSeq (ub (aB (wBin opNe (wVar 2) (wC (.int 0)))) j9)
  (wSeq (wIf (aB (wBin opLt (wVar 1) (wC (.int 0)))) (wSet 3 (wBin eH (wC (.int 0)) (wVar 3))) aX)
  (wRet (wTup (aVal (wBin o8 (wVar 0) (wVar 3)) (aVal (wBin o8 (wVar 1) (wVar 3)) aNil))))))))
theorem oM:∀ls post,ls.length=2→dX ls post→jQ (ls++List.replicate 2 .un) (bL ls post):=by
 rintro ls post - ⟨t,b,rfl,hb,hz,h⟩
 unfold jQ
 walk_at "w"
 have h1:=wg (t:=t) hb
 have h2:=Nat.lt_of_le_of_lt (wj (t:=t) hb) hz
 have fin:∀{g:Int}{ρ:Ev},g=cH t b→g≠0∧g.natAbs<2^9000∧g≠0∧g.natAbs<2^9000∧2≤sizeLine∧bL [.d (.int t),.d (.int b)] post (.rt (.d (.tup [.int (t.fdiv g),.int (b.fdiv g)]))) ρ:=fun {g ρ} e=>by
  have e1:g≠0:=by rw[e];exact h1
  have e2:g.natAbs<2^9000:=by rw[e];exact h2
  refine⟨e1,e2,e1,e2,by decide,_,ao (ao aK),?_⟩
  rw[w9 hb e]
  exact h
 refine⟨fun n ρ=>∃x y:Int,ρ=[.d (.int t),.d (.int b),.d (.int x),.d (.int y)]∧0≤x∧0≤y∧Int.gcd x y=Int.gcd t b∧n=x.natAbs,⟨_,_,_,rfl,by split<;>omega,by split<;>omega,?_,rfl⟩,?_⟩
 ·
  have e1:(if t<0 then -t else t)=(t.natAbs:Int):=by split<;>omega
  have e2:(if b<0 then -b else b)=(b.natAbs:Int):=by split<;>omega
  rw[e1,e2]
  simp[Int.gcd]
 ·
  rintro n ρ ⟨x,y,rfl,x0,y0,hg,rfl⟩
  unfold j9
  walk_at "w"
  split
  ·
   rename_i hx
   have hx:x≠0:=by simpa using hx
   refine⟨hx,_,hW y hx,_,_,rfl,(iY y (by omega)).1,x0,?_,rfl⟩
   rw[Int.gcd_comm,qH,Int.gcd_comm]
   exact hg
  ·
   rename_i hx
   have hx:x=0:=by simpa using hx
   subst hx
   have hy:y=(Int.gcd t b:Int):=by rw[← hg,Int.gcd_zero_left];omega
   split
   ·
    rename_i hlt
    exact fin (by simp[cH,hlt,hy])
   ·
    rename_i hlt
    exact fin (by simp[cH,hlt,hy])
def eN:FS:=fun ls post=>∃(a:Addr)(xs:List D)(least kind:Int),ls=[.own a xs,.d (.int least),.d (.int kind)]∧StOk xs∧0≤least∧least≤1∧0≤kind∧kind<5 ∧
 ∀(q:Rat)(ys:List D),StOk ys→0≤q→(least=1→0<q)→RB 60 q→post (.d (frD q)) [.own a ys,.d (.int least),.d (.int kind)]
def fC:W Fl:=(wSeq (wSet 3 (wFrz (wBin bW (wC (.int 1)) (a8 au 0 0 (aVar 0 (aVal (wBin opIx (wLst (aVal (wC (.int 1)) (aVal (wC (.int 1)) (aVal (wC (.int 4)) (aVal (wC (.int 12)) (aVal (wC (.int 12)) aNil)))))) (wVar 2)) aNil))))))
  (wSeq (wSet 4 (wFrz (wBin bW (wVar 1) (a8 au 0 0 (aVar 0 (aVal (wBin opIx (wLst (aVal (wC (.int 3)) (aVal (wC (.int 10)) (aVal (wC (.int 10)) (aVal (wC (.int 40)) (aVal (wBin rW (wC (.int 10)) (wC (.int 12))) aNil)))))) (wVar 2)) aNil))))))
  (wRet (br dX (aVal (wVar 4) (aVal (wVar 3) aNil))))))
theorem vw{t b:Int}(h0:0≤t)(h1:t<2^59)(h2:0<b)(h3:b<2^59):0≤Rat.divInt t b∧(0<t→0<Rat.divInt t b)∧RB 60 (Rat.divInt t b):=by
 have e:=Rat.divInt_nonneg (a:=t) (b:=b) h0 (by omega)
 refine⟨e,fun ht=>?_,RB.of_divInt (by omega) ?_ ?_⟩
 ·
  refine Rat.lt_of_le_of_ne e fun z=>?_
  have:Rat.divInt 0 1=Rat.divInt t b:=by rw[← z];rfl
  rw[Rat.divInt_eq_divInt_iff (by decide) (by omega)]at this
  omega
 ·
  have:(2:Int)^59=((2^59:Nat):Int):=by decide
  have:(2:Nat)^59<2^60:=by decide
  omega
 ·
  have:(2:Int)^59=((2^59:Nat):Int):=by decide
  have:(2:Nat)^59<2^60:=by decide
  omega
theorem lB:∀ls post,ls.length=3→eN ls post→fC (ls++List.replicate 2 .un) (bL ls post):=by
 rintro ls post - ⟨a,xs,least,kind,rfl,hx,l0,l1,k0,k1,h⟩
 have hk:kind=0∨kind=1∨kind=2∨kind=3∨kind=4:=by omega
 have fin:∀(ys:List D)(r s:Int)(ρ:Ev),StOk ys→0≤r→r<12→0≤s→s<10^12→.own a ys∈ρ→dX [.d (.int (least+s)),.d (.int (1+r))] fun r' _=>bL [.own a xs,.d (.int least),.d (.int kind)] post (.rt r') ρ:=by
  intro ys r s ρ hy r0 r1 s0 s1 hm
  obtain⟨a1,a2,a3⟩:=vw (t:=least+s) (b:=1+r) (by omega) (by omega) (by omega) (by omega)
  exact⟨_,_,rfl,by omega,oa (by omega) (by omega),_,d6 hm (ao (ao aK)),h _ ys hy a1 (fun e=>a2 (by omega)) a3⟩
 unfold fC
 rcases hk with rfl|rfl|rfl|rfl|rfl
 all_goals
  walk_at "w"
  refine⟨by decide,fun _=>?_⟩
  refine⟨a,xs,_,rfl,hx,by decide,by decide,fun r ys hy r0 r1=>⟨ys,rfl,?_⟩⟩
  walk_at "w"
  refine⟨by decide,by decide,by decide,by decide,fun _=>?_⟩
  refine⟨a,ys,_,rfl,hy,by decide,by decide,fun s zs hz s0 s1=>⟨zs,rfl,?_⟩⟩
  walk_at "w"
  exact fin zs r s _ hz r0 (by omega) s0 (Int.lt_of_lt_of_le s1 (by decide)) (by simp)
def du:FS:=fun ls post=>∃(a:Addr)(xs:List D)(S:List (List Rat×Option (Nat×Nat))),ls=[.own a xs,.d (.lst (S.map itD))]∧StOk xs∧1≤S.length∧S.length≤6∧(∀x∈S,RmOk x.1) ∧
 ∀(i j:Nat)(y:List Rat×Option (Nat×Nat))(ys:List D),StOk ys→S[i]?=some y→j<y.1.length→(j≠0∨i=0)→post (.d (.tup [.int (i:Int),.int (j:Int)])) [.own a ys,.d (.lst (S.map itD))]
def ia:W Fl:=(wRet (wTup (aVal (wVar 2) (aVal (wFrz (wBin bW (wC (.int 1)) (a8 au 0 0 (aVar 0 (aVal (wBin eH (aH bp (aVal (wBin opIx (wBin opIx (wVar 1) (wVar 2)) (wC (.int 0))) aNil)) (wC (.int 1))) aNil))))) aNil))))
def ib:W Fl:=(wSeq (wIf (aB (wBin opEq (wVar 2) (wC (.int 0)))) (wRet (wTup (aVal (wC (.int 0)) (aVal (wFrz (a8 au 0 0 (aVar 0 (aVal (wFrz (aH bp (aVal (wBin opIx (wBin opIx (wVar 1) (wC (.int 0))) (wC (.int 0))) aNil))) aNil)))) aNil)))) aX)
  ia)
def gE:W Fl:=(wSeq (wSet 2 (wFrz (a8 au 0 0 (aVar 0 (aVal (wFrz (aH bp (aVal (wVar 1) aNil))) aNil)))))
  ib)
theorem lT:∀ls post,ls.length=2→du ls post→gE (ls++List.replicate 1 .un) (bL ls post):=by
 rintro ls post - ⟨a,xs,S,rfl,hx,l1,l2,hr,h⟩
 have at_:∀i:Nat,i<S.length→∃y,S[i]?=some y∧atI (S.map itD) (i:Int)=some (itD y)∧RmOk y.1:=fun i hi=>by
  have e:S[i]?=some S[i]:=List.getElem?_eq_getElem hi
  exact⟨S[i],e,dD (by rw[List.getElem?_map,e];rfl),hr _ (List.getElem_mem hi)⟩
 unfold gE
 walk_at "w"
 refine⟨a,xs,S.length,rfl,hx,by omega,by omega,fun r ys hy r0 r1=>⟨ys,rfl,?_⟩⟩
 unfold ib
 walk_at "w"
 by_cases c:r=0
 ·
  rw[if_pos c]
  obtain⟨y,e1,e2,e3⟩:=at_ 0 (by omega)
  refine⟨_,e2,?_⟩
  unfold itD
  walk_at "w"
  have hl:=e3.hi
  have hl2:=e3.lo
  refine⟨a,ys,y.1.length,rfl,hy,by omega,by omega,fun s zs hz s0 s1=>⟨zs,rfl,?_⟩⟩
  walk_at "w"
  have:=h 0 s.toNat y zs hz e1 (by omega) (.inr rfl)
  rw[Int.toNat_of_nonneg s0]at this
  exact⟨by decide,_,d6 (by simp) (ao aK),this⟩
 ·
  rw[if_neg c]
  unfold ia
  obtain⟨y,e1,e2,e3⟩:=at_ r.toNat (by omega)
  rw[Int.toNat_of_nonneg r0]at e2
  walk_at "w"
  refine⟨_,e2,?_⟩
  unfold itD
  walk_at "w"
  have hl:=e3.hi
  have hl2:=e3.lo
  refine⟨a,ys,(y.1.length:Int)-1,rfl,hy,by omega,by omega,fun s zs hz s0 s1=>⟨zs,rfl,?_⟩⟩
  walk_at "w"
  have:=h r.toNat (1+s).toNat y zs hz e1 (by omega) (.inl (by omega))
  rw[Int.toNat_of_nonneg r0,Int.toNat_of_nonneg (by omega)]at this
  exact⟨by decide,_,d6 (by simp) (ao aK),this⟩
def eO:FS:=fun ls post=>∃(a:Addr)(xs:List D)(m n:Nat),ls=[.own a xs,.d (.int (m:Int)),.d (.int (n:Int))]∧StOk xs∧1≤m∧m≤6∧2≤n∧n≤12 ∧
 ∀(S:List (List Rat×Option (Nat×Nat)))(c:Addr)(ys:List D),StOk ys→fV S→1≤S.length→S.length≤m→post (.own c (S.map itD)) [.own a ys,.d (.int (m:Int)),.d (.int (n:Int))]
def ej:W Fl:=(nL (wApp 3 (wTup (aVal (wVar 7) (aVal (wVar 8) aNil)))))
def ek:W Fl:=(wSeq (wIf (aB (wBin opGt (wVar 5) (wC (.int 0)))) (wSeq (wSet 8 (wFrz (n9 3 0 (a8 du 0 0 (aVar 0 (aVal (wVar 3) aNil))))))
  (wIf (aB (wBin opEq (wVar 4) (wC (.int 1)))) (wSet 8 (wTup (aVal (wBin eH (wVar 5) (wC (.int 1))) (aVal (wBin eH (aH bp (aVal (wBin opIx (d8 3 (wIxV 3 (wBin eH (wVar 5) (wC (.int 1)))) (wBin opIx (wVar 3) (wBin eH (wVar 5) (wC (.int 1))))) (wC (.int 0))) aNil)) (wC (.int 1))) aNil)))) aX)) aX)
  ej)
def en:W Fl:=(wSeq (wIf (wAnd (aB (wBin opGt (wVar 5) (wC (.int 0)))) (aB (wBin opEq (wVar 4) (wC (.int 2))))) (wSet 7 (wFrz (aH nO (aVal (wBin opIx (d8 3 (wIxV 3 (wC (.int 0))) (wBin opIx (wVar 3) (wC (.int 0)))) (wC (.int 0))) aNil)))) aX)
  ek)
def dY:W L:=(a8 eN 0 1 (aVar 1 (aVal (wC (.int 1)) (aVal (wVar 2) aNil))))
def ez:W Fl:=(wSeq (wSet 8 (wC .non))
  en)
def eA:W Fl:=(wSeq (wSet 7 (nT 1 [0,6] (nN (wBin bW (wC (.int 2)) (a8 au 0 0 (aVar 0 (aVal (wBin eH (wVar 2) (wC (.int 1))) aNil))))) (cb 0) r6 dY))
  ez)
def gF:W Fl:=(wSeq (wSet 6 (wFrz (a8 au 0 0 (aVar 0 (aVal (wC (.int 4)) aNil)))))
  eA)
def fE:W Fl:=(wSeq (wSet 3 (wLst aNil))
  (wSeq (wSet 4 (wFrz (a8 au 0 0 (aVar 0 (aVal (wC (.int 3)) aNil)))))
  (wSeq (wFor (nN (wBin bW (wC (.int 1)) (a8 au 0 0 (aVar 0 (aVal (wVar 1) aNil))))) (cb 5) gF)
  (wRet (t8 3)))))
theorem Ag{k:W Fl}{a c:Addr}{ys L5:List D}{x1 sh kk x7 x8:L}{n:Nat}{kind:Int}{post:Fl→Ev→Prop}(hy:StOk ys)(n1:2≤n)(n2:n≤12)(k0:0≤kind)(k1:kind<5)
  (h:∀(qs:List Rat)(zs:List D)(d:Addr),StOk zs→RmOk qs→k [.own a zs,x1,.d (.int (n:Int)),.own c L5,sh,kk,.d (.int kind),.own d (qs.map frD),x8] post) :
  wSeq (wSet 7 (nT 1 [0,6] (nN (wBin bW (wC (.int 2)) (a8 au 0 0 (aVar 0 (aVal (wBin eH (wVar 2) (wC (.int 1))) aNil))))) (cb 0) r6 dY)) k [.own a ys,x1,.d (.int (n:Int)),.own c L5,sh,kk,.d (.int kind),x7,x8] post:=by
 walk_at "w"
 refine⟨a,ys,(n:Int)-1,rfl,hy,by omega,by omega,fun r zs hz r0 r1=>⟨zs,rfl,?_⟩⟩
 walk_at "w"
 have rl:(rngD 0 (2+r).toNat).length=(2+r).toNat:=by simp[rngD]
 refine⟨⟨by omega,by omega⟩,?_,?_⟩
 ·
  rw[rl]
  exact Nat.le_trans (show(2+r).toNat≤20 by omega) (by decide)
 refine qW _ (fun j ρ acc=>∃(qs:List Rat)(ws:List D)(l:L),ρ=[l,.own a ws,.d (.int kind)]∧acc=qs.map frD∧qs.length=j∧StOk ws∧∀q∈qs,0<q∧RB 60 q) _ _ ⟨[],zs,_,rfl,rfl,rfl,hz,by simp⟩ ?_ ?_
 ·
  rintro j x ρ acc hj ⟨qs,ws,l,rfl,rfl,hl,hw,hq⟩ Q g
  unfold dY
  walk_at "w"
  refine⟨a,ws,1,kind,rfl,hw,by decide,by decide,k0,k1,fun q vs hv q0 q1 qb=>⟨vs,rfl,?_⟩⟩
  walk_at "w"
  refine g _ _ ⟨qs++[q],vs,_,rfl,by rw[List.map_append];rfl,by rw[List.length_append,List.length_singleton,hl],hv,fun z hz=>?_⟩
  rcases List.mem_append.mp hz with hz|hz
  ·
   exact hq z hz
  ·
   rw[List.mem_singleton.mp hz]
   exact⟨q1 rfl,qb⟩
 ·
  rintro ρ acc ⟨qs,ws,l,rfl,rfl,hl,hw,hq⟩ d
  rw[rl]at hl
  exact h qs ws d hw ⟨by omega,by omega,hq⟩
theorem Ah{k:W Fl}{a c:Addr}{ys:List D}{S:List (List Rat×Option (Nat×Nat))}{x1 x2 kind x8:L}{sh:Int}{qs:List Rat}{d:Addr}{j:Nat}{post:Fl→Ev→Prop}(hj:j=S.length)(hS:fV S)(hq:RmOk qs)
  (h:∀(qs:List Rat)(x:L),x=.d (.lst (qs.map frD))∨(∃d,x=.own d (qs.map frD))→RmOk qs→k [.own a ys,x1,x2,.own c (S.map itD),.d (.int sh),.d (.int (j:Int)),kind,x,x8] post) :
  wSeq (wIf (wAnd (aB (wBin opGt (wVar 5) (wC (.int 0)))) (aB (wBin opEq (wVar 4) (wC (.int 2))))) (wSet 7 (wFrz (aH nO (aVal (wBin opIx (d8 3 (wIxV 3 (wC (.int 0))) (wBin opIx (wVar 3) (wC (.int 0)))) (wC (.int 0))) aNil)))) aX) k [.own a ys,x1,x2,.own c (S.map itD),.d (.int sh),.d (.int (j:Int)),kind,.own d (qs.map frD),x8] post:=by
 walk_at "w"
 have no:=h qs (.own d (qs.map frD)) (.inr ⟨d,rfl⟩) hq
 by_cases c1:0<(j:Int)
 ·
  rw[if_pos c1]
  by_cases c2:sh=2
  ·
   rw[if_pos c2]
   have h0:0<S.length:=by omega
   have e0:S[0]?=some S[0]:=List.getElem?_eq_getElem h0
   refine⟨itD S[0],dD (j:=0) (by rw[List.getElem?_map,e0];rfl),?_⟩
   unfold itD
   walk_at "w"
   exact fun _=>h _ _ (.inl rfl) (hS.rm _ (List.getElem_mem h0))
  ·
   rw[if_neg c2]
   exact no
 ·
  rw[if_neg c1]
  exact no
theorem vx{ys:List D}(h:StOk ys):noLs ys=true:=by
 obtain⟨_,_,_,rfl,_⟩:=h
 rfl
theorem CP{k:W Fl}{a c:Addr}{ys:List D}{S:List (List Rat×Option (Nat×Nat))}{x1 x2 kind x7:L}{sh:Int}{j:Nat}{post:Fl→Ev→Prop}(hj:j=S.length)(h6:S.length≤6)(hy:StOk ys)(hS:fV S)(h7:ip x7=true)(hk:ip kind=true)(hx1:ip x1=true)(hx2:ip x2=true)
  (h:∀(p:Option (Nat×Nat))(zs:List D),StOk zs→(S.length=0→p=none)→(0<S.length→∃i j y,p=some (i,j)∧S[i]?=some y∧j<y.1.length∧(j≠0∨i=0))→k [.own a zs,x1,x2,.own c (S.map itD),.d (.int sh),.d (.int (j:Int)),kind,x7,.d (plD p)] post) :
  wSeq (wIf (aB (wBin opGt (wVar 5) (wC (.int 0)))) (wSeq (wSet 8 (wFrz (n9 3 0 (a8 du 0 0 (aVar 0 (aVal (wVar 3) aNil))))))
  (wIf (aB (wBin opEq (wVar 4) (wC (.int 1)))) (wSet 8 (wTup (aVal (wBin eH (wVar 5) (wC (.int 1))) (aVal (wBin eH (aH bp (aVal (wBin opIx (d8 3 (wIxV 3 (wBin eH (wVar 5) (wC (.int 1)))) (wBin opIx (wVar 3) (wBin eH (wVar 5) (wC (.int 1))))) (wC (.int 0))) aNil)) (wC (.int 1))) aNil)))) aX)) aX) k [.own a ys,x1,x2,.own c (S.map itD),.d (.int sh),.d (.int (j:Int)),kind,x7,.d .non] post:=by
 walk_at "w"
 by_cases c1:0<(j:Int)
 ·
  rw[if_pos c1]
  have h0:1≤S.length:=by omega
  refine⟨by decide,by rw[vx hy,hx1,hx2,hk,h7];rfl,a,ys,S,rfl,hy,h0,h6,hS.rm,fun i j' y zs hz e1 e2 e3=>⟨zs,rfl,rfl,zs,vx hz,rfl,?_⟩⟩
  walk_at "w"
  by_cases c2:sh=1
  ·
   rw[if_pos c2]
   have hj1:j-1<S.length:=by omega
   have e0:S[j-1]?=some S[j-1]:=List.getElem?_eq_getElem hj1
   have hr:=hS.rm _ (List.getElem_mem hj1)
   refine⟨itD S[j-1],?_,?_⟩
   ·
    rw[show(j:Int)-1=((j-1:Nat):Int) by omega]
    exact dD (by rw[List.getElem?_map,e0];rfl)
   unfold itD
   walk_at "w"
   have:=h (some (j-1,S[j-1].1.length-1)) zs hz (fun z=>by omega) fun _=>⟨_,_,_,rfl,e0,by have:=hr.lo;omega,.inl (by have:=hr.lo;omega)⟩
   have e5:plD (some (j-1,S[j-1].1.length-1))=.tup [.int ((j:Int)-1),.int ((S[j-1].1.length:Int)-1)]:=by
    have:=hr.lo
    show D.tup [.int ((j-1:Nat):Int),.int ((S[j-1].1.length-1:Nat):Int)]=_
    rw[show((j-1:Nat):Int)=(j:Int)-1 by omega,show((S[j-1].1.length-1:Nat):Int)=(S[j-1].1.length:Int)-1 by omega]
   rw[e5]at this
   exact⟨by decide,this⟩
  ·
   rw[if_neg c2]
   exact h (some (i,j')) zs hz (fun z=>by omega) fun _=>⟨i,j',y,rfl,e1,e2,e3⟩
 ·
  rw[if_neg c1]
  exact h none ys hy (fun _=>rfl) fun z=>by omega
theorem lC:∀ls post,ls.length=3→eO ls post→fE (ls++List.replicate 6 .un) (bL ls post):=by
 rintro ls post - ⟨a,xs,m,n,rfl,hx,m1,m2,n1,n2,h⟩
 unfold fE
 walk_at "w"
 refine⟨by decide,fun c=>?_⟩
 refine⟨a,xs,3,rfl,hx,by decide,by decide,fun sh ys hy s0 s1=>⟨ys,rfl,?_⟩⟩
 walk_at "w"
 refine⟨a,ys,m,rfl,hy,by omega,by omega,fun r zs hz r0 r1=>⟨zs,rfl,?_⟩⟩
 walk_at "w"
 refine⟨⟨by omega,by omega⟩,?_⟩
 refine lg (1+r).toNat (fun k ρ=>∃(S:List (List Rat×Option (Nat×Nat)))(ws:List D)(x5 x6 x7 x8:L),ρ=[.own a ws,.d (.int (m:Int)),.d (.int (n:Int)),.own c (S.map itD),.d (.int sh),x5,x6,x7,x8]∧StOk ws∧fV S∧S.length=k) _ ⟨[],_,_,_,_,_,rfl,hz,fV.nil,rfl⟩ ?_ ?_
 ·
  rintro k ρ hk ⟨S,ws,x5,x6,x7,x8,rfl,hw,hS,hl⟩ Q g1 g2 g3 g4
  unfold gF
  walk_at "w"
  refine⟨a,ws,4,rfl,hw,by decide,by decide,fun kind us hu k0 k1=>⟨us,rfl,?_⟩⟩
  walk_at "w"
  unfold eA
  refine Ag hu n1 n2 k0 (by omega) fun qs vs d hv hq=>?_
  unfold ez
  walk_at "w"
  unfold en
  refine Ah hl.symm hS hq fun qs' x hx' hq'=>?_
  unfold ek
  have fx:ip x=true:=by
   rcases hx' with rfl|⟨d',rfl⟩
   ·
    rfl
   ·
    rw[nX]
    exact mW _
  refine CP hl.symm (by omega) hv hS fx rfl rfl rfl fun p ts ht p0 p1=>?_
  unfold ej
  have go:Q .nx [.own a ts,.d (.int (m:Int)),.d (.int (n:Int)),.own c ((S++[(qs',p)]).map itD),.d (.int sh),.d (.int (k:Int)),.d (.int kind),.d (.lst (qs'.map frD)),.d (plD p)]:=g1 _ ⟨S++[(qs',p)],ts,_,_,_,_,rfl,ht,hS.snoc hq' p0 p1,by rw[List.length_append,List.length_singleton,hl]⟩
  rw[List.map_append]at go
  rcases hx' with rfl|⟨d',rfl⟩
  ·
   walk_at "w"
   exact⟨by decide,Nat.lt_of_lt_of_le (show S.length<10 by omega) (by decide),go⟩
  ·
   walk_at "w"
   exact⟨by decide,Nat.lt_of_lt_of_le (show S.length<10 by omega) (by decide),go⟩
 ·
  rintro ρ ⟨S,ws,x5,x6,x7,x8,rfl,hw,hS,hl⟩
  walk_at "w"
  exact⟨_,d6 (by simp) (ao (ao aK)),h S c ws hw hS (by omega) (by omega)⟩
def cw:FS:=fun ls post=>∃(ns:List Int)(k:Int),ls=[.d (.lst (ns.map .int)),.d (.int k)]∧0≤k∧k≤100∧∀a xs,StOk xs→post (.own a xs) ls
def gG:W Fl:=(wSeq (wSet 2 (wC (.int 0)))
  (wSeq (wIf (aB (wBin opLt (wVar 1) (aH bp (aVal (wVar 0) aNil)))) (wSet 2 (wBin opIx (wVar 0) (wVar 1))) aX)
  (wRet (wLst (aVal (wVar 2) (aVal (wBin kR (wBin bW (wBin bW (wBin kR (wVar 2) (wC (.int 2147483587))) (wBin iN (wBin iN (wC (.int 48271)) (wVar 1)) (wVar 1))) (wC (.int 13))) (wC (.int 2147483587))) (aVal (wBin opGe (wVar 2) (wBin rW (wC (.int 10)) (wC (.int 18)))) aNil)))))))
theorem lU:∀ls post,ls.length=2→cw ls post→gG (ls++List.replicate 1 .un) (bL ls post):=by
 rintro ls post - ⟨ns,k,rfl,h0,h1,h⟩
 unfold gG
 have fin:∀(c:Int)(ρ:Ev)(e:ρ=[.d (.lst (ns.map .int)),.d (.int k),.d (.int c)]),∀a:Addr,bL [.d (.lst (ns.map .int)),.d (.int k)] post (.rt (.own a [.int c,.int ((c.fmod 2147483587+48271*k*k+13).fmod 2147483587),.bl (decide ((10:Int)^18≤c))])) ρ:=fun c ρ e a=>by
  refine⟨_,ao (ao aK),h a _ ⟨_,_,_,rfl,?_,?_⟩⟩
  ·
   rw[Int.fmod_eq_emod_of_nonneg _ (by decide)];exact Int.emod_nonneg _ (by decide)
  ·
   rw[Int.fmod_eq_emod_of_nonneg _ (by decide)]
   have:=Int.emod_lt_of_pos (c.fmod 2147483587+48271*k*k+13) (b:=2147483587) (by decide)
   omega
 have hb1:cD 48271:=cI (by decide)
 have hb2:cD k:=cI (Nat.lt_of_le_of_lt (show k.natAbs≤100 by omega) (by decide))
 have hb3:cD (48271*k):=cI (Nat.lt_of_le_of_lt (show(48271*k).natAbs≤4827100 by omega) (by decide))
 walk_at "w"
 try rw[List.length_map]
 split
 ·
  rename_i hk
  have hk:k<(ns.length:Int):=by simpa using hk
  have hi:k.toNat<ns.length:=by omega
  refine⟨.int ns[k.toNat],qX h0 (by rw[List.getElem?_map,List.getElem?_eq_getElem hi];rfl),?_⟩
  exact⟨by decide,hb1,hb2,hb3,hb2,by decide,by decide,by decide,by decide,by decide,fin _ _ rfl⟩
 ·
  exact⟨by decide,hb1,hb2,hb3,hb2,by decide,by decide,by decide,by decide,by decide,fin _ _ rfl⟩
def iA:FS:=fun ls post=>∃(a:Addr)(xs:List D)(S:List (List Rat×Option (Nat×Nat))),ls=[.own a xs,.d (.lst (S.map itD))]∧StOk xs∧fV S∧1≤S.length∧S.length≤6 ∧
 ∀(d:D)(ys:List D),StOk ys→SOk d→post (.d d) [.own a ys,.d (.lst (S.map itD))]
def gH:W Fl:=(wSeq (wSet 6 (wFrz (wLst (aVal (wC .non) (aVal (wTup (aVal (wVar 2) (aVal (wC (.int 1)) aNil))) (aVal (wTup (aVal (wC (.int 0)) (aVal (wC (.int 0)) aNil))) (aVal (wTup (aVal (wC (.int 0)) (aVal (wFrz (aH bp (aVal (wBin opIx (wBin opIx (wVar 1) (wC (.int 0))) (wC (.int 0))) aNil))) aNil))) (aVal (wTup (aVal (wC (.int 5)) (aVal (wC (.int 1)) aNil))) (aVal (wFrz (wLst (aVal (wC (.int 0)) (aVal (wC (.int 1)) aNil)))) (aVal (wTup (aVal (wC (.int 0)) (aVal (wC (.bl true)) aNil))) (aVal (wTup (aVal (wUn ua (wC (.int 1))) (aVal (wC (.int 0)) aNil))) (aVal (wTup (aVal (wC (.int 1)) (aVal (wC (.int 0)) aNil))) aNil))))))))))))
  (wSeq (wSet 9 (wFrz (a8 au 0 0 (aVar 0 (aVal (wFrz (aH bp (aVal (wVar 1) aNil))) aNil)))))
  (wSeq (wSet 6 (wFrz (wBin bW (wVar 6) (wLst (aVal (wTup (aVal (wVar 9) (aVal (wFrz (wBin bW (aH bp (aVal (wBin opIx (wBin opIx (wVar 1) (wVar 9)) (wC (.int 0))) aNil)) (a8 au 0 0 (aVar 0 (aVal (wC (.int 2)) aNil))))) aNil))) (aVal (wTup (aVal (wC (.int 0)) (aVal (wBin eH (wC (.int 0)) (wC (.int 1))) aNil))) aNil))))))
  (wSeq (wSet 6 (wFrz (wBin bW (wVar 6) (wLst (aVal (wTup (aVal (wC (.int 0)) (aVal (wC (.int 1)) (aVal (wC (.int 0)) aNil)))) (aVal (wTup (aVal (wBin eH (wC (.int 0)) (wC (.int 1))) (aVal (wC (.int 1)) aNil))) (aVal (wTup (aVal (wBin eH (wBin eH (wC (.int 0)) (wVar 9)) (wC (.int 1))) (aVal (wC (.int 1)) aNil))) (aVal (wTup aNil) (aVal (wC (.int 0)) (aVal (wC (.bl false)) (aVal (wFrz (wLst aNil)) aNil)))))))))))
  (wSet 4 (wBin opIx (wVar 6) (a8 au 0 0 (aVar 0 (aVal (wC (.int 18)) aNil)))))))))
def eB:W Fl:=(wRet (wFrz (wBin bW (wBin bW (wSl2 (wVar 1) none (some (wVar 2))) (wLst (aVal (wTup (aVal (wVar 3) (aVal (wVar 4) aNil))) aNil))) (wSl2 (wVar 1) (some (wBin bW (wVar 2) (wC (.int 1)))) none))))
def gI:W Fl:=(wSet 3 (wBin opIx (wLst (aVal (wFrz (wSl2 (wVar 3) none (some (wC (.int 1))))) (aVal (wFrz (wSl2 (zG (wVar 3) (wC (.int 12))) none (some (wC (.int 13))))) (aVal (wFrz (aH kU (aVal (wVar 3) aNil))) (aVal (wC .non) (aVal (wFrz (wLst aNil)) aNil)))))) (a8 au 0 0 (aVar 0 (aVal (wC (.int 5)) aNil)))))
def eD:W Fl:=(wSeq (wIf (aB (wBin opGt (wVar 5) (wC (.int 5)))) gH aX)
  eB)
def gJ:W Fl:=(wSeq (wSet 7 (wBin opIx (wLst (aVal (wTup (aVal (wC (.int 0)) (aVal (wC (.int 1)) aNil))) (aVal (wTup (aVal (wUn ua (wC (.int 1))) (aVal (wC (.int 1)) aNil))) (aVal (wTup (aVal (wC (.int 2)) (aVal (wC (.int 4)) aNil))) (aVal (wC (.int 1)) (aVal (wC .non) (aVal (wFrz (wLst (aVal (wC (.int 1)) (aVal (wC (.int 1)) aNil)))) (aVal (wTup (aVal (wC (.int 1)) (aVal (wC (.int 0)) aNil))) (aVal (wTup (aVal (wC (.bl true)) (aVal (wC (.int 1)) aNil))) aNil))))))))) (a8 au 0 0 (aVar 0 (aVal (wC (.int 8)) aNil)))))
  (wSeq (wSet 8 (wFrz (a8 au 0 0 (aVar 0 (aVal (wFrz (aH bp (aVal (wVar 3) aNil))) aNil)))))
  (wSet 3 (wFrz (wBin bW (wBin bW (wSl2 (wVar 3) none (some (wVar 8))) (wLst (aVal (wVar 7) aNil))) (wSl2 (wVar 3) (some (wBin bW (wVar 8) (wC (.int 1)))) none))))))
def gK:W Fl:=(wSeq (wIf (aB (wBin opEq (wVar 5) (wC (.int 5)))) gI aX)
  eD)
def gL:W Fl:=(wRet (wFrz (wBin bW (wVar 1) (wRep (wLst (aVal (wTup (aVal (wFrz (wLst (aVal (wTup (aVal (wC (.int 1)) (aVal (wC (.int 1)) aNil))) (aVal (wTup (aVal (wC (.int 2)) (aVal (wC (.int 3)) aNil))) aNil)))) (aVal (wTup (aVal (wC (.int 0)) (aVal (wC (.int 1)) aNil))) aNil))) aNil)) (wBin bW (wC (.int 1)) (a8 au 0 0 (aVar 0 (aVal (wC (.int 6)) aNil))))))))
def ka:W Fl:=(wSeq (wIf (aB (wBin opEq (wVar 5) (wC (.int 4)))) gJ aX)
  gK)
def gM:W Fl:=(wRet (wFrz (wBin bW (wSl2 (wVar 1) none (some (wVar 2))) (wSl2 (wVar 1) (some (wBin bW (wVar 2) (wC (.int 1)))) none))))
def kb:W Fl:=(wSeq (wIf (aB (wBin opEq (wVar 5) (wC (.int 3)))) gL aX)
  ka)
def gN:W Fl:=(wSeq (wSet 6 (wFrz (wLst (aVal (wC .non) (aVal (wFrz (wLst (aVal (wVar 3) (aVal (wVar 4) aNil)))) (aVal (wTup (aVal (wVar 3) aNil)) (aVal (wTup (aVal (wVar 3) (aVal (wVar 4) (aVal (wVar 4) aNil)))) (aVal (wTup (aVal (wVar 4) (aVal (wVar 3) aNil))) aNil))))))))
  (wRet (wFrz (wBin bW (wBin bW (wSl2 (wVar 1) none (some (wVar 2))) (wLst (aVal (wBin opIx (wVar 6) (a8 au 0 0 (aVar 0 (aVal (wC (.int 5)) aNil)))) aNil))) (wSl2 (wVar 1) (some (wBin bW (wVar 2) (wC (.int 1)))) none)))))
def kc:W Fl:=(wSeq (wIf (aB (wBin opEq (wVar 5) (wC (.int 2)))) gM aX)
  kb)
def gO:W Fl:=(wRet (wBin opIx (wLst (aVal (wC .non) (aVal (wTup aNil) (aVal (yZ 0) (aVal (wC (.str "string")) (aVal (wFrz (wLst aNil)) (aVal (wFrz (aH kU (aVal (wVar 1) aNil))) (aVal (wBin opIx (wVar 1) (wC (.int 0))) aNil)))))))) (a8 au 0 0 (aVar 0 (aVal (wC (.int 7)) aNil)))))
def ke:W Fl:=(wSeq (wIf (aB (wBin opEq (wVar 5) (wC (.int 1)))) gN aX)
  kc)
def kf:W Fl:=(wSeq (wIf (aB (wBin opEq (wVar 5) (wC (.int 0)))) gO aX)
  ke)
def kg:W Fl:=(wSeq (wSet 5 (wFrz (a8 au 0 0 (aVar 0 (aVal (wC (.int 8)) aNil)))))
  kf)
def ki:W Fl:=(wSeq (yJ [3,4] (wBin opIx (wVar 1) (wVar 2)))
  kg)
def jR:W Fl:=(wSeq (wSet 2 (wFrz (a8 au 0 0 (aVar 0 (aVal (wFrz (aH bp (aVal (wVar 1) aNil))) aNil)))))
  ki)
section
variable{a:Addr}{ys zs:List D}{k:Nat}{rd pd:D}{w:Int}{x6 x7 x8 x9:L}{post:Fl→Ev→Prop}
theorem lo_6(hH:Hung zs)(hy:StOk ys)(hz:∀x∈zs,GI x)(h0:0<zs.length)(hl:zs.length≤6)(fin:∀d ys ρ,StOk ys→SOk d→L.own a ys∈ρ→post (.rt (.d d)) ρ) :
  gO [.own a ys,.d (.lst zs),.d (.int (k:Int)),.d rd,.d pd,.d (.int w),x6,x7,x8,x9] post:=by
 unfold gO
 walk_at "w"
 obtain⟨v,ev,hv⟩:=ll (xs:=zs) (i:=0) (by decide) (by omega)
 refine⟨by decide,by decide,fun _=>⟨v,ev,by decide,fun _=>⟨a,ys,7,rfl,hy,by decide,by decide,fun r us hu r0 r1=>⟨us,rfl,?_⟩⟩⟩⟩
 walk_at "w"
 obtain⟨u,eu,hm⟩:=ll (xs:=[D.non,D.tup [],D.dct 0,D.str (Str.ofString "string"),D.lst [],D.tup zs,v]) (i:=r) r0 r1
 refine⟨u,eu,fin u us _ hu ?_ (by simp)⟩
 simp only[List.mem_cons,List.not_mem_nil,or_false]at hm
 rcases hm with rfl|rfl|rfl|rfl|rfl|rfl|rfl
 ·
  exact SOk.of PG.non fun xs e=>by cases e
 ·
  exact SOk.of (PG.small (ys:=[]) (fun y hy=>by cases hy) (by decide)).2 fun xs e=>by cases e
 ·
  exact⟨⟨rfl,rfl,by decide,by decide⟩,fun xs e=>by cases e⟩
 ·
  exact SOk.of ⟨by decide +kernel,rfl,by decide +kernel,fun rs e=>by cases e⟩ fun xs e=>by cases e
 ·
  exact SOk.lst (xs:=[]) (fun x hx=>by cases hx) (by decide)
 ·
  exact SOk.tup hz (by omega)
 ·
  have:=hz _ hv
  obtain⟨rs,b,rfl⟩:=hH _ hv
  exact⟨this.rep,fun xs e=>by cases e⟩
theorem lo_5(hy:StOk ys)(hz:∀x∈zs,GI x)(hk:k<zs.length)(hl:zs.length≤6)(hr:PG rd)(hp:PG pd)(fin:∀d ys ρ,StOk ys→SOk d→L.own a ys∈ρ→post (.rt (.d d)) ρ) :
  gN [.own a ys,.d (.lst zs),.d (.int (k:Int)),.d rd,.d pd,.d (.int w),x6,x7,x8,x9] post:=by
 unfold gN
 walk_at "w"
 refine⟨by decide,fun _=>⟨by decide,by decide,by decide,by decide,fun _ _=>⟨a,ys,5,rfl,hy,by decide,by decide,fun r us hu r0 r1=>⟨us,rfl,?_⟩⟩⟩⟩
 walk_at "w"
 obtain⟨u,eu,hm⟩:=ll (xs:=[D.non,D.lst [rd,pd],D.tup [rd],D.tup [rd,pd,pd],D.tup [pd,rd]]) (i:=r) r0 r1
 have hg:GI u:=by
  simp only[List.mem_cons,List.not_mem_nil,or_false]at hm
  rcases hm with rfl|rfl|rfl|rfl|rfl
  ·
   exact PG.non.gi fun ys e=>by cases e
  ·
   exact(PG.two (ys:=[rd,pd]) (by simp[hr,hp]) (by simp)).2
  ·
   exact(PG.two (ys:=[rd]) (by simp[hr]) (by simp)).1
  ·
   exact(PG.two (ys:=[rd,pd,pd]) (by simp[hr,hp]) (by simp)).1
  ·
   exact(PG.two (ys:=[pd,rd]) (by simp[hr,hp]) (by simp)).1
 refine⟨u,eu,?_⟩
 rw[show(k:Int)+1=((k+1:Nat):Int) by omega,jB,i1]
 refine⟨by decide,fun _=>⟨gz ?_,fun _ _=>⟨gz ?_,fun _=>fin _ us _ hu (GI.put hz hg (by omega)) (by simp)⟩⟩⟩
 ·
  simp only[List.length_take,List.length_cons,List.length_nil]
  omega
 ·
  simp only[List.length_append,List.length_take,List.length_drop,List.length_cons,List.length_nil]
  omega
theorem lo_4(hy:StOk ys)(hz:∀x∈zs,GI x)(hl:zs.length≤6)(fin:∀d ys ρ,StOk ys→SOk d→L.own a ys∈ρ→post (.rt (.d d)) ρ) :
  gM [.own a ys,.d (.lst zs),.d (.int (k:Int)),.d rd,.d pd,.d (.int w),x6,x7,x8,x9] post:=by
 unfold gM
 walk_at "w"
 rw[show(k:Int)+1=((k+1:Nat):Int) by omega,jB,i1]
 refine fun _ _=>⟨gz ?_,fun _=>fin _ ys _ hy (GI.drop hz (by omega)) (by simp)⟩
 simp only[List.length_take,List.length_drop]
 omega
theorem lo_3(hy:StOk ys)(hz:∀x∈zs,GI x)(hl:zs.length≤6)(fin:∀d ys ρ,StOk ys→SOk d→L.own a ys∈ρ→post (.rt (.d d)) ρ) :
  gL [.own a ys,.d (.lst zs),.d (.int (k:Int)),.d rd,.d pd,.d (.int w),x6,x7,x8,x9] post:=by
 unfold gL
 walk_at "w"
 refine⟨by decide,by decide,by decide,fun _=>⟨by decide,by decide,by decide,fun _=>⟨a,ys,6,rfl,hy,by decide,by decide,fun r us hu r0 r1=>⟨us,rfl,?_⟩⟩⟩⟩
 walk_at "w"
 have hx:GI (D.tup [D.lst [D.tup [D.int 1,D.int 1],D.tup [D.int 2,D.int 3]],D.tup [D.int 0,D.int 1]]):=⟨rfl,by decide +kernel,by decide,fun ys e y hy rs er=>by
  cases e
  simp only[List.mem_cons,List.not_mem_nil,or_false]at hy
  rcases hy with rfl|rfl
  ·
   cases er;decide
  ·
   cases er⟩
 generalize D.tup [D.lst [D.tup [D.int 1,D.int 1],D.tup [D.int 2,D.int 3]],D.tup [D.int 0,D.int 1]]=x at hx
 have el:(List.replicate (1+r).toNat [x]).flatten=List.replicate (1+r).toNat x:=by
  generalize (1+r).toNat=m
  induction m with
  |zero=>rfl
  |succ m ih=>rw[List.replicate_succ,List.flatten_cons,ih];rfl
 rw[el,List.length_replicate]
 refine⟨⟨by omega,by omega⟩,gz (by omega),fun _=>⟨gz (by omega),fun _=>fin _ us _ hu (SOk.lst (fun y hy'=>?_) ?_) (by simp)⟩⟩
 ·
  rcases List.mem_append.mp hy' with m|m
  ·
   exact hz y m
  ·
   rw[List.eq_of_mem_replicate m]
   exact hx
 ·
  rw[List.length_append,List.length_replicate]
  omega
theorem lo_2{qs:List Rat}(hy:StOk ys)(hq:RmOk qs)(fin:∀d ys x7 x8,StOk ys→PG d→post .nx [.own a ys,.d (.lst zs),.d (.int (k:Int)),.d d,.d pd,.d (.int w),x6,x7,x8,x9]) :
  gJ [.own a ys,.d (.lst zs),.d (.int (k:Int)),.d (.lst (qs.map frD)),.d pd,.d (.int w),x6,x7,x8,x9] post:=by
 unfold gJ
 walk_at "w"
 refine⟨by decide,by decide,by decide,by decide,fun _=>⟨by decide,by decide,by decide,fun _=>⟨a,ys,8,rfl,hy,by decide,by decide,fun r us hu r0 r1=>⟨us,rfl,?_⟩⟩⟩⟩
 walk_at "w"
 obtain⟨u,eu,hm⟩:=ll (xs:=[D.tup [D.int 0,D.int 1],D.tup [D.int (-1),D.int 1],D.tup [D.int 2,D.int 4],D.int 1,D.non,D.lst [D.int 1,D.int 1],D.tup [D.int 1,D.int 0],D.tup [D.bl true,D.int 1]]) (i:=r) r0 r1
 have hg:okD 3 u=true∧a0 u=true∧sgnD u≤1300:=by
  simp only[List.mem_cons,List.not_mem_nil,or_false]at hm
  rcases hm with rfl|rfl|rfl|rfl|rfl|rfl|rfl|rfl
  all_goals exact⟨rfl,by decide +kernel,by decide⟩
 refine⟨u,eu,?_⟩
 have h1:=hq.lo
 have h2:=hq.hi
 refine⟨a,us,qs.length,rfl,hu,by omega,by omega,fun t vs hv t0 t1=>⟨vs,rfl,?_⟩⟩
 walk_at "w"
 have et:t=((t.toNat:Nat):Int):=by omega
 rw[et,show((t.toNat:Nat):Int)+1=((t.toNat+1:Nat):Int) by omega,jB,i1]
 refine fun _=>⟨by decide,fun _=>⟨gz ?_,fun _ _=>⟨gz ?_,fun _=>fin _ vs _ _ hv (PG.rooms (fun x hx=>?_) ?_).1⟩⟩⟩
 ·
  simp only[List.length_take,List.length_map]
  omega
 ·
  simp only[List.length_append,List.length_take,List.length_drop,List.length_map,List.length_cons,List.length_nil]
  omega
 ·
  rcases List.mem_append.mp hx with hx|hx
  ·
   rcases List.mem_append.mp hx with hx|hx
   ·
    obtain⟨q,hq',rfl⟩:=List.mem_map.mp (List.mem_of_mem_take hx)
    exact i0 (hq.q q hq').2
   ·
    rw[List.mem_singleton.mp hx]
    exact hg
  ·
   obtain⟨q,hq',rfl⟩:=List.mem_map.mp (List.mem_of_mem_drop hx)
   exact i0 (hq.q q hq').2
 ·
  simp only[List.length_append,List.length_take,List.length_drop,List.length_map,List.length_cons,List.length_nil]
  omega
theorem lo_1{qs:List Rat}(hy:StOk ys)(hq:RmOk qs)(fin:∀d ys,StOk ys→PG d→post .nx [.own a ys,.d (.lst zs),.d (.int (k:Int)),.d d,.d pd,.d (.int w),x6,x7,x8,x9]) :
  gI [.own a ys,.d (.lst zs),.d (.int (k:Int)),.d (.lst (qs.map frD)),.d pd,.d (.int w),x6,x7,x8,x9] post:=by
 unfold gI
 walk_at "w"
 have h2:=hq.hi
 have rm:∀rs:List D,(∀x∈rs,x∈qs.map frD)→rs.length≤150→PG (.lst rs)∧PG (.tup rs):=fun rs hr hl=>PG.rooms (fun x hx=>by
  obtain⟨q,hq',rfl⟩:=List.mem_map.mp (hr x hx)
  exact i0 (hq.q q hq').2) hl
 have sub:∀rs:List D,∀m:Nat,∀x∈cutD rs none (some (m:Int)),x∈rs:=fun rs m x hx=>by
  rw[jB]at hx
  exact List.mem_of_mem_take hx
 have ln:∀rs:List D,∀m:Nat,(cutD rs none (some (m:Int))).length≤m:=fun rs m=>by
  rw[jB,List.length_take]
  omega
 refine fun _=>⟨⟨by decide,by decide⟩,gz (by show qs.length*12≤1000;omega),fun _ _=>⟨by decide,fun _=>⟨by decide,fun _=>⟨a,ys,5,rfl,hy,by decide,by decide,fun r us hu r0 r1=>⟨us,rfl,?_⟩⟩⟩⟩⟩
 walk_at "w"
 obtain⟨u,eu,hm⟩:=ll (xs:=[D.lst (cutD (List.map frD qs) none (some 1)),D.lst (cutD (List.replicate (Int.toNat 12) (List.map frD qs)).flatten none (some 13)),D.tup (List.map frD qs),D.non,D.lst []]) (i:=r) r0 r1
 refine⟨u,eu,fin u us hu ?_⟩
 simp only[List.mem_cons,List.not_mem_nil,or_false]at hm
 rcases hm with rfl|rfl|rfl|rfl|rfl
 ·
  exact(rm _ (sub _ 1) (Nat.le_trans (ln _ 1) (by decide))).1
 ·
  refine(rm _ (fun x hx=>?_) (Nat.le_trans (ln _ 13) (by decide))).1
  have:=sub _ 13 x hx
  obtain⟨l,hl,hx⟩:=List.mem_flatten.mp this
  rw[List.eq_of_mem_replicate hl]at hx
  exact hx
 ·
  exact(rm _ (fun x hx=>hx) (by rw[List.length_map];omega)).2
 ·
  exact PG.non
 ·
  exact(rm [] (fun x hx=>by cases hx) (by decide)).1
theorem lo_0{S:List (List Rat×Option (Nat×Nat))}(hy:StOk ys)(hS:fV S)(h0:0<S.length)(h6:S.length≤6)(hk:k<S.length)(fin:∀d ys x6 x9,StOk ys→PG d→post .nx [.own a ys,.d (.lst (S.map itD)),.d (.int (k:Int)),.d rd,.d d,.d (.int w),x6,x7,x8,x9]) :
  gH [.own a ys,.d (.lst (S.map itD)),.d (.int (k:Int)),.d rd,.d pd,.d (.int w),x6,x7,x8,x9] post:=by
 unfold gH
 walk_at "w"
 refine⟨by decide,by decide,_,vp h0,?_⟩
 walk_at "w"
 refine⟨by decide,by decide,by decide,fun _=>⟨by decide,by decide,by decide,by decide,fun _=>⟨a,ys,S.length,rfl,hy,by omega,by omega,fun r us hu r0 r1=>⟨us,rfl,?_⟩⟩⟩⟩
 have hr:r.toNat<S.length:=by omega
 have er:r=((r.toNat:Nat):Int):=by omega
 rw[er]
 walk_at "w"
 refine⟨_,vp hr,?_⟩
 walk_at "w"
 refine⟨a,us,2,rfl,hu,by decide,by decide,fun t vs hv t0 t1=>⟨vs,rfl,?_⟩⟩
 dsimp only
 refine⟨by decide,by decide,by decide,fun _=>⟨by decide,fun _=>⟨by decide,by decide,by decide,by decide,by decide,fun _=>⟨by decide,fun _=>⟨by decide,fun _=>⟨a,vs,18,rfl,hv,by decide,by decide,fun z ws hw z0 z1=>⟨ws,rfl,?_⟩⟩⟩⟩⟩⟩⟩
 walk_at "w"
 have r0l:=(hS.rm _ (List.getElem_mem h0)).hi
 have rrl:=(hS.rm _ (List.getElem_mem hr)).hi
 obtain⟨u,eu,hm⟩:=ll (xs:=[D.non,D.tup [D.int (k:Int),D.int 1],D.tup [D.int 0,D.int 0],D.tup [D.int 0,D.int (S[0].fst.length:Int)],D.tup [D.int 5,D.int 1],D.lst [D.int 0,D.int 1],D.tup [D.int 0,D.bl true],D.tup [D.int (-1),D.int 0],D.tup [D.int 1,D.int 0],D.tup [D.int (r.toNat:Int),D.int ((S[r.toNat].fst.length:Int)+t)],D.tup [D.int 0,D.int (0-1)],D.tup [D.int 0,D.int 1,D.int 0],D.tup [D.int (0-1),D.int 1],D.tup [D.int (0-(r.toNat:Int)-1),D.int 1],D.tup [],D.int 0,D.bl false,D.lst []]) (i:=z) z0 z1
 refine⟨u,eu,fin u ws _ _ hw ?_⟩
 have two:∀i j:Int,i.natAbs<1000→j.natAbs<1000→PG (.tup [.int i,.int j]):=fun i j hi hj=>(PG.small (ys:=[.int i,.int j]) (fun y hy=>by
  simp only[List.mem_cons,List.not_mem_nil,or_false]at hy
  rcases hy with rfl|rfl
  ·
   exact xY (Nat.lt_trans hi (by decide))
  ·
   exact xY (Nat.lt_trans hj (by decide))) (by simp)).2
 simp only[List.mem_cons,List.not_mem_nil,or_false]at hm
 rcases hm with rfl|rfl|rfl|rfl|rfl|rfl|rfl|rfl|rfl|rfl|rfl|rfl|rfl|rfl|rfl|rfl|rfl|rfl
 ·
  exact PG.non
 ·
  exact two _ _ (by omega) (by omega)
 ·
  exact two _ _ (by omega) (by omega)
 ·
  exact two _ _ (by omega) (by omega)
 ·
  exact two _ _ (by omega) (by omega)
 ·
  exact⟨rfl,by decide +kernel,by decide,fun rs e=>by cases e;decide⟩
 ·
  exact⟨rfl,by decide +kernel,by decide,fun rs e=>by cases e⟩
 ·
  exact two _ _ (by omega) (by omega)
 ·
  exact two _ _ (by omega) (by omega)
 ·
  exact two _ _ (by omega) (by omega)
 ·
  exact two _ _ (by omega) (by omega)
 ·
  exact⟨rfl,by decide +kernel,by decide,fun rs e=>by cases e⟩
 ·
  exact two _ _ (by omega) (by omega)
 ·
  exact two _ _ (by omega) (by omega)
 ·
  exact⟨rfl,rfl,by decide,fun rs e=>by cases e⟩
 ·
  exact PG.int (by decide)
 ·
  exact PG.bl _
 ·
  exact⟨rfl,rfl,by decide,fun rs e=>by cases e;decide⟩
theorem lo_9(hy:StOk ys)(hz:∀x∈zs,GI x)(hl:zs.length≤6)(hr:PG rd)(hp:PG pd)(fin:∀d ys ρ,StOk ys→SOk d→L.own a ys∈ρ→post (.rt (.d d)) ρ) :
  eB [.own a ys,.d (.lst zs),.d (.int (k:Int)),.d rd,.d pd,.d (.int w),x6,x7,x8,x9] post:=by
 unfold eB
 walk_at "w"
 rw[show(k:Int)+1=((k+1:Nat):Int) by omega,jB,i1]
 refine fun _=>⟨by decide,by decide,fun _=>⟨gz ?_,fun _ _=>⟨gz ?_,fun _=>fin _ ys _ hy (GI.put hz (PG.two (ys:=[rd,pd]) (by simp[hr,hp]) (by simp)).1 (by omega)) (by simp)⟩⟩⟩
 ·
  simp only[List.length_take]
  omega
 ·
  simp only[List.length_append,List.length_take,List.length_drop,List.length_cons,List.length_nil]
  omega
end
theorem oN:∀ls post,ls.length=2→iA ls post→jR (ls++List.replicate 8 .un) (bL ls post):=by
 rintro ls post - ⟨a,xs,S,rfl,hx,hS,h1,h6,h⟩
 have hl:(S.map itD).length≤6:=by rw[List.length_map];exact h6
 have hz:=hS.gi h6
 have fin:∀d ys ρ,StOk ys→SOk d→L.own a ys∈ρ→bL [.own a xs,.d (.lst (S.map itD))] post (.rt (.d d)) ρ:=fun d ys ρ hy hd hm=>⟨_,d6 hm (ao aK),h d ys hy hd⟩
 unfold jR
 walk_at "w"
 refine⟨a,xs,S.length,rfl,hx,by omega,by omega,fun r us hu r0 r1=>⟨us,rfl,?_⟩⟩
 have hr:r.toNat<S.length:=by omega
 have er:r=((r.toNat:Nat):Int):=by omega
 rw[er]
 walk_at "w"
 unfold ki
 walk_at "w"
 refine⟨_,vp hr,?_⟩
 have hm:=List.getElem_mem hr
 obtain⟨pr,pp⟩:=hS.pl h6 hm
 have hq:=hS.rm _ hm
 walk_at "w"
 generalize S[r.toNat]=y at pr pp hq
 unfold kg
 walk_at "w"
 refine⟨a,us,8,rfl,hu,by decide,by decide,fun w vs hv w0 w1=>⟨vs,rfl,?_⟩⟩
 walk_at "w"
 unfold kf
 walk_at "w"
 have hlz:r.toNat<(S.map itD).length:=by rw[List.length_map];exact hr
 have end9:∀(ts:List D)(rd pd:D)(x6 x7 x8 x9:L),StOk ts→PG rd→PG pd→eB [.own a ts,.d (.lst (S.map itD)),.d (.int (r.toNat:Int)),.d rd,.d pd,.d (.int w),x6,x7,x8,x9] (bL [.own a xs,.d (.lst (S.map itD))] post):=fun ts rd pd x6 x7 x8 x9 ht h1 h2=>lo_9 ht hz hl h1 h2 fin
 by_cases c0:w=0
 ·
  rw[if_pos c0]
  exact lo_6 (xX S) hv hz (by omega) hl fin
 rw[if_neg c0]
 unfold ke
 walk_at "w"
 by_cases c1:w=1
 ·
  rw[if_pos c1]
  exact lo_5 hv hz hlz hl pr pp fin
 rw[if_neg c1]
 unfold kc
 walk_at "w"
 by_cases c2:w=2
 ·
  rw[if_pos c2]
  exact lo_4 hv hz hl fin
 rw[if_neg c2]
 unfold kb
 walk_at "w"
 by_cases c3:w=3
 ·
  rw[if_pos c3]
  exact lo_3 hv hz hl fin
 rw[if_neg c3]
 unfold ka
 walk_at "w"
 by_cases c4:w=4
 ·
  rw[if_pos c4]
  refine lo_2 hv hq fun d ts x7 x8 ht hd=>?_
  dsimp only
  unfold gK
  walk_at "w"
  rw[if_neg (by omega)]
  unfold eD
  walk_at "w"
  rw[if_neg (by omega)]
  exact end9 ts d _ _ _ _ _ ht hd pp
 rw[if_neg c4]
 unfold gK
 walk_at "w"
 by_cases c5:w=5
 ·
  rw[if_pos c5]
  refine lo_1 hv hq fun d ts ht hd=>?_
  dsimp only
  unfold eD
  walk_at "w"
  rw[if_neg (by omega)]
  exact end9 ts d _ _ _ _ _ ht hd pp
 rw[if_neg c5]
 unfold eD
 walk_at "w"
 rw[if_pos (by omega)]
 exact lo_0 hv hS (by omega) h6 hr fun d ts x6 x9 ht hd=>end9 ts _ d _ _ _ _ ht pr hd
def c6:FS:=fun ls post=>∃d:D,ls=[.d d]∧(∀xs,d=.lst xs→xs.length≤20∧∀x∈xs,GI x)∧post (.d (.lst (gy d))) ls
def i9:W Fl:=(wRet (wFrz (wLst (aVal (wUn (n6 "number") (wVar 1)) aNil))))
def ja:W Fl:=(wSeq (wIf (wOr (aB (wUn (n5 ["NoName","NoPlace","NoRing","TooMany"]) (wVar 1))) (aB (wUn (cG "bool") (wUn (n6 "number") (wVar 1))))) (wRet (wFrz (wLst (aVal (wC (.str "other")) aNil)))) aX)
  i9)
def jc:W Fl:=(wSeq (wIf (wOr (wNot (aB (wUn (uQ "NoString") (wVar 1)))) (wNot (aB (wUn (cG "ValueError") (wVar 1))))) (wRet (wFrz (wLst (aVal (wC (.str "other")) aNil)))) aX)
  ja)
def fF:W Fl:=(wSeq (wIf (aB (wBin pw (wVar 1) (wC .non))) (wRet (wBin opIx (wLst (aVal (wFrz (wLst aNil)) (aVal (wFrz (wLst (aVal (wC (.str "other")) aNil))) aNil))) (aH pf (aVal (wBin kW (wVar 2) (wC .non)) aNil)))) aX)
  jc)
def jd:W Fl:=(wSeq (qQ (fun xt=>(wSet 2 (wFrz (mf bN xt (aVal (wVar 0) aNil))))) "LoadError" 3 (wSet 1 (wVar 3)))
  fF)
def je:W Fl:=(wSeq (wSet 2 (wC .non))
  jd)
def fG:W Fl:=(wSeq (wSet 1 (wC .non))
  je)
def nsE(k:Option Nat):D:=.exc "NoString" ["number"] [optN k]
theorem BX{k:W Fl}{d:D}{post:Fl→Ev→Prop}(hd:∀xs,d=.lst xs→xs.length≤20∧∀x∈xs,GI x)(h0:eY d=none→k [.d d,.d .non,.d .non,.un] post)(h1:∀n,eY d=some n→k [.d d,.d (nsE n),.d .non,.un] post) :
  wSeq (qQ (fun xt=>(wSet 2 (wFrz (mf bN xt (aVal (wVar 0) aNil))))) "LoadError" 3 (wSet 1 (wVar 3))) k [.d d,.d .non,.d .non,.un] post:=by
 walk_at "w"
 refine⟨d,rfl,hd,fun e=>?_,fun n e=>?_⟩
 ·
  walk_at "w"
  exact h0 e
 ·
  walk_at "w"
  exact⟨Bool.or_true _,h1 n e⟩
theorem Ai{k:W Fl}{d:D}{post:Fl→Ev→Prop}(h:∀ ρ,ρ=[.d d,.d .non,.d .non,.un]→post (.rt (.d (.lst []))) ρ):wSeq (wIf (aB (wBin pw (wVar 1) (wC .non))) (wRet (wBin opIx (wLst (aVal (wFrz (wLst aNil)) (aVal (wFrz (wLst (aVal (wC (.str "other")) aNil))) aNil))) (aH pf (aVal (wBin kW (wVar 2) (wC .non)) aNil)))) aX) k [.d d,.d .non,.d .non,.un] post:=by
 walk_at "w"
 exact⟨by decide,fun _=>⟨by decide,fun _=>⟨by decide,fun _=>h _ rfl⟩⟩⟩
theorem Aj{k:W Fl}{d:D}{n:Option Nat}{post:Fl→Ev→Prop}(h:k [.d d,.d (nsE n),.d .non,.un] post):wSeq (wIf (aB (wBin pw (wVar 1) (wC .non))) (wRet (wBin opIx (wLst (aVal (wFrz (wLst aNil)) (aVal (wFrz (wLst (aVal (wC (.str "other")) aNil))) aNil))) (aH pf (aVal (wBin kW (wVar 2) (wC .non)) aNil)))) aX) k [.d d,.d (nsE n),.d .non,.un] post:=by
 unfold nsE at *
 walk_at "w"
 exact h
theorem CQ{k:W Fl}{d:D}{post:Fl→Ev→Prop}(h:k [.d d,.d .non,.un,.un] post):wSeq (wSet 1 (wC .non)) k [.d d,.un,.un,.un] post:=by
 walk_at "w"
 exact h
theorem CS{k:W Fl}{d:D}{post:Fl→Ev→Prop}(h:k [.d d,.d .non,.d .non,.un] post):wSeq (wSet 2 (wC .non)) k [.d d,.d .non,.un,.un] post:=by
 walk_at "w"
 exact h
theorem xZ(n:Option Nat):List.lookup (Str.ofString "number") ([Str.ofString "number"].zip [optN n])=some (optN n):=by
 show List.lookup (Str.ofString "number") [(Str.ofString "number",optN n)]=_
 rw[List.lookup_cons_self]
theorem BY:([Str.ofString "NoName",Str.ofString "NoPlace",Str.ofString "NoRing",Str.ofString "TooMany"].any fun c=>c == Str.ofString "NoString" ||c == Str.ofString "LoadError")=false:=by decide +kernel
theorem CT(n:Option Nat):isTy "bool" (optN n)=false:=by cases n <;> rfl
theorem CU(n:Option Nat):isTy "ValueError" (D.exc (Str.ofString "NoString") [Str.ofString "number"] [optN n])=true:=by first | rfl | decide +kernel
theorem CV{k:W Fl}{d:D}{n:Option Nat}{post:Fl→Ev→Prop}(h:k [.d d,.d (nsE n),.d .non,.un] post):wSeq (wIf (wOr (wNot (aB (wUn (uQ "NoString") (wVar 1)))) (wNot (aB (wUn (cG "ValueError") (wVar 1))))) (wRet (wFrz (wLst (aVal (wC (.str "other")) aNil)))) aX) k [.d d,.d (nsE n),.d .non,.un] post:=by
 unfold nsE at *
 walk_at "w"
 rw[if_neg (by rw[Bool.true_or];decide),CU,if_neg (by decide)]
 exact h
theorem BZ{k:W Fl}{d:D}{n:Option Nat}{post:Fl→Ev→Prop}(h:k [.d d,.d (nsE n),.d .non,.un] post):wSeq (wIf (wOr (aB (wUn (n5 ["NoName","NoPlace","NoRing","TooMany"]) (wVar 1))) (aB (wUn (cG "bool") (wUn (n6 "number") (wVar 1))))) (wRet (wFrz (wLst (aVal (wC (.str "other")) aNil)))) aX) k [.d d,.d (nsE n),.d .non,.un] post:=by
 unfold nsE at *
 walk_at "w"
 rw[BY,if_neg (by decide),xZ]
 dsimp only
 rw[CT,if_neg (by decide)]
 exact h
theorem B0{d:D}{n:Option Nat}{post:Fl→Ev→Prop}(h:∀ ρ,ρ=[.d d,.d (nsE n),.d .non,.un]→post (.rt (.d (.lst [optN n]))) ρ):(wRet (wFrz (wLst (aVal (wUn (n6 "number") (wVar 1)) aNil)))) [.d d,.d (nsE n),.d .non,.un] post:=by
 unfold nsE at *
 walk_at "w"
 rw[xZ]
 exact⟨by decide,fun _=>h _ rfl⟩
theorem m8:∀ls post,ls.length=1→c6 ls post→fG (ls++List.replicate 3 .un) (bL ls post):=by
 rintro ls post - ⟨d,rfl,hd,h⟩
 unfold gy at h
 show fG [.d d,.un,.un,.un] _
 unfold fG
 refine CQ ?_
 unfold je
 refine CS ?_
 unfold jd
 refine BX hd (fun e=>?_) fun n e=>?_
 ·
  rw[e]at h
  unfold fF
  refine Ai fun ρ eρ=>?_
  subst eρ
  exact⟨_,ao aK,h⟩
 ·
  rw[e]at h
  unfold fF
  refine Aj ?_
  unfold jc
  refine CV ?_
  unfold ja
  refine BZ ?_
  unfold i9
  refine B0 fun ρ eρ=>?_
  subst eρ
  exact⟨_,ao aK,h⟩
def bO:FS:=fun ls post=>(∃i:Int,ls=[.d (.int i)]∧post (.d (.bl true)) ls)∨∃d:D,ls=[.d d]∧(∀i,d≠.int i)∧post (.d (.bl false)) ls
def eE:W Fl:=(wRet (iI (wUn (cG "int") (wVar 0)) (v7 (aB (wUn (cG "bool") (wVar 0))))))
theorem lV:∀ls post,ls.length=1→bO ls post→eE (ls++List.replicate 0 .un) (bL ls post):=by
 rintro ls post-(⟨i,rfl,h⟩|⟨d,rfl,hd,h⟩)
 ·
  unfold eE
  walk_at "w"
  exact⟨_,ao aK,h⟩
 ·
  unfold eE
  cases d with
  |int i=>exact absurd rfl (hd i)
  |_=>walk_at "w"; exact⟨_,ao aK,h⟩
def bU:FS:=fun ls post=>∃(xs:List D)(d:D),ls=[.d (.lst xs),.d d]∧Hung xs∧post (.d (.bl (ed xs d))) ls
def ff:W Fl:=(wRet (wOrV (wBin opEq (wBin opIx (wVar 1) (wC (.int 0))) (wC (.int 0))) (wBin opGt (wBin opIx (wVar 1) (wC (.int 1))) (wC (.int 0)))))
def fg:W Fl:=(wSeq (wIf (wOr (wNot (aB (fR opLe opLt (wC (.int 0)) (wBin opIx (wVar 1) (wC (.int 0))) (aH bp (aVal (wVar 0) aNil))))) (wNot (aB (fR opLe opLt (wC (.int 0)) (wBin opIx (wVar 1) (wC (.int 1))) (aH bp (aVal (wBin opIx (wBin opIx (wVar 0) (wBin opIx (wVar 1) (wC (.int 0)))) (wC (.int 0))) aNil)))))) (wRet (wC (.bl false))) aX)
  ff)
def dZ:W Fl:=(wSeq (wIf (wOr (wNot (aB (wUn (cG "tuple") (wVar 1)))) (wOr (aB (wBin opNe (aH bp (aVal (wVar 1) aNil)) (wC (.int 2)))) (wOr (wNot (aB (br bO (aVal (wBin opIx (wVar 1) (wC (.int 0))) aNil)))) (wNot (aB (br bO (aVal (wBin opIx (wVar 1) (wC (.int 1))) aNil))))))) (wRet (wC (.bl false))) aX)
  fg)
theorem jS:∀ls post,ls.length=2→bU ls post→dZ (ls++List.replicate 0 .un) (bL ls post):=by
 rintro ls post - ⟨xs,d,rfl,hx,h⟩
 unfold dZ
 have wh:∀z:D,(∃i,z=.int i)∨(∀i,z≠.int i):=fun z=>by cases z<;>simp
 cases d with
 | tup ys =>
  match ys,h with
  | [x,y],h =>
   walk_at "w"
   rw[if_neg (by decide)]
   rcases wh x with⟨i,rfl⟩|hxi
   ·
    refine .inl ⟨_,rfl,?_⟩
    walk_at "w"
    rcases wh y with⟨j,rfl⟩|hy
    ·
     refine .inl ⟨_,rfl,?_⟩
     rw[jz]at h
     walk_at "w"
     unfold fg
     walk_at "w"
     have no:¬(0≤i∧i<(xs.length:Int)∧0≤j∧j<(p5 xs i.toNat:Int)∧(j≠0∨i=0))→bL [.d (.lst xs),.d (.tup [.int i,.int j])] post (.rt (.d (.bl false))) [.d (.lst xs),.d (.tup [.int i,.int j])]:=fun z=>by
      rw[decide_eq_false z]at h
      exact⟨_,ao (ao aK),h⟩
     by_cases c0:0≤i
     ·
      rw[if_pos c0]
      by_cases c1:i<(xs.length:Int)
      ·
       rw[if_neg (fun z=>z c1)]
       have hi:i.toNat<xs.length:=by omega
       obtain⟨rs,b,e1,e2⟩:=hx.at_ hi
       rw[e2]at h no
       by_cases c2:0≤j
       ·
        rw[if_pos c2]
        refine⟨_,qX c0 e1,?_⟩
        walk_at "w"
        by_cases c3:j<(rs.length:Int)
        ·
         rw[if_neg (fun z=>z c3)]
         unfold ff
         walk_at "w"
         by_cases c4:i=0
         ·
          rw[if_pos c4]
          rw[decide_eq_true (by omega)]at h
          exact⟨_,ao (ao aK),h⟩
         ·
          rw[if_neg c4]
          have e:decide (0≤i∧i<(xs.length:Int)∧0≤j∧j<(rs.length:Int)∧(j≠0∨i=0))=decide (0<j):=by rw[decide_eq_decide];omega
          rw[e]at h
          exact⟨_,ao (ao aK),h⟩
        ·
         rw[if_pos c3]
         exact no (by omega)
       ·
        rw[if_neg c2]
        exact no (by omega)
      ·
       rw[if_pos c1]
       exact no (by omega)
     ·
      rw[if_neg c0]
      exact no (by omega)
    ·
     refine .inr ⟨_,rfl,hy,?_⟩
     walk_at "w"
     rw[gw (fun a b e=>by cases e;exact hy _ rfl)]at h
     exact⟨_,ao (ao aK),h⟩
   ·
    refine .inr ⟨_,rfl,hxi,?_⟩
    walk_at "w"
    rw[gw (fun a b e=>by cases e;exact hxi _ rfl)]at h
    exact⟨_,ao (ao aK),h⟩
  |[],h=>walk_at "w"; exact⟨_,ao (ao aK),h⟩
  | [_],h =>
   rw[gw (fun i j e=>by cases e)]at h
   walk_at "w"
   exact⟨_,ao (ao aK),h⟩
  | a::b::c::r,h =>
   rw[gw (fun i j e=>by cases e)]at h
   walk_at "w"
   rw[if_pos (by omega)]
   exact⟨_,ao (ao aK),h⟩
 | _ =>
  walk_at "w"
  exact⟨_,ao (ao aK),h⟩
def bZ:FS:=fun ls post=>∃(a:Addr)(xs:List D)(S:List (List Rat×Option (Nat×Nat))),ls=[.own a xs,.d (.lst (S.map itD))]∧StOk xs∧∀ys,StOk ys→post (.d (.bl true)) [.own a ys,.d (.lst (S.map itD))]
def cx:W Fl:=(wIf (wOr (wNot (aB (wUn (cG "bool") (wVar 7)))) (aB (wBin opNe (wVar 7) (br bU (aVal (wVar 1) (aVal (wVar 6) aNil)))))) (wRet (wC (.bl false))) aX)
def di:W Fl:=(wSeq (wSet 7 (wFrz (br fA (aVal (wVar 1) (aVal (wVar 6) aNil)))))
  cx)
def bC:W Fl:=(wFor (wSrc (wLst (aVal (wTup (aVal (wVar 3) (aVal (wVar 4) aNil))) (aVal (wTup (aVal (wC (.int 0)) (aVal (wC (.int 0)) aNil))) (aVal (wVar 5) aNil))))) (cb 6) di)
def cy:W Fl:=(wSeq (wSet 5 (wBin opIx (wLst (aVal (wFrz (wLst (aVal (wVar 3) (aVal (wVar 4) aNil)))) (aVal (wTup (aVal (wVar 3) aNil)) (aVal (wTup (aVal (wVar 3) (aVal (wVar 4) (aVal (wC (.int 0)) aNil)))) (aVal (wC .non) (aVal (wTup (aVal (wC (.bl true)) (aVal (wC (.int 1)) aNil))) (aVal (wTup (aVal (wVar 3) (aVal (wC (.str "1")) aNil))) aNil))))))) (a8 au 0 0 (aVar 0 (aVal (wC (.int 6)) aNil)))))
  bC)
def cz:W Fl:=(wSeq (wSet 4 (wBin eH (a8 au 0 0 (aVar 0 (aVal (wC (.int 14)) aNil))) (wC (.int 1))))
  cy)
def dj:W Fl:=(wSeq (wSet 3 (wBin eH (a8 au 0 0 (aVar 0 (aVal (wC (.int 8)) aNil))) (wC (.int 1))))
  cz)
def cA:W Fl:=(wSeq (wFor (nN (wC (.int 4))) (cb 2) dj)
  (wRet (wC (.bl true))))
theorem hR:∀ls post,ls.length=2→bZ ls post→cA (ls++List.replicate 6 .un) (bL ls post):=by
 rintro ls post - ⟨a,xs,S,rfl,hx,h⟩
 have hH:=xX S
 generalize S.map itD=zs at *
 unfold cA
 walk_at "w"
 refine⟨⟨by decide,by decide⟩,?_⟩
 refine lg 4 (fun k ρ=>∃(ws:List D)(x2 x3 x4 x5 x6 x7:L),ρ=[.own a ws,.d (.lst zs),x2,x3,x4,x5,x6,x7]∧StOk ws) _ ⟨xs,_,_,_,_,_,_,rfl,hx⟩ ?_ ?_
 ·
  rintro k ρ hk ⟨ws,x2,x3,x4,x5,x6,x7,rfl,hw⟩ Q g1 g2 g3 g4
  unfold dj
  walk_at "w"
  refine⟨a,ws,8,rfl,hw,by decide,by decide,fun r us hu r0 r1=>⟨us,rfl,?_⟩⟩
  walk_at "w"
  unfold cz
  walk_at "w"
  refine⟨a,us,14,rfl,hu,by decide,by decide,fun s vs hv s0 s1=>⟨vs,rfl,?_⟩⟩
  walk_at "w"
  unfold cy
  walk_at "w"
  have rest:∀(ts:List D)(v:D),StOk ts→bC [.own a ts,.d (.lst zs),.d (.int (k:Int)),.d (.int (r-1)),.d (.int (s-1)),.d v,x6,x7] Q:=by
   intro ts v ht
   unfold bC
   walk_at "w"
   refine⟨by decide,by decide,by decide,fun _=>?_⟩
   refine kE _ (fun j ρ=>∃x6 x7,ρ=[.own a ts,.d (.lst zs),.d (.int (k:Int)),.d (.int (r-1)),.d (.int (s-1)),.d v,x6,x7]) _ ⟨_,_,rfl⟩ ?_ ?_
   ·
    rintro j d ρ hj ⟨y6,y7,rfl⟩ Q' q1 q2 q3 q4
    unfold di
    walk_at "w"
    refine⟨zs,d,rfl,hH,?_⟩
    unfold cx
    walk_at "w"
    refine⟨zs,d,rfl,hH,?_⟩
    walk_at "w"
    rw[if_neg (by simp)]
    exact q1 _ ⟨_,_,rfl⟩
   ·
    rintro ρ ⟨y6,y7,rfl⟩
    exact g1 _ ⟨ts,_,_,_,_,_,_,rfl,ht⟩
  refine⟨by decide,fun _=>⟨by decide,by decide,by decide,by decide,by decide,fun _=>⟨a,vs,6,rfl,hv,by decide,by decide,fun t ts ht t0 t1=>⟨ts,rfl,?_⟩⟩⟩⟩
  walk_at "w"
  obtain⟨v,ev,_⟩:=ll (xs:=[D.lst [D.int (r-1),D.int (s-1)],D.tup [D.int (r-1)],D.tup [D.int (r-1),D.int (s-1),D.int 0],D.non,D.tup [D.bl true,D.int 1],D.tup [D.int (r-1),D.str (Str.ofString "1")]]) (i:=t) t0 t1
  exact⟨v,ev,rest ts v ht⟩
 ·
  rintro ρ ⟨ws,x2,x3,x4,x5,x6,x7,rfl,hw⟩
  walk_at "w"
  exact⟨_,d6 (by simp) (ao aK),h ws hw⟩
def fH:FS:=fun ls post=>∃d:D,ls=[.d d]∧(∀i j,d=.tup [.int i,.int j]→j.natAbs<2^9000)∧post (.d (.bl (ratB d))) ls
def gQ:W Fl:=(wSeq (wIf (wOr (wNot (aB (wUn (cG "tuple") (wVar 0)))) (wOr (aB (wBin opNe (aH bp (aVal (wVar 0) aNil)) (wC (.int 2)))) (wOr (wNot (aB (br bO (aVal (wBin opIx (wVar 0) (wC (.int 0))) aNil)))) (wNot (aB (br bO (aVal (wBin opIx (wVar 0) (wC (.int 1))) aNil))))))) (wRet (wC (.bl false))) aX)
  (wRet (iI (wBin opGt (wBin opIx (wVar 0) (wC (.int 1))) (wC (.int 0))) (wBin opEq (br dX (aVal (wBin opIx (wVar 0) (wC (.int 0))) (aVal (wBin opIx (wVar 0) (wC (.int 1))) aNil))) (wVar 0)))))
theorem lW:∀ls post,ls.length=1→fH ls post→gQ (ls++List.replicate 0 .un) (bL ls post):=by
 rintro ls post - ⟨d,rfl,hb,h⟩
 unfold gQ
 by_cases hd:∃i j,d=.tup [.int i,.int j]
 ·
  obtain⟨i,j,rfl⟩:=hd
  have jb:=hb i j rfl
  walk_at "w"
  rw[if_neg (by simp)]
  refine .inl ⟨i,rfl,?_⟩
  walk_at "w"
  refine .inl ⟨j,rfl,?_⟩
  walk_at "w"
  have e:ratB (.tup [.int i,.int j])=(decide (1≤j) && decide ((Int.gcd i j:Int)=1)):=rfl
  rw[e]at h
  by_cases c:0<j
  ·
   rw[if_pos (by omega)]
   refine⟨i,j,rfl,by omega,jb,?_⟩
   walk_at "w"
   have e2:eqD (frD (Rat.divInt i j)) (.tup [.int i,.int j])=decide ((Int.gcd i j:Int)=1):=by
    show eqD (.tup [.int (Rat.divInt i j).num,.int ((Rat.divInt i j).den:Int)]) _=_
    rw[pB,eX,eX,mQ,ik,ik,Bool.and_true,← Bool.decide_and,decide_eq_decide]
    exact zY c
   rw[decide_eq_true (show 1≤j by omega),Bool.true_and]at h
   rw[e2]
   exact⟨cQ (n:=1) rfl (by decide),_,ao aK,h⟩
  ·
   rw[if_neg (by omega)]
   rw[decide_eq_false (show ¬1≤j by omega),Bool.false_and]at h
   exact⟨_,ao aK,h⟩
 ·
  have hn:∀i j,d≠.tup [.int i,.int j]:=fun i j e=>hd ⟨i,j,e⟩
  rw[vk hn]at h
  cases d with
  | tup xs =>
   rcases xs with _|⟨x,_|⟨y,_|⟨z,zs⟩⟩⟩
   ·
    walk_at "w"
    rw[if_pos (by decide)]
    exact⟨_,ao aK,h⟩
   ·
    walk_at "w"
    rw[if_pos (by decide)]
    exact⟨_,ao aK,h⟩
   ·
    walk_at "w"
    rw[if_neg (by simp)]
    by_cases hx:∃i,x=.int i
    ·
     obtain⟨i,rfl⟩:=hx
     refine .inl ⟨i,rfl,?_⟩
     walk_at "w"
     refine .inr ⟨y,rfl,fun j e=>hn i j (by rw[e]),?_⟩
     walk_at "w"
     exact⟨_,ao aK,h⟩
    ·
     refine .inr ⟨x,rfl,fun j e=>hx ⟨j,e⟩,?_⟩
     walk_at "w"
     exact⟨_,ao aK,h⟩
   ·
    walk_at "w"
    rw[if_pos (by simp;omega)]
    exact⟨_,ao aK,h⟩
  | _ =>
   walk_at "w"
   exact⟨_,ao aK,h⟩
def dz:FS:=fun ls post=>∃d:D,ls=[.d d]∧(∀xs,d=.lst xs→xs.length≤20∧∀x∈xs,GI x)∧post (.d (.lst (gy d))) ls
def eQ:W L:=(wVar 0)
def bq:W Fl:=(wIf (wOr (wAnd (aB (wBin opEq (wVar 1) (wC (.int 0)))) (aB (wBin kW (wBin opIx (wVar 2) (wC (.int 1))) (wC .non)))) (wAnd (aB (wBin opGt (wVar 1) (wC (.int 0)))) (wNot (aB (br bU (aVal (wFrz (wSl2 (wVar 0) none (some (wVar 1)))) (aVal (wBin opIx (wVar 2) (wC (.int 1))) aNil))))))) (wRet (wFrz (wLst (aVal (wVar 1) aNil)))) aX)
def cO:W Fl:=(wSeq (wIf (aB (wBin opNe (nT 1 [] (wSrc (wBin opIx (wVar 2) (wC (.int 0)))) (cb 0) (wOr (wNot (aB (br fH (aVal (wVar 0) aNil)))) (aB (wBin opLt (wBin opIx (wVar 0) (wC (.int 0))) (wC (.int 1))))) eQ) (wLst aNil))) (wRet (wFrz (wLst (aVal (wVar 1) aNil)))) aX)
  bq)
def fh:W Fl:=(wSeq (wIf (wOr (wNot (aB (wUn (cG "tuple") (wVar 2)))) (wOr (aB (wBin opNe (aH bp (aVal (wVar 2) aNil)) (wC (.int 2)))) (wOr (wNot (aB (wUn (cG "list") (wBin opIx (wVar 2) (wC (.int 0)))))) (wNot (aB (fR opLe opLe (wC (.int 2)) (aH bp (aVal (wBin opIx (wVar 2) (wC (.int 0))) aNil)) (wC (.int 12)))))))) (wRet (wFrz (wLst (aVal (wVar 1) aNil)))) aX)
  cO)
def ic:W Fl:=(wSeq (wSet 2 (wBin opIx (wVar 0) (wVar 1)))
  fh)
def gR:W Fl:=(wSeq (wIf (wOr (wNot (aB (wUn (cG "list") (wVar 0)))) (wNot (aB (fR opLe opLe (wC (.int 1)) (aH bp (aVal (wVar 0) aNil)) (wC (.int 6)))))) (wRet (wFrz (wLst (aVal (wC .non) aNil)))) aX)
  (wSeq (wFor (nN (aH bp (aVal (wVar 0) aNil))) (cb 1) ic)
  (wRet (wFrz (wLst aNil)))))
theorem Ak{xs:List D}{k:Nat}{post:Fl→Ev→Prop}{rs:List D}{p:D}(hp:Hung (xs.take k))(hk:k<xs.length)
  (h0:(if(xs.take k).isEmpty then om p else ed (xs.take k) p)=true→∀ρ,ρ=[.d (.lst xs),.d (.int (k:Int)),.d (.tup [.lst rs,p])]→post .nx ρ) (h1:(if(xs.take k).isEmpty then om p else ed (xs.take k) p)=false→∀ρ,ρ=[.d (.lst xs),.d (.int (k:Int)),.d (.tup [.lst rs,p])]→post (.rt (.d (.lst [.int (k:Int)]))) ρ) :
  bq [.d (.lst xs),.d (.int (k:Int)),.d (.tup [.lst rs,p])] post:=by
 unfold bq
 have ec:cutD xs none (some (k:Int))=xs.take k:=by
  have:¬((k:Int)<0):=by omega
  unfold cutD
  simp[HT.sIx,this]
 walk_at "w"
 by_cases c:k=0
 ·
  subst c
  rw[if_pos (show((0:Nat):Int)=0 from rfl),if_neg (show ¬(0:Int)<((0:Nat):Int) by decide)]
  rw[List.take_zero,if_pos (show([]:List D).isEmpty=true from rfl)]at h0 h1
  cases hn:om p with
  | true =>
   have e:p=.non:=by
    cases p with
    |non=>rfl
    |_=>cases hn
   subst e
   rw[if_neg (by decide)]
   exact h0 hn _ rfl
  | false =>
   cases p with
   |non=>cases hn
   | _ =>
    rw[if_pos rfl]
    exact⟨by decide,fun _=>h1 hn _ rfl⟩
 ·
  rw[if_neg (by omega),if_pos (by omega)]
  intro a
  rw[ec]
  have hne:(xs.take k).isEmpty=false:=by
   rw[List.isEmpty_eq_false_iff]
   intro z
   have:=congrArg List.length z
   rw[List.length_take,List.length_nil]at this
   omega
  rw[hne,if_neg (by decide)]at h0 h1
  refine⟨_,_,rfl,hp,?_⟩
  cases hb:ed (xs.take k) p with
  | true =>
   walk_at "w"
   exact h0 hb _ rfl
  | false =>
   walk_at "w"
   exact⟨by decide,fun _=>h1 hb _ rfl⟩
theorem vz{ys:List D}(h:okDs 4 ys=true):cF (.lst ys):=cQ (n:=5) (by simpa only[okD]using h) (by decide)
theorem oO{n:Nat}:∀{ds:List D},okDs n ds=true→∀d∈ds,okD n d=true
 |[],_,d,hd=>by cases hd
 | x::ds,h,d,hd=>by
  simp only[okDs,Bool.and_eq_true]at h
  rcases List.mem_cons.mp hd with rfl|hd
  ·
   exact h.1
  ·
   exact oO h.2 d hd
theorem lD:∀{ds:List D},bA ds=true→∀d∈ds,a0 d=true
 |[],_,d,hd=>by cases hd
 | x::ds,h,d,hd=>by
  simp only[bA,Bool.and_eq_true]at h
  rcases List.mem_cons.mp hd with rfl|hd
  ·
   exact h.1
  ·
   exact lD h.2 d hd
theorem xE{xs:List D}{k:Nat}{post:Fl→Ev→Prop}{rs:List D}{p:D}(hg:GI (.tup [.lst rs,p]))
  (h0:(∀r∈rs,rmB r=true)→bq [.d (.lst xs),.d (.int (k:Int)),.d (.tup [.lst rs,p])] post) (h1:(∃r∈rs,rmB r=false)→∀ρ,ρ=[.d (.lst xs),.d (.int (k:Int)),.d (.tup [.lst rs,p])]→post (.rt (.d (.lst [.int (k:Int)]))) ρ) :
  cO [.d (.lst xs),.d (.int (k:Int)),.d (.tup [.lst rs,p])] post:=by
 have hl:=hg.ln _ rfl (.lst rs) (by simp) rs rfl
 have ho:=hg.ok
 simp only[okD,okDs,Bool.and_eq_true]at ho
 have hs:=hg.sh
 simp only[a0,bA,Bool.and_eq_true]at hs
 unfold cO
 walk_at "w"
 refine⟨Nat.le_trans hl (by decide),?_⟩
 have em:rs=rs.map id:=by simp
 have key:∀ys,ys=rs.filterMap (fun r=>if rmB r then none else some r)→∀(a:Addr),0≤sizeLine∧∀(a:Addr),cF (D.lst ys)∧cF (D.lst [])∧if eqD (D.lst ys) (D.lst [])=false then 1≤sizeLine∧∀(a:Addr),post (Fl.rt (L.d (D.lst [D.int (k:Int)]))) [L.d (D.lst xs),L.d (D.int (k:Int)),L.d (D.tup [D.lst rs,p])]else bq [L.d (D.lst xs),L.d (D.int (k:Int)),L.d (D.tup [D.lst rs,p])] post:=by
  intro ys ey a
  have hys:∀y∈ys,y∈rs∧rmB y=false:=fun y hy=>by
   rw[ey]at hy
   obtain⟨r,hr,e⟩:=List.mem_filterMap.mp hy
   cases hb:rmB r with
   |true=>rw[hb]at e;cases e
   | false =>
    rw[hb]at e
    cases e
    exact⟨hr,hb⟩
  refine⟨by decide,fun _=>⟨vz (eZ fun d hd=>oO ho.1 d (hys d hd).1),vz rfl,?_⟩⟩
  cases hy:ys with
  | nil =>
   rw[if_neg (by decide +kernel)]
   refine h0 fun r hr=>?_
   cases hb:rmB r with
   |true=>rfl
   | false =>
    have:r∈ys:=by
     rw[ey]
     exact List.mem_filterMap.mpr ⟨r,hr,by rw[hb];rfl⟩
    rw[hy]at this
    cases this
  | cons y zs =>
   have e:eqD (.lst (y::zs)) (.lst [])=false:=by
    rw[yQ]
    simp[toPs,PyData.eqvAll]
   rw[if_pos e]
   obtain⟨m1,m2⟩:=hys y (by rw[hy];simp)
   exact⟨by decide,fun _=>h1 ⟨y,m1,m2⟩ _ rfl⟩
 rw[em]
 refine iX (enc:=id) (h:=fun r=>if rmB r then none else some r) rs [] _ (fun r hr Q q=>?_) fun l'=>?_
 ·
  simp only[id]at q ⊢
  walk_at "w"
  have hr2:=lD hs.1 r hr
  refine⟨r,rfl,fun i j e=>?_,?_⟩
  ·
   subst e
   simp only[a0,bA,Bool.and_eq_true,decide_eq_true_eq]at hr2
   exact Nat.lt_of_lt_of_le hr2.2.1 (Nat.pow_le_pow_right (by decide) (by decide))
  ·
   cases hb:ratB r with
   | false =>
    have:rmB r=false:=by
     cases hm:rmB r with
     |false=>rfl
     | true =>
      unfold rmB at hm
      split at hm
      ·
       rw[hb]at hm
       cases hm
      ·
       cases hm
    rw[this]at q
    unfold eQ
    walk_at "w"
    exact q
   | true =>
    obtain⟨i,j,rfl⟩:=mY hb
    have e:rmB (.tup [.int i,.int j])=decide (0<i):=by
     show(ratB (.tup [.int i,.int j]) && decide (0<i))=_
     rw[hb,Bool.true_and]
    rw[e]at q
    unfold eQ
    walk_at "w"
    by_cases c:i<1
    ·
     rw[if_pos c]
     rw[decide_eq_false (by omega)]at q
     exact q
    ·
     rw[if_neg c]
     rw[decide_eq_true (by omega)]at q
     exact q
 ·
  rw[← em,List.nil_append]
  exact key _ rfl
theorem lX:∀ls post,ls.length=1→dz ls post→gR (ls++List.replicate 2 .un) (bL ls post):=by
 rintro ls post - ⟨d,rfl,hd,h⟩
 unfold gy at h
 unfold gR
 by_cases hL:∃xs,d=.lst xs
 ·
  obtain⟨xs,rfl⟩:=hL
  obtain⟨hl,hg⟩:=hd xs rfl
  have eb:eY (.lst xs)=if 1≤xs.length∧xs.length≤6 then(bX [] xs).map some else some none:=rfl
  rw[eb]at h
  walk_at "w"
  have bad:¬(1≤xs.length∧xs.length≤6)→bL [L.d (D.lst xs)] post (Fl.rt (L.d (D.lst [D.non]))) [L.d (D.lst xs),L.un,L.un]:=fun z=>by
   rw[if_neg z]at h
   exact⟨_,ao aK,h⟩
  by_cases h1:(1:Int)≤(xs.length:Int)
  ·
   rw[if_pos h1]
   by_cases h2:(xs.length:Int)≤6
   ·
    rw[if_neg (fun z=>z h2)]
    rw[if_pos (by omega)]at h
    refine⟨⟨by omega,by omega⟩,?_⟩
    rw[Int.toNat_natCast]
    refine lg xs.length (fun k ρ=>Hung (xs.take k)∧bX (xs.take k) (xs.drop k)=bX [] xs∧∃l1 l2,ρ=[.d (.lst xs),l1,l2]) _ ⟨fun x hx=>by simp at hx,rfl,_,_,rfl⟩ ?_ ?_
    ·
     rintro k ρ hk ⟨hp,hb,l1,l2,rfl⟩ Q g1 g2 g3 g4
     have ex:atI xs (k:Int)=some xs[k]:=dD (List.getElem?_eq_getElem hk)
     have hgk:=hg _ (List.getElem_mem hk)
     rw[List.drop_eq_getElem_cons hk]at hb
     have ets:xs.take (k+1)=xs.take k++[xs[k]]:=by rw[List.take_succ,List.getElem?_eq_getElem hk];rfl
     have st:bX (xs.take k) (xs[k]::xs.drop (k+1))=if jA (xs.take k) xs[k]=true then bX (xs.take k++[xs[k]]) (xs.drop (k+1))else some (xs.take k).length:=rfl
     rw[st]at hb
     have no:jA (xs.take k) xs[k]=false→∀ρ,ρ=[L.d (.lst xs),.d (.int (k:Int)),.d xs[k]]→Q (.rt (.d (.lst [.int (k:Int)]))) ρ:=fun z ρ eρ=>by
      subst eρ
      rw[z,if_neg (by decide),List.length_take,Nat.min_eq_left (by omega)]at hb
      rw[← hb]at h
      exact g4 _ _ ⟨_,ao aK,h⟩
     have yes:jA (xs.take k) xs[k]=true→∀ρ,ρ=[L.d (.lst xs),.d (.int (k:Int)),.d xs[k]]→Q .nx ρ:=fun z ρ eρ=>by
      subst eρ
      rw[z,if_pos rfl]at hb
      refine g1 _ ⟨?_,by rw[ets];exact hb,_,_,rfl⟩
      rw[ets]
      intro y hy
      rcases List.mem_append.mp hy with hy|hy
      ·
       exact hp y hy
      ·
       rw[List.mem_singleton.mp hy]
       exact rn z
     unfold ic
     walk_at "w"
     refine⟨_,ex,?_⟩
     generalize xs[k]=x at hgk no yes
     unfold fh
     cases x with
     | tup ys =>
      match ys,hgk,no,yes with
      | [r,p],hgk,no,yes =>
       have eh:jA (xs.take k) (.tup [r,p])=((bc r).isNone && (if(xs.take k).isEmpty then om p else ed (xs.take k) p)):=rfl
       rw[eh]at no yes
       walk_at "w"
       rw[if_neg (by decide)]
       by_cases hr:∃rs,r=.lst rs
       ·
        obtain⟨rs,rfl⟩:=hr
        have er:bc (.lst rs)=if 2≤rs.length∧rs.length≤12 then(rs.findIdx? fun r=>!rmB r).map some else some none:=rfl
        rw[er]at no yes
        walk_at "w"
        by_cases r1:(2:Int)≤(rs.length:Int)
        ·
         rw[if_pos r1]
         by_cases r2:(rs.length:Int)≤12
         ·
          rw[if_neg (fun z=>z r2)]
          rw[if_pos (by omega)]at no yes
          refine xE hgk (fun hall=>?_) fun⟨r,hr,hbr⟩=>?_
          ·
           have ef:(rs.findIdx? fun r=>!rmB r)=none:=by
            rw[List.findIdx?_eq_none_iff]
            intro x hx
            rw[hall x hx]
            rfl
           rw[ef]at no yes
           exact Ak hp hk (fun z=>yes (by rw[z];rfl)) fun z=>no (by rw[z];rfl)
          ·
           have ef:((rs.findIdx? fun r=>!rmB r).map some).isNone=false:=by
            cases hf:(rs.findIdx? fun r=>!rmB r)with
            | none =>
             rw[List.findIdx?_eq_none_iff]at hf
             have:=hf r hr
             rw[hbr]at this
             cases this
            |some j=>rfl
           exact no (by rw[ef];rfl)
         ·
          rw[if_pos r2]
          rw[if_neg (by omega)]at no
          exact⟨by decide,fun _=>no rfl _ rfl⟩
        ·
         rw[if_neg r1]
         rw[if_neg (by omega)]at no
         exact⟨by decide,fun _=>no rfl _ rfl⟩
       ·
        have er:bc r=some none:=by
         unfold bc
         split
         ·
          exact absurd ⟨_,rfl⟩ hr
         ·
          rfl
        have ei:isTy "list" r=false:=by
         cases r<;>first
          |exact absurd ⟨_,rfl⟩ hr
          |rfl
        rw[ei]
        walk_at "w"
        exact⟨by decide,fun _=>no (by rw[er];rfl) _ rfl⟩
      |[],_,no,_=>walk_at "w"; exact⟨by decide,fun _=>no rfl _ rfl⟩
      |[_],_,no,_=>walk_at "w"; exact⟨by decide,fun _=>no rfl _ rfl⟩
      | a::b::c::r,_,no,_ =>
       walk_at "w"
       rw[if_pos (by omega)]
       exact⟨by decide,fun _=>no rfl _ rfl⟩
     | _ =>
      walk_at "w"
      exact⟨by decide,fun _=>no rfl _ rfl⟩
    ·
     rintro ρ ⟨_,hb,l1,l2,rfl⟩
     rw[List.drop_length]at hb
     have hb:none=bX [] xs:=hb
     rw[← hb]at h
     exact⟨by decide,fun _=>⟨_,ao aK,h⟩⟩
   ·
    rw[if_pos h2]
    exact⟨by decide,fun _=>bad (by omega)⟩
  ·
   rw[if_neg h1]
   exact⟨by decide,fun _=>bad (by omega)⟩
 ·
  have eb:eY d=some none:=by
   unfold eY
   split
   ·
    exact absurd ⟨_,rfl⟩ hL
   ·
    rfl
  rw[eb]at h
  have ei:isTy "list" d=false:=by
   cases d<;>first
    |exact absurd ⟨_,rfl⟩ hL
    |rfl
  walk_at "w"
  rw[ei]
  walk_at "w"
  exact⟨by decide,fun _=>⟨_,ao aK,h⟩⟩
def fs_law:FS:=fun ls post=>∃ns:List Int,ls=[.d (.lst (ns.map .int))]∧ns.length≤63∧post (.d (.bl true)) ls
theorem vA{ns:List Int}(hl:ns.length≤63):fs_law [.d (.lst (ns.map .int))] (fun r _=>r=.d (.bl true)):=⟨ns,rfl,hl,rfl⟩
def mr:W Fl:=(wIf (wAnd (aB (wUn (cG "list") (wVar 4))) (aB (wBin opNe (br c6 (aVal (wFrz (wBin bW (wVar 4) (wLst (aVal (wC .non) aNil)))) aNil)) (br dz (aVal (wFrz (wBin bW (wVar 4) (wLst (aVal (wC .non) aNil)))) aNil))))) (wRet (wC (.bl false))) aX)
def mv:W Fl:=(wSeq (wIf (wOr (aB (wBin opNe (br c6 (aVal (wVar 4) aNil)) (br dz (aVal (wVar 4) aNil)))) (aB (wBin wF (aH lb (aVal (wVar 4) aNil)) (wVar 5)))) (wRet (wC (.bl false))) aX)
  mr)
def mw:W Fl:=(wSeq (wSet 5 (wFrz (aH lb (aVal (wVar 4) aNil))))
  mv)
def vB:W Fl:=(wSeq (wSet 4 (wFrz (br iA (aVal (br cw (aVal (wVar 0) (aVal (wVar 3) aNil))) (aVal (wVar 1) aNil)))))
  mw)
def vC:W Fl:=(wRet (wBin wD (aH lb (aVal (wVar 1) aNil)) (wVar 2)))
def vD:W Fl:=(wSeq (wFor (yz (wC (.int 1)) (aH wc (aVal (wC (.int 2)) (aVal (wFrz (aH wd (aVal (wFrz (aH bp (aVal (wVar 0) aNil))) (aVal (wC (.int 17)) aNil)))) aNil)))) (cb 3) vB)
  vC)
def vE:W Fl:=(wSeq (wIf (wOr (aB (wBin opNe (br c6 (aVal (wVar 1) aNil)) (wLst aNil))) (wNot (aB (br bZ (aVal (br cw (aVal (wVar 0) (aVal (wC (.int 1)) aNil))) (aVal (wVar 1) aNil)))))) (wRet (wC (.bl false))) aX)
  vD)
def vF:W Fl:=(wSeq (wSet 2 (wFrz (aH lb (aVal (wVar 1) aNil))))
  vE)
def Al:W Fl:=(wSeq (wSet 1 (wFrz (br eO (aVal (br cw (aVal (wVar 0) (aVal (wC (.int 0)) aNil))) (aVal (wC (.int 6)) (aVal (wC (.int 12)) aNil))))))
  vF)
theorem fJ(d:D):cF (.lst (gy d)):=by
 unfold gy
 cases eY d with
 |none=>exact cQ (n:=1) rfl (by decide)
 |some k=>cases k<;>exact cQ (n:=1) rfl (by decide)
theorem rq(d:D):eqD (.lst (gy d)) (.lst (gy d))=true:=by
 refine wk (n:=1) ?_
 unfold gy
 cases eY d with
 |none=>rfl
 |some k=>cases k<;>rfl
theorem SOk.l{d:D}(h:SOk d):∀xs,d=.lst xs→xs.length≤20∧∀x∈xs,GI x:=fun xs e=>⟨by have:=(h.it xs e).1;omega,(h.it xs e).2⟩
theorem SOk.snoc{xs:List D}(h:SOk (.lst xs)):∀ys,D.lst (xs++[.non])=.lst ys→ys.length≤20∧∀x∈ys,GI x:=fun ys e=>by
 cases e
 refine⟨by rw[List.length_append,List.length_singleton];have:=(h.it xs rfl).1;omega,fun x hx=>?_⟩
 rcases List.mem_append.mp hx with hx|hx
 ·
  exact(h.it xs rfl).2 x hx
 ·
  rw[List.mem_singleton.mp hx]
  exact PG.non.gi fun ys e=>by cases e
theorem Am:∀ls post,ls.length=1→fs_law ls post→Al (ls++List.replicate 5 .un) (bL ls post):=by
 rintro ls post - ⟨ns,rfl,hl,h⟩
 unfold Al
 walk_at "w"
 refine⟨ns,0,rfl,by decide,by decide,fun a xs hx=>?_⟩
 walk_at "w"
 refine⟨a,xs,6,12,rfl,hx,by decide,by decide,by decide,by decide,fun S c ys hy hS l1 l6=>?_⟩
 walk_at "w"
 unfold vF
 have hs:SOk (.lst (S.map itD)):=SOk.lst (hS.gi l6) (by rw[List.length_map];omega)
 walk_at "w"
 refine⟨_,rfl,hs.rp,?_⟩
 walk_at "w"
 unfold vE
 walk_at "w"
 refine⟨_,rfl,hs.l,?_⟩
 have e0:gy (.lst (S.map itD))=[]:=by
  unfold gy
  rw[p7 hS l1 l6]
 rw[e0]
 walk_at "w"
 refine⟨by decide,fun _=>⟨cQ (n:=1) rfl (by decide),cQ (n:=1) rfl (by decide),?_⟩⟩
 rw[if_neg (by decide +kernel)]
 refine⟨ns,1,rfl,by decide,by decide,fun b zs hz=>?_⟩
 walk_at "w"
 refine⟨b,zs,S,rfl,hz,fun ws hw=>?_⟩
 walk_at "w"
 unfold vD
 walk_at "w"
 have hm:∃m:Int,(if(if 17<(ns.length:Int)then 17 else(ns.length:Int)) > 2 then if 17<(ns.length:Int)then 17 else(ns.length:Int)else 2)=m∧2≤m∧m≤17:=⟨_,rfl,by split<;>(try split)<;>omega,by split<;>(try split)<;>omega⟩
 obtain⟨m,em,m2,m17⟩:=hm
 rw[em]
 refine⟨⟨by decide,by decide⟩,⟨by omega,by omega⟩,?_⟩
 refine qY 1 _ (fun j ρ=>∃x3 x4 x5,ρ=[.d (.lst (ns.map .int)),.d (.lst (S.map itD)),.d (.str (wB (.lst (S.map itD)))),x3,x4,x5]) _ ⟨_,_,_,rfl⟩ ?_ ?_
 ·
  rintro j ρ hj ⟨x3,x4,x5,rfl⟩ Q g1 g2 g3 g4
  unfold vB
  walk_at "w"
  refine⟨ns,1+(j:Int),rfl,by omega,by omega,fun e vs hv=>?_⟩
  walk_at "w"
  refine⟨e,vs,S,rfl,hv,hS,l1,l6,fun d us hu hd=>?_⟩
  walk_at "w"
  unfold mw
  walk_at "w"
  refine⟨_,rfl,hd.rp,?_⟩
  walk_at "w"
  unfold mv
  walk_at "w"
  refine⟨_,rfl,hd.l,?_⟩
  walk_at "w"
  refine⟨_,rfl,hd.l,?_⟩
  walk_at "w"
  refine⟨fJ d,fJ d,?_⟩
  rw[rq,if_neg (by decide)]
  refine⟨_,rfl,hd.rp,?_⟩
  walk_at "w"
  rw[if_neg (by simp)]
  have go:Q .nx [L.d (D.lst (List.map D.int ns)),L.d (D.lst (List.map itD S)),L.d (D.str (wB (D.lst (List.map itD S)))),L.d (D.int (1+(j:Int))),L.d d,L.d (D.str (wB d))]:=g1 _ ⟨_,_,_,rfl⟩
  unfold mr
  by_cases hL:∃xs,d=.lst xs
  ·
   obtain⟨us,rfl⟩:=hL
   have hn:=(hd.it us rfl).1
   walk_at "w"
   have sz:us.length+1≤sizeLine:=gz (by omega)
   refine⟨by decide,fun _=>⟨sz,fun _=>⟨_,rfl,hd.snoc,?_⟩⟩⟩
   walk_at "w"
   refine⟨by decide,fun _=>⟨sz,fun _=>⟨_,rfl,hd.snoc,?_⟩⟩⟩
   walk_at "w"
   refine⟨fJ _,fJ _,?_⟩
   rw[rq,if_neg (by decide)]
   exact go
  ·
   have ei:isTy "list" d=false:=by
    cases d<;>first
     |exact absurd ⟨_,rfl⟩ hL
     |rfl
   walk_at "w"
   rw[ei]
   walk_at "w"
   exact go
 ·
  rintro ρ ⟨x3,x4,x5,rfl⟩
  unfold vC
  walk_at "w"
  refine⟨_,rfl,hs.rp,?_⟩
  walk_at "w"
  rw[decide_eq_true True.intro]
  exact⟨_,ao aK,h⟩
abbrev eR:Stmt:=Hd.inCls (Hd.top 1) 0
abbrev gS:FuncData:=fdQ "__init__" "LoadError.__init__" eR (.str "ringloads.errors" 187) 27
abbrev fK:Stmt:=Hd.inCls (Hd.top 2) 0
abbrev gT:FuncData:=fdQ "__init__" "NoRing.__init__" fK (.str "ringloads.errors" 187) 47
abbrev dA:Stmt:=Hd.inCls (Hd.top 5) 0
abbrev eS:FuncData:=fdQ "__init__" "NoString.__init__" dA (.str "ringloads.errors" 187) 90
structure Tx (K:PySem.W.Frag) (mg:Str→Option Value) (ad:Nat→Addr) (fd:Nat→FuncData):Prop where
 x_greatest_shared:FX K mg "greatest_shared" cJ (ad 0) (fd 0) ["one","other"]
 x_is_whole:FX K mg "is_whole" jE (ad 1) (fd 1) ["thing"]
 x_is_number_below:FX K mg "is_number_below" cK (ad 2) (fd 2) ["thing","many"]
 x_are_two_wholes:FX K mg "are_two_wholes" c9 (ad 3) (fd 3) ["thing"]
 x_is_ratio:FX K mg "is_ratio" jG (ad 4) (fd 4) ["thing"]
 x_is_name:FX K mg "is_name" i3 (ad 5) (fd 5) ["thing"]
 x_look_at_rooms:FX K mg "look_at_rooms" dP (ad 6) (fd 6) ["rooms"]
 x_is_ask:FX K mg "is_ask" m4 (ad 7) (fd 7) ["thing","is_end"]
 x_look_at_each_ask:FX K mg "look_at_each_ask" cj (ad 8) (fd 8) ["asks","is_end"]
 x_look_at_asks:FX K mg "look_at_asks" cS (ad 9) (fd 9) ["asks","places"]
 l_look_at_asks:LamT K "look_at_asks" (fd 9) cS
 x_look_at_ring:FX K mg "look_at_ring" eK (ad 10) (fd 10) ["thing"]
 x_is_ring:FX K mg "is_ring" lq (ad 11) (fd 11) ["thing"]
 x_is_place:FX K mg "is_place" jH (ad 12) (fd 12) ["string","thing"]
 x_can_hang:FX K mg "can_hang" jI (ad 13) (fd 13) ["ahead","thing"]
 x_look_at_string:FX K mg "look_at_string" da (ad 14) (fd 14) ["thing"]
 x__law_take:FX K mg "_law_take" iq (ad 15) (fd 15) ["_law_state","_law_many"]
 x__law_low:FX K mg "_law_low" jJ (ad 16) (fd 16) ["_law_top","_law_bottom"]
 x__law_amount:FX K mg "_law_amount" fy (ad 17) (fd 17) ["_law_state","_law_least","_law_kind"]
 x__law_place:FX K mg "_law_place" gA (ad 18) (fd 18) ["_law_state","_law_string_here"]
 x__law_string:FX K mg "_law_string" dm (ad 19) (fd 19) ["_law_state","_law_most","_law_places"]
 x__law_begun:FX K mg "_law_begun" gB (ad 20) (fd 20) ["_law_script","_law_k"]
 x__law_odd:FX K mg "_law_odd" jK (ad 21) (fd 21) ["_law_state","_law_string_here"]
 x__law_told:FX K mg "_law_told" ir (ad 22) (fd 22) ["_law_thing"]
 x__law_whole:FX K mg "_law_whole" gC (ad 23) (fd 23) ["_law_thing"]
 x__law_is_place:FX K mg "_law_is_place" dQ (ad 24) (fd 24) ["_law_string_here","_law_thing"]
 x__law_pairs_right:FX K mg "_law_pairs_right" ck (ad 25) (fd 25) ["_law_state","_law_string_here"]
 x__law_ratio:FX K mg "_law_ratio" gD (ad 26) (fd 26) ["_law_thing"]
 x__law_fault:FX K mg "_law_fault" ee (ad 27) (fd 27) ["_law_thing"]
 x_law:FX K mg "law" xD (ad 28) (fd 28) ["_law_script"]
 li:uN K mg 31 28 gS eR
 i_NoRing:Fun K "__init__" "NoRing.__init__" fK 48 gT
 i_NoString:Fun K "__init__" "NoString.__init__" dA 91 eS
 c_NoRing:XT K mg "NoRing" 51 48 gT ["self","part","number"] ["part","number"]
 c_NoString:XT K mg "NoString" 94 91 eS ["self","number"] ["number"]
 h_LoadError:XH K mg "LoadError" 31
 h_NoName:XH K mg "NoName" 106
 h_NoPlace:XH K mg "NoPlace" 75
 h_NoRing:XH K mg "NoRing" 51
 h_NoString:XH K mg "NoString" 94
 h_TooMany:XH K mg "TooMany" 63
 z_ValueError:mg "ValueError"=none
 z_abs:mg "abs"=none
 z_all:mg "all"=none
 z_bool:mg "bool"=none
 z_enumerate:mg "enumerate"=none
 z_int:mg "int"=none
 z_isinstance:mg "isinstance"=none
 z_len:mg "len"=none
 z_list:mg "list"=none
 z_max:mg "max"=none
 z_min:mg "min"=none
 z_range:mg "range"=none
 z_repr:mg "repr"=none
 z_str:mg "str"=none
 z_tuple:mg "tuple"=none
 g_FEWEST_TIES:pk K mg "FEWEST_TIES" (.int 2)
 g_LONGEST_NAME:pk K mg "LONGEST_NAME" (.int 8)
 g_MOST_ASKS:pk K mg "MOST_ASKS" (.int 20)
 g_MOST_RINGS:pk K mg "MOST_RINGS" (.int 6)
 g_MOST_TIES:pk K mg "MOST_TIES" (.int 12)
section
variable{P:Program}{w:World}{K:PySem.W.Frag}{mg:Str→Option Value}{base:Heap}{ad:Nat→Addr}{fd:Nat→FuncData}
theorem lE:aI ["self","text"] ["self","text"] (aq eR):=⟨rfl,rfl,rfl,by decide +kernel,rfl,by decide +kernel,by decide +kernel⟩
theorem oP:aI ["self","part","number"] ["self","part","number"] (aq fK):=⟨rfl,rfl,rfl,by decide +kernel,rfl,by decide +kernel,by decide +kernel⟩
theorem lY:aI ["self","number"] ["self","number"] (aq dA):=⟨rfl,rfl,rfl,by decide +kernel,rfl,by decide +kernel,by decide +kernel⟩
theorem kj(T:Tx K mg ad fd):FnOk P w K mg base CX0 1 28 gS ["self","text"] (spLI K):=T.li.f.ok (k:=0) lE wU (fun cdv A outer s H vs Q E hr q=>⟨_,oT (oU (wK rfl T.z_ValueError (bz (pv 0) (bz (pv 1) fW)))),zd q⟩)
theorem fj(T:Tx K mg ad fd):FnOk P w K mg base CX0 2 48 gT ["self","part","number"] (spXI K ["part","number"]):=T.i_NoRing.ok (k:=1) oP qS (fun cdv A outer s H vs Q E hr q=>⟨_,mz (oU (qM T.li (kj T) hr rfl (bz (pv 0) (bz sX fW)))) (mz (pL (pv 0) (pv 1)) (oT (pL (pv 0) (pv 2)))),zg (by decide) q⟩)
theorem lF(T:Tx K mg ad fd):FnOk P w K mg base CX0 2 91 eS ["self","number"] (spXI K ["number"]):=T.i_NoString.ok (k:=1) lY qS (fun cdv A outer s H vs Q E hr q=>⟨_,mz (oU (qM T.li (kj T) hr rfl (bz (pv 0) (bz sX fW)))) (oT (pL (pv 0) (pv 1))),ze q⟩)
theorem bJ:aI jD ["one","other"] (aq cJ):=⟨rfl,rfl,rfl,by decide +kernel,rfl,by decide +kernel,by decide +kernel⟩
theorem jf(T:Tx K mg ad fd):FnOk P w K mg base CX0 1 (ad 0) (fd 0) ["one","other"] (spF K 2 cm) :=
 dk (k:=0) T.x_greatest_shared.f bJ cL (fun cdv A outer s H E hr=>(ai (qw PassesOwn.never (pbc (ij hr.units) (af 1) ah (aG _)) (ai (aM (i:=2) bJ.nd rfl (by walk_at "o") (aD j2 (af 0) (af 1)))
  (ai (aM (i:=0) bJ.nd rfl (by walk_at "o") (af 1))
  (ak (aM (i:=1) bJ.nd rfl (by walk_at "o") (af 2))))))
  (ak (aJ (aA uh rfl T.z_abs (by decide +kernel) (ae (af 0) ag))))))
  iw
theorem qf:aI sH ["thing"] (aq jE):=⟨rfl,rfl,rfl,by decide +kernel,rfl,by decide +kernel,by decide +kernel⟩
theorem iB(T:Tx K mg ad fd):FnOk P w K mg base CX0 1 (ad 1) (fd 1) ["thing"] (spF K 1 dR) :=
 dk (k:=0) T.x_is_whole.f qf g8 (fun cdv A outer s H E hr=>(ak (aJ (fP (bP uq rfl T.z_isinstance rfl T.z_int (by decide +kernel) (af 0)) (f9 (xG (bP kB rfl T.z_isinstance rfl T.z_bool (by decide +kernel) (af 0))))))))
  oE
theorem jg:aI jF ["thing","many"] (aq cK):=⟨rfl,rfl,rfl,by decide +kernel,rfl,by decide +kernel,by decide +kernel⟩
theorem cB(T:Tx K mg ad fd):FnOk P w K mg base CX0 2 (ad 2) (fd 2) ["thing","many"] (spF K 2 bf) :=
 dk (k:=1) T.x_is_number_below.f jg cM (fun cdv A outer s H E hr=>(ak (aJ (fP (bI (iB T) T.x_is_whole hr (ae (af 0) ag)) (f9 (qJ jr yR ah (af 0) (af 1)))))))
  ix
theorem jT:aI kq ["thing"] (aq c9):=⟨rfl,rfl,rfl,by decide +kernel,rfl,by decide +kernel,by decide +kernel⟩
theorem fk(T:Tx K mg ad fd):FnOk P w K mg base CX0 2 (ad 3) (fd 3) ["thing"] (spF K 1 bM) :=
 dk (k:=1) T.x_are_two_wholes.f jT bT (fun cdv A outer s H E hr=>(ak (aJ (fP (bP dJ rfl T.z_isinstance rfl T.z_tuple (by decide +kernel) (af 0)) (fP (cX (ig hr.units) (aA a9 rfl T.z_len (by decide +kernel) (ae (af 0) ag)) ah (aG _)) (fP (bI (iB T) T.x_is_whole hr (ae (aF (af 0) ah (fun _ _=>rfl)) ag)) (f9 (bI (iB T) T.x_is_whole hr (ae (aF (af 0) ah (fun _ _=>rfl)) ag)))))))))
  i7
theorem qg:aI sI ["thing"] (aq jG):=⟨rfl,rfl,rfl,by decide +kernel,rfl,by decide +kernel,by decide +kernel⟩
theorem lG(T:Tx K mg ad fd):FnOk P w K mg base CX0 3 (ad 4) (fd 4) ["thing"] (spF K 1 fz) :=
 dk (k:=2) T.x_is_ratio.f qg g9 (fun cdv A outer s H E hr=>(ak (aJ (fP (bI (fk T) T.x_are_two_wholes hr (ae (af 0) ag)) (fP (cX yE (aF (af 0) ah (fun _ _=>rfl)) ah (aG _)) (f9 (cX (ig hr.units) (bI (jf T) T.x_greatest_shared hr (ae (aF (af 0) ah (fun _ _=>rfl)) (ae (aF (af 0) ah (fun _ _=>rfl)) ag))) ah (aG _))))))))
  oG
theorem sP:aI oy ["thing"] (aq i3):=⟨rfl,rfl,rfl,by decide +kernel,rfl,by decide +kernel,by decide +kernel⟩
theorem sQ(T:Tx K mg ad fd):FnOk P w K mg base CX0 1 (ad 5) (fd 5) ["thing"] (spF K 1 jL) :=
 dk (k:=0) T.x_is_name.f sP lx (fun cdv A outer s H E hr=>(ai (bh (aV (aW (bP yN rfl T.z_isinstance rfl T.z_str (by decide +kernel) (af 0)))) (ak (aJ eG)) aE)
  (ak (aJ (fP (qJ jr jr ah (aA a9 rfl T.z_len (by decide +kernel) (ae (af 0) ag)) (pl_G T.g_LONGEST_NAME rfl)) (f9 (aA (Bh rfl) rfl T.z_all (by decide +kernel) (ae (av (uo (sc:=(aq i3)) (N:=oy) (Nt:=["sign"]) (Nf:=[]) (fi:=[]) rfl rfl rfl (y2 (af 0)) rfl (by decide +kernel) (by decide +kernel) (by decide +kernel) (by decide) rfl (by decide +kernel) (by decide) (fun _ _ _ _=>(pj (by decide) (show((["sign"]:List Str)++([]:List Str)).Nodup by decide +kernel) rfl (Or.inl rfl))) (fun _ _ _ _=>um) (fun _ _ _ _=>(uE eU (pE.cons xN (af 0) (pE.one xN eU)))))) ag))))))))
  qa
theorem dg:aI lp ["rooms"] (aq dP):=⟨rfl,rfl,rfl,by decide +kernel,rfl,by decide +kernel,by decide +kernel⟩
theorem ky(T:Tx K mg ad fd):FnOk P w K mg base (CXr P w) 4 (ad 6) (fd 6) ["rooms"] (spX K 1 de) :=
 qO (k:=3) T.x_look_at_rooms.f dg (fun xp=>dS xp) (fun cdv A outer s H E xp hr hE=>(ai (bh (PBw.pb (bb (aV (aW (bP fw rfl T.z_isinstance rfl T.z_list (by decide +kernel) (af 0)))) (ba (aV (gZ jr jr (pl_G T.g_FEWEST_TIES rfl) (aA a9 rfl T.z_len (by decide +kernel) (ae (af 0) ag)) (pl_G T.g_MOST_TIES rfl)))))) (ak (cY T.c_NoRing (fj T) hr (dO hE) (ae eU (ae bS ag)))) aE)
  (ak (iM PassesOwn.leaving rfl (mR rfl T.z_enumerate (af 0)) (qx rfl (d7 (i:=1) dg.nd rfl (by walk_at "o") (d7 (i:=2) dg.nd rfl (by walk_at "o") mK))) (ak (bh (PBw.pb (bb (aV (aW (bI (lG T) T.x_is_ratio hr (ae (af 2) ag)))) (ba (pbc A1 (aF (af 2) ah (fun _ _=>rfl)) ah (aG _))))) (ak (cY T.c_NoRing (fj T) hr (dO hE) (ae eU (ae (af 1) ag)))) aE))))))
  jM
theorem d3(T:Tx K mg ad fd):wY P w K mg base 3 "look_at_asks" bB:=Bw (k:=2) (p:="place") (y:="places") (T.l_look_at_asks.lam.trans rfl) (Cu rfl rfl rfl rfl rfl rfl fun _ _ _ _ _ _=>rfl) cn (fun A outer s H f c c' hr=>(bI (cB T) T.x_is_number_below hr (ae (af 0) (ae (af 1) ag)))) hG
theorem vG:aI xC ["thing","is_end"] (aq m4):=⟨rfl,rfl,rfl,by decide +kernel,rfl,by decide +kernel,by decide +kernel⟩
theorem vH(T:Tx K mg ad fd):FnOk P w K mg base CX0 4 (ad 7) (fd 7) ["thing","is_end"] (spF K 2 ly) :=
 dk (k:=3) T.x_is_ask.f vG m6 (fun cdv A outer s H E hr=>(ai (bh (PBw.pb (bb (aV (aW (bP dJ rfl T.z_isinstance rfl T.z_tuple (by decide +kernel) (af 0)))) (ba (pbc (ij hr.units) (aA a9 rfl T.z_len (by decide +kernel) (ae (af 0) ag)) ah (aG _))))) (ak (aJ eG)) aE)
  (ai (bh (PBw.pb (bb (aV (aW (bI (sQ T) T.x_is_name hr (ae (aF (af 0) ah (fun _ _=>rfl)) ag)))) (ba (aV (aW (bI (lG T) T.x_is_ratio hr (ae (aF (af 0) ah (fun _ _=>rfl)) ag))))))) (ak (aJ eG)) aE)
  (ai (bh (PBw.pb (bb (aV (aW (xT (d3 T) hr 1 (aF (af 0) ah (fun _ _=>rfl))))) (ba (aV (aW (xT (d3 T) hr 1 (aF (af 0) ah (fun _ _=>rfl)))))))) (ak (aJ eG)) aE)
  (ak (aJ (fP (cX (ij hr.units) (aF (af 0) ah (fun _ _=>rfl)) (aF (af 0) ah (fun _ _=>rfl)) (aG _)) (f9 (cX yE (aF (aF (af 0) ah (fun _ _=>rfl)) ah (fun _ _=>rfl)) ah (aG _))))))))))
  sO
theorem bD:aI i4 ["asks","is_end"] (aq cj):=⟨rfl,rfl,rfl,by decide +kernel,rfl,by decide +kernel,by decide +kernel⟩
theorem iC(T:Tx K mg ad fd):FnOk P w K mg base (CXr P w) 5 (ad 8) (fd 8) ["asks","is_end"] (spX K 2 bY) :=
 qO (k:=4) T.x_look_at_each_ask.f bD (fun xp=>cq xp) (fun cdv A outer s H E xp hr hE=>(ai (bh (aV (aW (bP fw rfl T.z_isinstance rfl T.z_list (by decide +kernel) (af 0)))) (ak (cY T.c_NoRing (fj T) hr (dO hE) (ae eU (ae bS ag)))) aE)
  (ai (aM (i:=2) bD.nd rfl (by walk_at "o") zv)
  (ak (iM PassesOwn.leaving rfl (mR rfl T.z_enumerate (af 0)) (qx rfl (d7 (i:=3) bD.nd rfl (by walk_at "o") (d7 (i:=4) bD.nd rfl (by walk_at "o") mK))) (ai (bh (PBw.pb (bb (aV (aW (bI (vH T) T.x_is_ask hr (ae (af 4) (ae (af 1) ag))))) (ba (Bt 2 (aF (af 4) ah (fun _ _=>rfl)) rfl)))) (ak (cY T.c_NoRing (fj T) hr (dO hE) (ae eU (ae (af 3) ag)))) aE)
  (ak (zu 2 (aF (af 4) ah (fun _ _=>rfl)) eG))))))))
  hJ
theorem lH:aI lR ["asks","places"] (aq cS):=⟨rfl,rfl,rfl,by decide +kernel,rfl,by decide +kernel,by decide +kernel⟩
theorem lI(T:Tx K mg ad fd):FnOk P w K mg base (CXr P w) 6 (ad 9) (fd 9) ["asks","places"] (spX K 2 dU) :=
 zC (k:=5) T.x_look_at_asks.f lH (fun xp=>eL xp) (fun cdv A outer s H E xp hcv hr hE=>(ai (bh (PBw.pb (kO (aW (bP fw rfl T.z_isinstance rfl T.z_list (by decide +kernel) (af 0))) (iH (pbc mL (aA a9 rfl T.z_len (by decide +kernel) (ae (af 0) ag)) (pl_G T.g_MOST_ASKS rfl) (aG _))))) (ak (cY T.c_NoRing (fj T) hr (dO hE) (ae eU (ae bS ag)))) aE)
  (ak (mJ (zD (iC T) T.x_look_at_each_ask hr (dO hE) 1 (By T.l_look_at_asks hcv rfl (by decide) rfl rfl rfl rfl rfl rfl) (af 0))))))
  ku
theorem lJ:aI lS ["thing"] (aq eK):=⟨rfl,rfl,rfl,by decide +kernel,rfl,by decide +kernel,by decide +kernel⟩
theorem lK(T:Tx K mg ad fd):FnOk P w K mg base (CXr P w) 7 (ad 10) (fd 10) ["thing"] (spX K 1 dW) :=
 qO (k:=6) T.x_look_at_ring.f lJ (fun xp=>eM xp) (fun cdv A outer s H E xp hr hE=>(ai (bh (PBw.pb (bb (aV (aW (bP dJ rfl T.z_isinstance rfl T.z_tuple (by decide +kernel) (af 0)))) (ba (pbc (ij hr.units) (aA a9 rfl T.z_len (by decide +kernel) (ae (af 0) ag)) ah (aG _))))) (ak (cY T.c_NoRing (fj T) hr (dO hE) (ae eU (ae bS ag)))) aE)
  (ai (mJ (xQ (ky T) T.x_look_at_rooms hr (dO hE) (ae (aF (af 0) ah (fun _ _=>rfl)) ag)))
  (ak (mJ (xQ (lI T) T.x_look_at_asks hr (dO hE) (ae (aF (af 0) ah (fun _ _=>rfl)) (ae (av (aA a9 rfl T.z_len (by decide +kernel) (ae (aF (af 0) ah (fun _ _=>rfl)) ag))) ag))))))))
  kx
theorem sR:aI vt ["thing"] (aq lq):=⟨rfl,rfl,rfl,by decide +kernel,rfl,by decide +kernel,by decide +kernel⟩
theorem sS(T:Tx K mg ad fd):FnOk P w K mg base CX0 8 (ad 11) (fd 11) ["thing"] (spF K 1 jN) :=
 dk (k:=7) T.x_is_ring.f sR lz (fun cdv A outer s H E hr=>(ai (zk rfl rfl T.h_NoRing rfl (fun _ _ xt=>(qP (wQ (xR (lK T) T.x_look_at_ring hr (ae (af 0) ag))))) (fun _=>(ak (aJ eG))))
  (ak (aJ eG))))
  qc
theorem qh:aI sJ ["string","thing"] (aq jH):=⟨rfl,rfl,rfl,by decide +kernel,rfl,by decide +kernel,by decide +kernel⟩
theorem lL(T:Tx K mg ad fd):FnOk P w K mg base CX0 3 (ad 12) (fd 12) ["string","thing"] (spF K 2 fA) :=
 dk (k:=2) T.x_is_place.f qh jO (fun cdv A outer s H E hr=>(ai (bh (PBw.pb (bb (aV (aW (bI (fk T) T.x_are_two_wholes hr (ae (af 1) ag)))) (ba (aV (aW (bI (cB T) T.x_is_number_below hr (ae (aF (af 1) ah (fun _ _=>rfl)) (ae (av (aA a9 rfl T.z_len (by decide +kernel) (ae (af 0) ag))) ag)))))))) (ak (aJ eG)) aE)
  (ak (aJ (fP (bI (cB T) T.x_is_number_below hr (ae (aF (af 1) ah (fun _ _=>rfl)) (ae (av (aA a9 rfl T.z_len (by decide +kernel) (ae (aF (aF (af 0) (aF (af 1) ah (fun _ _=>rfl)) (fun _ _=>rfl)) ah (fun _ _=>rfl)) ag))) ag))) (f9 (AW (cX (ij hr.units) (aF (af 1) ah (fun _ _=>rfl)) ah (aG _)) (f9 (cX (ig hr.units) (aF (af 1) ah (fun _ _=>rfl)) ah (aG _))))))))))
  oI
theorem qj:aI sL ["ahead","thing"] (aq jI):=⟨rfl,rfl,rfl,by decide +kernel,rfl,by decide +kernel,by decide +kernel⟩
theorem qk(T:Tx K mg ad fd):FnOk P w K mg base CX0 9 (ad 13) (fd 13) ["ahead","thing"] (spF K 2 iy) :=
 dk (k:=8) T.x_can_hang.f qj jP (fun cdv A outer s H E hr=>(ai (bh (PBw.pb (bb (aV (aW (bP dJ rfl T.z_isinstance rfl T.z_tuple (by decide +kernel) (af 1)))) (bb (pbc (ij hr.units) (aA a9 rfl T.z_len (by decide +kernel) (ae (af 1) ag)) ah (aG _)) (ba (aV (aW (bI (sS T) T.x_is_ring hr (ae (aU (ae (aF (af 1) ah (fun _ _=>rfl)) (ae (av (aS ag)) ag))) ag)))))))) (ak (aJ eG)) aE)
  (ak (aJ (AX (zF 0) (bI (lL T) T.x_is_place hr (ae (af 0) (ae (aF (af 1) ah (fun _ _=>rfl)) ag))) (cX uu (aF (af 1) ah (fun _ _=>rfl)) bS (aG _)))))))
  oJ
theorem cP:aI kr ["thing"] (aq da):=⟨rfl,rfl,rfl,by decide +kernel,rfl,by decide +kernel,by decide +kernel⟩
theorem jU(T:Tx K mg ad fd):FnOk P w K mg base (CXr P w) 10 (ad 14) (fd 14) ["thing"] (spX K 1 bN) :=
 qO (k:=9) T.x_look_at_string.f cP (fun xp=>df xp) (fun cdv A outer s H E xp hr hE=>(ai (bh (PBw.pb (bb (aV (aW (bP fw rfl T.z_isinstance rfl T.z_list (by decide +kernel) (af 0)))) (ba (aV (gZ jr jr ah (aA a9 rfl T.z_len (by decide +kernel) (ae (af 0) ag)) (pl_G T.g_MOST_RINGS rfl)))))) (ak (cY T.c_NoString (lF T) hr (dO hE) (ae bS ag))) aE)
  (ak (iM PassesOwn.leaving rfl (mR rfl T.z_enumerate (af 0)) (qx rfl (d7 (i:=1) cP.nd rfl (by walk_at "o") (d7 (i:=2) cP.nd rfl (by walk_at "o") mK))) (ak (bh (aV (aW (bI (qk T) T.x_can_hang hr (ae (av (bG (af 0) trivial (af 1))) (ae (af 2) ag))))) (ak (cY T.c_NoString (lF T) hr (dO hE) (ae (af 1) ag))) aE))))))
  i8
theorem c7:aI p8 ["_law_state","_law_many"] (aq iq):=⟨rfl,rfl,rfl,by decide +kernel,rfl,by decide +kernel,by decide +kernel⟩
theorem az(T:Tx K mg ad fd):FnOk P w K mg base CX0 1 (ad 15) (fd 15) ["_law_state","_law_many"] (spF K 2 au) :=
 dk (k:=0) T.x__law_take.f c7 iz (fun cdv A outer s H E hr=>(ai (bh (aW (iR (iP 0 ah (fun _ _=>rfl)) (aF (af 0) ah (fun _ _=>rfl)))) (ai (aM (i:=2) c7.nd rfl (by walk_at "o") (aD j2 (iR (iP 0 ah (fun _ _=>rfl)) (aF (af 0) ah (fun _ _=>rfl))) (af 1)))
  (ai (ph 0 ah (aD qz (iR (iP 0 ah (fun _ _=>rfl)) (aF (af 0) ah (fun _ _=>rfl))) (af 1)))
  (ai (ph 0 ah (cX mL (iR (iP 0 ah (fun _ _=>rfl)) (aF (af 0) ah (fun _ _=>rfl))) ah (aG _)))
  (ak (aJ (t9 2)))))) aE)
  (ai (aM (i:=3) c7.nd rfl (by walk_at "o") ah)
  (ai (iM PassesOwn.never rfl (iL rfl T.z_range (aD bg ah (aD jm ah (gm xJ rfl T.z_int (by decide +kernel) (ae (cX mL (af 1) (aD ug ah ah) (aG _)) ag))))) (jj (i:=4) c7.nd rfl (by walk_at "o")) (ai (ph 0 ah (aD j2 (aD bg (aD jm (iR (iP 0 ah (fun _ _=>rfl)) (aF (af 0) ah (fun _ _=>rfl))) ah) ah) ah))
  (ak (aM (i:=3) c7.nd rfl (by walk_at "o") (av (aD bg (aD jm (af 3) ah) (aD j2 (aD jm (iR (iP 0 ah (fun _ _=>rfl)) (aF (af 0) ah (fun _ _=>rfl))) (iR (iP 0 ah (fun _ _=>rfl)) (aF (af 0) ah (fun _ _=>rfl)))) ah)))))))
  (ak (aJ (aD j2 (aD qz (af 3) ah) (af 1))))))))
  m7
theorem d4:aI sM ["_law_top","_law_bottom"] (aq jJ):=⟨rfl,rfl,rfl,by decide +kernel,rfl,by decide +kernel,by decide +kernel⟩
theorem lM(T:Tx K mg ad fd):FnOk P w K mg base CX0 1 (ad 16) (fd 16) ["_law_top","_law_bottom"] (spF K 2 dX) :=
 dk (k:=0) T.x__law_low.f d4 jQ (fun cdv A outer s H E hr=>(ai (aM (i:=2) d4.nd rfl (by walk_at "o") (av (aA uh rfl T.z_abs (by decide +kernel) (ae (af 0) ag))))
  (ai (aM (i:=3) d4.nd rfl (by walk_at "o") (av (aA uh rfl T.z_abs (by decide +kernel) (ae (af 1) ag))))
  (ai (qw PassesOwn.never (pbc (ij hr.units) (af 2) ah (aG _)) (ak (A6 (i:=2) (j:=3) rfl d4.nd rfl rfl (by decide) rfl rfl (aD j2 (af 3) (af 2)) (af 2) rfl)))
  (ai (bh (pbc yD (af 1) ah (aG _)) (ak (aM (i:=3) d4.nd rfl (by walk_at "o") (aD eV ah (af 3)))) aE)
  (ak (aJ (aU (ae (aD qz (af 0) (af 3)) (ae (aD qz (af 1) (af 3)) ag))))))))))
  oM
theorem eT:aI m5 ["_law_state","_law_least","_law_kind"] (aq fy):=⟨rfl,rfl,rfl,by decide +kernel,rfl,by decide +kernel,by decide +kernel⟩
theorem lZ(T:Tx K mg ad fd):FnOk P w K mg base CX0 2 (ad 17) (fd 17) ["_law_state","_law_least","_law_kind"] (spF K 3 eN) :=
 dk (k:=1) T.x__law_amount.f eT fC (fun cdv A outer s H E hr=>by exact(@ai _ _ _ _ _ (@aM _ _ _ 3 _ _ _ eT.nd rfl (by walk_at "o") (@av _ _ _ (@aD _ _ _ _ _ _ _ _ bg ah (bH (az T) T.x__law_take hr 0 0 (aY 0 (@ae _ _ _ _ _ _ (@aF _ _ _ _ _ _ (@aS _ _ _ _ _ (@ae _ _ _ _ _ _ ah (@ae _ _ _ _ _ _ ah (@ae _ _ _ _ _ _ ah (@ae _ _ _ _ _ _ ah (@ae _ _ _ _ _ _ ah ag (by kernel_rfl)) (by kernel_rfl)) (by kernel_rfl)) (by kernel_rfl)) (by kernel_rfl))) (af 2) (fun _ _=>rfl)) ag (by kernel_rfl)))))) (by kernel_rfl) (by first | exact .inl rfl | exact .inr rfl)) (@ai _ _ _ _ _ (@aM _ _ _ 4 _ _ _ eT.nd rfl (by walk_at "o") (@av _ _ _ (@aD _ _ _ _ _ _ _ _ bg (af 1) (bH (az T) T.x__law_take hr 0 0 (aY 0 (@ae _ _ _ _ _ _ (@aF _ _ _ _ _ _ (@aS _ _ _ _ _ (@ae _ _ _ _ _ _ ah (@ae _ _ _ _ _ _ ah (@ae _ _ _ _ _ _ ah (@ae _ _ _ _ _ _ ah (@ae _ _ _ _ _ _ (@aD _ _ _ _ _ _ _ _ ug ah ah) ag (by kernel_rfl)) (by kernel_rfl)) (by kernel_rfl)) (by kernel_rfl)) (by kernel_rfl))) (af 2) (fun _ _=>rfl)) ag (by kernel_rfl)))))) (by kernel_rfl) (by first | exact .inl rfl | exact .inr rfl)) (@ak _ _ _ (@aJ _ _ _ _ (bI (lM T) T.x__law_low hr (@ae _ _ _ _ _ _ (af 4) (@ae _ _ _ _ _ _ (af 3) ag (by kernel_rfl)) (by kernel_rfl))))))))
  lB
theorem jh:aI oz ["_law_state","_law_string_here"] (aq gA):=⟨rfl,rfl,rfl,by decide +kernel,rfl,by decide +kernel,by decide +kernel⟩
theorem m9(T:Tx K mg ad fd):FnOk P w K mg base CX0 2 (ad 18) (fd 18) ["_law_state","_law_string_here"] (spF K 2 du) :=
 dk (k:=1) T.x__law_place.f jh gE (fun cdv A outer s H E hr=>(ai (aM (i:=2) jh.nd rfl (by walk_at "o") (av (bH (az T) T.x__law_take hr 0 0 (aY 0 (ae (av (aA a9 rfl T.z_len (by decide +kernel) (ae (af 1) ag))) ag)))))
  (ai (bh (pbc (ig hr.units) (af 2) ah (aG _)) (ak (aJ (aU (ae ah (ae (av (bH (az T) T.x__law_take hr 0 0 (aY 0 (ae (av (aA a9 rfl T.z_len (by decide +kernel) (ae (aF (aF (af 1) ah (fun _ _=>rfl)) ah (fun _ _=>rfl)) ag))) ag)))) ag))))) aE)
  (ak (aJ (aU (ae (af 2) (ae (av (aD bg ah (bH (az T) T.x__law_take hr 0 0 (aY 0 (ae (aD eV (aA a9 rfl T.z_len (by decide +kernel) (ae (aF (aF (af 1) (af 2) (fun _ _=>rfl)) ah (fun _ _=>rfl)) ag)) ah) ag))))) ag))))))))
  lT
theorem aT:aI i5 ["_law_state","_law_most","_law_places"] (aq dm):=⟨rfl,rfl,rfl,by decide +kernel,rfl,by decide +kernel,by decide +kernel⟩
theorem l3(T:Tx K mg ad fd):FnOk P w K mg base CX0 3 (ad 19) (fd 19) ["_law_state","_law_most","_law_places"] (spF K 3 eO) :=
 dk (k:=2) T.x__law_string.f aT fE (fun cdv A outer s H E hr=>by exact(@ai _ _ _ _ _ (@aM _ _ _ 3 _ _ _ aT.nd rfl (by walk_at "o") (@aS _ _ _ _ _ ag) (by kernel_rfl) (by first | exact .inl rfl | exact .inr rfl)) (@ai _ _ _ _ _ (@aM _ _ _ 4 _ _ _ aT.nd rfl (by walk_at "o") (@av _ _ _ (bH (az T) T.x__law_take hr 0 0 (aY 0 (@ae _ _ _ _ _ _ ah ag (by kernel_rfl))))) (by kernel_rfl) (by first | exact .inl rfl | exact .inr rfl)) (@ai _ _ _ _ _ (iM PassesOwn.never rfl (iL rfl T.z_range (@aD _ _ _ _ _ _ _ _ bg ah (bH (az T) T.x__law_take hr 0 0 (aY 0 (@ae _ _ _ _ _ _ (af 1) ag (by kernel_rfl)))))) (jj (i:=5) aT.nd rfl (by walk_at "o")) (@ai _ _ _ _ _ (@aM _ _ _ 6 _ _ _ aT.nd rfl (by walk_at "o") (@av _ _ _ (bH (az T) T.x__law_take hr 0 0 (aY 0 (@ae _ _ _ _ _ _ ah ag (by kernel_rfl))))) (by kernel_rfl) (by first | exact .inl rfl | exact .inr rfl)) (@ai _ _ _ _ _ (yI aT.nd (j:=7) rfl (by walk_at "o") (sc:=(aq dm)) (N:=i5) (Nt:=[ "_law_tie" ]) (Nf:=[ "_law_state" ,"_law_kind" ]) (fi:=[0,6]) rfl rfl rfl (iL rfl T.z_range (@aD _ _ _ _ _ _ _ _ bg ah (bH (az T) T.x__law_take hr 0 0 (aY 0 (@ae _ _ _ _ _ _ (@aD _ _ _ _ _ _ _ _ eV (af 2) ah) ag (by kernel_rfl)))))) rfl (by decide +kernel) (by decide +kernel) (by decide +kernel) (by decide) rfl (by decide +kernel) (by decide) (fun _ _ _ _=>(pj (by decide) (show(([ "_law_tie" ]:List Str)++([ "_law_state" ,"_law_kind" ]:List Str)).Nodup by decide +kernel) rfl (Or.inl rfl))) (fun _ _ _ _=>um) (fun _ _ _ _=>(bH (lZ T) T.x__law_amount hr 0 1 (aY 1 (@ae _ _ _ _ _ _ ah (@ae _ _ _ _ _ _ (af 2) ag (by kernel_rfl)) (by kernel_rfl)))))) (@ai _ _ _ _ _ (@aM _ _ _ 8 _ _ _ aT.nd rfl (by walk_at "o") bS (by kernel_rfl) (by first | exact .inl rfl | exact .inr rfl)) (@ai _ _ _ _ _ (@bh _ _ _ _ _ _ _ _ (PBw.pb (kO (pbc mL (af 5) ah (aG _)) (iH (pbc (ig hr.units) (af 4) ah (aG _))))) (@ak _ _ _ (@aM _ _ _ 7 _ _ _ aT.nd rfl (by walk_at "o") (@av _ _ _ (gm yG rfl T.z_list (by decide +kernel) (@ae _ _ _ _ _ _ (@aF _ _ _ _ _ _ (@iR _ _ _ _ _ (iP 3 ah (fun _ _=>rfl)) (@aF _ _ _ _ _ _ (af 3) ah (fun _ _=>rfl))) ah (fun _ _=>rfl)) ag (by kernel_rfl)))) (by kernel_rfl) (by first | exact .inl rfl | exact .inr rfl))) aE) (@ai _ _ _ _ _ (@bh _ _ _ _ _ _ _ _ (pbc mL (af 5) ah (aG _)) (@ai _ _ _ _ _ (@aM _ _ _ 8 _ _ _ aT.nd rfl (by walk_at "o") (@av _ _ _ (wZ 3 0 (bH (m9 T) T.x__law_place hr 0 0 (aY 0 (@ae _ _ _ _ _ _ (af 3) ag (by kernel_rfl)))))) (by kernel_rfl) (by first | exact .inl rfl | exact .inr rfl)) (@ak _ _ _ (@bh _ _ _ _ _ _ _ _ (pbc (ig hr.units) (af 4) ah (aG _)) (@ak _ _ _ (@aM _ _ _ 8 _ _ _ aT.nd rfl (by walk_at "o") (@aU _ _ _ _ _ _ (@ae _ _ _ _ _ _ (@aD _ _ _ _ _ _ _ _ eV (af 5) ah) (@ae _ _ _ _ _ _ (@aD _ _ _ _ _ _ _ _ eV (aA a9 rfl T.z_len (by decide +kernel) (@ae _ _ _ _ _ _ (@aF _ _ _ _ _ _ (@iR _ _ _ _ _ (iP 3 (@aD _ _ _ _ _ _ _ _ eV (af 5) ah) (fun _ _=>rfl)) (@aF _ _ _ _ _ _ (af 3) (@aD _ _ _ _ _ _ _ _ eV (af 5) ah) (fun _ _=>rfl))) ah (fun _ _=>rfl)) ag (by kernel_rfl))) ah) ag (by kernel_rfl)) (by kernel_rfl))) (by kernel_rfl) (by first | exact .inl rfl | exact .inr rfl))) aE))) aE) (@ak _ _ _ (mJ (ui 3 (@aU _ _ _ _ _ _ (@ae _ _ _ _ _ _ (af 7) (@ae _ _ _ _ _ _ (af 8) ag (by kernel_rfl)) (by kernel_rfl)))))))))))) (@ak _ _ _ (@aJ _ _ _ _ (t9 3)))))))
  lC
theorem fM:aI oA ["_law_script","_law_k"] (aq gB):=⟨rfl,rfl,rfl,by decide +kernel,rfl,by decide +kernel,by decide +kernel⟩
theorem fN(T:Tx K mg ad fd):FnOk P w K mg base CX0 1 (ad 20) (fd 20) ["_law_script","_law_k"] (spF K 2 cw) :=
 dk (k:=0) T.x__law_begun.f fM gG (fun cdv A outer s H E hr=>(ai (aM (i:=2) fM.nd rfl (by walk_at "o") ah)
  (ai (bh (pbc yD (af 1) (aA a9 rfl T.z_len (by decide +kernel) (ae (af 0) ag)) (aG _)) (ak (aM (i:=2) fM.nd rfl (by walk_at "o") (aF (af 0) (af 1) (fun _ _=>rfl)))) aE)
  (ak (aJ (aS (ae (af 2) (ae (aD j2 (aD bg (aD bg (aD j2 (af 2) ah) (aD jm (aD jm ah (af 1)) (af 1))) ah) ah) (ae (cX yE (af 2) (aD ug ah ah) (aG _)) ag)))))))))
  lU
theorem aQ:aI sN ["_law_state","_law_string_here"] (aq jK):=⟨rfl,rfl,rfl,by decide +kernel,rfl,by decide +kernel,by decide +kernel⟩
theorem ql(T:Tx K mg ad fd):FnOk P w K mg base CX0 2 (ad 21) (fd 21) ["_law_state","_law_string_here"] (spF K 2 iA) :=
 dk (k:=1) T.x__law_odd.f aQ jR (fun cdv A outer s H E hr=>by exact(@ai _ _ _ _ _ (@aM _ _ _ 2 _ _ _ aQ.nd rfl (by walk_at "o") (@av _ _ _ (bH (az T) T.x__law_take hr 0 0 (aY 0 (@ae _ _ _ _ _ _ (@av _ _ _ (aA a9 rfl T.z_len (by decide +kernel) (@ae _ _ _ _ _ _ (af 1) ag (by kernel_rfl)))) ag (by kernel_rfl))))) (by kernel_rfl) (by first | exact .inl rfl | exact .inr rfl)) (@ai _ _ _ _ _ (yK (qx rfl (d7 (i:=3) aQ.nd rfl (by walk_at "o") (d7 (i:=4) aQ.nd rfl (by walk_at "o") mK))) (@aF _ _ _ _ _ _ (af 1) (af 2) (fun _ _=>rfl))) (@ai _ _ _ _ _ (@aM _ _ _ 5 _ _ _ aQ.nd rfl (by walk_at "o") (@av _ _ _ (bH (az T) T.x__law_take hr 0 0 (aY 0 (@ae _ _ _ _ _ _ ah ag (by kernel_rfl))))) (by kernel_rfl) (by first | exact .inl rfl | exact .inr rfl)) (@ai _ _ _ _ _ (@bh _ _ _ _ _ _ _ _ (pbc (ig hr.units) (af 5) ah (aG _)) (@ak _ _ _ (@aJ _ _ _ _ (@aF _ _ _ _ _ _ (@aS _ _ _ _ _ (@ae _ _ _ _ _ _ bS (@ae _ _ _ _ _ _ (@aU _ _ _ _ _ _ ag) (@ae _ _ _ _ _ _ wG (@ae _ _ _ _ _ _ eU (@ae _ _ _ _ _ _ (@av _ _ _ (@aS _ _ _ _ _ ag)) (@ae _ _ _ _ _ _ (@av _ _ _ (gm qC rfl T.z_tuple (by decide +kernel) (@ae _ _ _ _ _ _ (af 1) ag (by kernel_rfl)))) (@ae _ _ _ _ _ _ (@aF _ _ _ _ _ _ (af 1) ah (fun _ _=>rfl)) ag (by kernel_rfl)) (by kernel_rfl)) (by kernel_rfl)) (by kernel_rfl)) (by kernel_rfl)) (by kernel_rfl)) (by kernel_rfl))) (bH (az T) T.x__law_take hr 0 0 (aY 0 (@ae _ _ _ _ _ _ ah ag (by kernel_rfl)))) (fun _ _=>rfl)))) aE) (@ai _ _ _ _ _ (@bh _ _ _ _ _ _ _ _ (pbc (ig hr.units) (af 5) ah (aG _)) (@ai _ _ _ _ _ (@aM _ _ _ 6 _ _ _ aQ.nd rfl (by walk_at "o") (@av _ _ _ (@aS _ _ _ _ _ (@ae _ _ _ _ _ _ bS (@ae _ _ _ _ _ _ (@av _ _ _ (@aS _ _ _ _ _ (@ae _ _ _ _ _ _ (af 3) (@ae _ _ _ _ _ _ (af 4) ag (by kernel_rfl)) (by kernel_rfl)))) (@ae _ _ _ _ _ _ (@aU _ _ _ _ _ _ (@ae _ _ _ _ _ _ (af 3) ag (by kernel_rfl))) (@ae _ _ _ _ _ _ (@aU _ _ _ _ _ _ (@ae _ _ _ _ _ _ (af 3) (@ae _ _ _ _ _ _ (af 4) (@ae _ _ _ _ _ _ (af 4) ag (by kernel_rfl)) (by kernel_rfl)) (by kernel_rfl))) (@ae _ _ _ _ _ _ (@aU _ _ _ _ _ _ (@ae _ _ _ _ _ _ (af 4) (@ae _ _ _ _ _ _ (af 3) ag (by kernel_rfl)) (by kernel_rfl))) ag (by kernel_rfl)) (by kernel_rfl)) (by kernel_rfl)) (by kernel_rfl)) (by kernel_rfl)))) (by kernel_rfl) (by first | exact .inl rfl | exact .inr rfl)) (@ak _ _ _ (@aJ _ _ _ _ (@av _ _ _ (@aD _ _ _ _ _ _ _ _ bg (@aD _ _ _ _ _ _ _ _ bg (@bG _ _ _ _ _ _ _ _ _ (af 1) trivial (af 2)) (@aS _ _ _ _ _ (@ae _ _ _ _ _ _ (@aF _ _ _ _ _ _ (af 6) (bH (az T) T.x__law_take hr 0 0 (aY 0 (@ae _ _ _ _ _ _ ah ag (by kernel_rfl)))) (fun _ _=>rfl)) ag (by kernel_rfl)))) (@bG _ _ _ _ _ _ _ _ _ (af 1) (@aD _ _ _ _ _ _ _ _ bg (af 2) ah) trivial)))))) aE) (@ai _ _ _ _ _ (@bh _ _ _ _ _ _ _ _ (pbc (ig hr.units) (af 5) ah (aG _)) (@ak _ _ _ (@aJ _ _ _ _ (@av _ _ _ (@aD _ _ _ _ _ _ _ _ bg (@bG _ _ _ _ _ _ _ _ _ (af 1) trivial (af 2)) (@bG _ _ _ _ _ _ _ _ _ (af 1) (@aD _ _ _ _ _ _ _ _ bg (af 2) ah) trivial))))) aE) (@ai _ _ _ _ _ (@bh _ _ _ _ _ _ _ _ (pbc (ig hr.units) (af 5) ah (aG _)) (@ak _ _ _ (@aJ _ _ _ _ (@av _ _ _ (@aD _ _ _ _ _ _ _ _ bg (af 1) (Bi (@aS _ _ _ _ _ (@ae _ _ _ _ _ _ (@aU _ _ _ _ _ _ (@ae _ _ _ _ _ _ (@av _ _ _ (@aS _ _ _ _ _ (@ae _ _ _ _ _ _ (@aU _ _ _ _ _ _ (@ae _ _ _ _ _ _ ah (@ae _ _ _ _ _ _ ah ag (by kernel_rfl)) (by kernel_rfl))) (@ae _ _ _ _ _ _ (@aU _ _ _ _ _ _ (@ae _ _ _ _ _ _ ah (@ae _ _ _ _ _ _ ah ag (by kernel_rfl)) (by kernel_rfl))) ag (by kernel_rfl)) (by kernel_rfl)))) (@ae _ _ _ _ _ _ (@aU _ _ _ _ _ _ (@ae _ _ _ _ _ _ ah (@ae _ _ _ _ _ _ ah ag (by kernel_rfl)) (by kernel_rfl))) ag (by kernel_rfl)) (by kernel_rfl))) ag (by kernel_rfl))) (@aD _ _ _ _ _ _ _ _ bg ah (bH (az T) T.x__law_take hr 0 0 (aY 0 (@ae _ _ _ _ _ _ ah ag (by kernel_rfl)))))))))) aE) (@ai _ _ _ _ _ (@bh _ _ _ _ _ _ _ _ (pbc (ig hr.units) (af 5) ah (aG _)) (@ai _ _ _ _ _ (@aM _ _ _ 7 _ _ _ aQ.nd rfl (by walk_at "o") (@aF _ _ _ _ _ _ (@aS _ _ _ _ _ (@ae _ _ _ _ _ _ (@aU _ _ _ _ _ _ (@ae _ _ _ _ _ _ ah (@ae _ _ _ _ _ _ ah ag (by kernel_rfl)) (by kernel_rfl))) (@ae _ _ _ _ _ _ (@aU _ _ _ _ _ _ (@ae _ _ _ _ _ _ (xH ah) (@ae _ _ _ _ _ _ ah ag (by kernel_rfl)) (by kernel_rfl))) (@ae _ _ _ _ _ _ (@aU _ _ _ _ _ _ (@ae _ _ _ _ _ _ ah (@ae _ _ _ _ _ _ ah ag (by kernel_rfl)) (by kernel_rfl))) (@ae _ _ _ _ _ _ ah (@ae _ _ _ _ _ _ bS (@ae _ _ _ _ _ _ (@av _ _ _ (@aS _ _ _ _ _ (@ae _ _ _ _ _ _ ah (@ae _ _ _ _ _ _ ah ag (by kernel_rfl)) (by kernel_rfl)))) (@ae _ _ _ _ _ _ (@aU _ _ _ _ _ _ (@ae _ _ _ _ _ _ ah (@ae _ _ _ _ _ _ ah ag (by kernel_rfl)) (by kernel_rfl))) (@ae _ _ _ _ _ _ (@aU _ _ _ _ _ _ (@ae _ _ _ _ _ _ eG (@ae _ _ _ _ _ _ ah ag (by kernel_rfl)) (by kernel_rfl))) ag (by kernel_rfl)) (by kernel_rfl)) (by kernel_rfl)) (by kernel_rfl)) (by kernel_rfl)) (by kernel_rfl)) (by kernel_rfl)) (by kernel_rfl))) (bH (az T) T.x__law_take hr 0 0 (aY 0 (@ae _ _ _ _ _ _ ah ag (by kernel_rfl)))) (fun _ _=>rfl)) (by kernel_rfl) (by first | exact .inl rfl | exact .inr rfl)) (@ai _ _ _ _ _ (@aM _ _ _ 8 _ _ _ aQ.nd rfl (by walk_at "o") (@av _ _ _ (bH (az T) T.x__law_take hr 0 0 (aY 0 (@ae _ _ _ _ _ _ (@av _ _ _ (aA a9 rfl T.z_len (by decide +kernel) (@ae _ _ _ _ _ _ (af 3) ag (by kernel_rfl)))) ag (by kernel_rfl))))) (by kernel_rfl) (by first | exact .inl rfl | exact .inr rfl)) (@ak _ _ _ (@aM _ _ _ 3 _ _ _ aQ.nd rfl (by walk_at "o") (@av _ _ _ (@aD _ _ _ _ _ _ _ _ bg (@aD _ _ _ _ _ _ _ _ bg (@bG _ _ _ _ _ _ _ _ _ (af 3) trivial (af 8)) (@aS _ _ _ _ _ (@ae _ _ _ _ _ _ (af 7) ag (by kernel_rfl)))) (@bG _ _ _ _ _ _ _ _ _ (af 3) (@aD _ _ _ _ _ _ _ _ bg (af 8) ah) trivial))) (by kernel_rfl) (by first | exact .inl rfl | exact .inr rfl))))) aE) (@ai _ _ _ _ _ (@bh _ _ _ _ _ _ _ _ (pbc (ig hr.units) (af 5) ah (aG _)) (@ak _ _ _ (@aM _ _ _ 3 _ _ _ aQ.nd rfl (by walk_at "o") (@aF _ _ _ _ _ _ (@aS _ _ _ _ _ (@ae _ _ _ _ _ _ (@av _ _ _ (@bG _ _ _ _ _ _ _ _ _ (af 3) trivial ah)) (@ae _ _ _ _ _ _ (@av _ _ _ (@bG _ _ _ _ _ _ _ _ _ (zJ (af 3) ah) trivial ah)) (@ae _ _ _ _ _ _ (@av _ _ _ (gm qC rfl T.z_tuple (by decide +kernel) (@ae _ _ _ _ _ _ (af 3) ag (by kernel_rfl)))) (@ae _ _ _ _ _ _ bS (@ae _ _ _ _ _ _ (@av _ _ _ (@aS _ _ _ _ _ ag)) ag (by kernel_rfl)) (by kernel_rfl)) (by kernel_rfl)) (by kernel_rfl)) (by kernel_rfl))) (bH (az T) T.x__law_take hr 0 0 (aY 0 (@ae _ _ _ _ _ _ ah ag (by kernel_rfl)))) (fun _ _=>rfl)) (by kernel_rfl) (by first | exact .inl rfl | exact .inr rfl))) aE) (@ai _ _ _ _ _ (@bh _ _ _ _ _ _ _ _ (pbc mL (af 5) ah (aG _)) (@ai _ _ _ _ _ (@aM _ _ _ 6 _ _ _ aQ.nd rfl (by walk_at "o") (@av _ _ _ (@aS _ _ _ _ _ (@ae _ _ _ _ _ _ bS (@ae _ _ _ _ _ _ (@aU _ _ _ _ _ _ (@ae _ _ _ _ _ _ (af 2) (@ae _ _ _ _ _ _ ah ag (by kernel_rfl)) (by kernel_rfl))) (@ae _ _ _ _ _ _ (@aU _ _ _ _ _ _ (@ae _ _ _ _ _ _ ah (@ae _ _ _ _ _ _ ah ag (by kernel_rfl)) (by kernel_rfl))) (@ae _ _ _ _ _ _ (@aU _ _ _ _ _ _ (@ae _ _ _ _ _ _ ah (@ae _ _ _ _ _ _ (@av _ _ _ (aA a9 rfl T.z_len (by decide +kernel) (@ae _ _ _ _ _ _ (@aF _ _ _ _ _ _ (@aF _ _ _ _ _ _ (af 1) ah (fun _ _=>rfl)) ah (fun _ _=>rfl)) ag (by kernel_rfl)))) ag (by kernel_rfl)) (by kernel_rfl))) (@ae _ _ _ _ _ _ (@aU _ _ _ _ _ _ (@ae _ _ _ _ _ _ ah (@ae _ _ _ _ _ _ ah ag (by kernel_rfl)) (by kernel_rfl))) (@ae _ _ _ _ _ _ (@av _ _ _ (@aS _ _ _ _ _ (@ae _ _ _ _ _ _ ah (@ae _ _ _ _ _ _ ah ag (by kernel_rfl)) (by kernel_rfl)))) (@ae _ _ _ _ _ _ (@aU _ _ _ _ _ _ (@ae _ _ _ _ _ _ ah (@ae _ _ _ _ _ _ eG ag (by kernel_rfl)) (by kernel_rfl))) (@ae _ _ _ _ _ _ (@aU _ _ _ _ _ _ (@ae _ _ _ _ _ _ (xH ah) (@ae _ _ _ _ _ _ ah ag (by kernel_rfl)) (by kernel_rfl))) (@ae _ _ _ _ _ _ (@aU _ _ _ _ _ _ (@ae _ _ _ _ _ _ ah (@ae _ _ _ _ _ _ ah ag (by kernel_rfl)) (by kernel_rfl))) ag (by kernel_rfl)) (by kernel_rfl)) (by kernel_rfl)) (by kernel_rfl)) (by kernel_rfl)) (by kernel_rfl)) (by kernel_rfl)) (by kernel_rfl)) (by kernel_rfl)))) (by kernel_rfl) (by first | exact .inl rfl | exact .inr rfl)) (@ai _ _ _ _ _ (@aM _ _ _ 9 _ _ _ aQ.nd rfl (by walk_at "o") (@av _ _ _ (bH (az T) T.x__law_take hr 0 0 (aY 0 (@ae _ _ _ _ _ _ (@av _ _ _ (aA a9 rfl T.z_len (by decide +kernel) (@ae _ _ _ _ _ _ (af 1) ag (by kernel_rfl)))) ag (by kernel_rfl))))) (by kernel_rfl) (by first | exact .inl rfl | exact .inr rfl)) (@ai _ _ _ _ _ (@aM _ _ _ 6 _ _ _ aQ.nd rfl (by walk_at "o") (@av _ _ _ (@aD _ _ _ _ _ _ _ _ bg (af 6) (@aS _ _ _ _ _ (@ae _ _ _ _ _ _ (@aU _ _ _ _ _ _ (@ae _ _ _ _ _ _ (af 9) (@ae _ _ _ _ _ _ (@av _ _ _ (@aD _ _ _ _ _ _ _ _ bg (aA a9 rfl T.z_len (by decide +kernel) (@ae _ _ _ _ _ _ (@aF _ _ _ _ _ _ (@aF _ _ _ _ _ _ (af 1) (af 9) (fun _ _=>rfl)) ah (fun _ _=>rfl)) ag (by kernel_rfl))) (bH (az T) T.x__law_take hr 0 0 (aY 0 (@ae _ _ _ _ _ _ ah ag (by kernel_rfl)))))) ag (by kernel_rfl)) (by kernel_rfl))) (@ae _ _ _ _ _ _ (@aU _ _ _ _ _ _ (@ae _ _ _ _ _ _ ah (@ae _ _ _ _ _ _ (@aD _ _ _ _ _ _ _ _ eV ah ah) ag (by kernel_rfl)) (by kernel_rfl))) ag (by kernel_rfl)) (by kernel_rfl))))) (by kernel_rfl) (by first | exact .inl rfl | exact .inr rfl)) (@ai _ _ _ _ _ (@aM _ _ _ 6 _ _ _ aQ.nd rfl (by walk_at "o") (@av _ _ _ (@aD _ _ _ _ _ _ _ _ bg (af 6) (@aS _ _ _ _ _ (@ae _ _ _ _ _ _ (@aU _ _ _ _ _ _ (@ae _ _ _ _ _ _ ah (@ae _ _ _ _ _ _ ah (@ae _ _ _ _ _ _ ah ag (by kernel_rfl)) (by kernel_rfl)) (by kernel_rfl))) (@ae _ _ _ _ _ _ (@aU _ _ _ _ _ _ (@ae _ _ _ _ _ _ (@aD _ _ _ _ _ _ _ _ eV ah ah) (@ae _ _ _ _ _ _ ah ag (by kernel_rfl)) (by kernel_rfl))) (@ae _ _ _ _ _ _ (@aU _ _ _ _ _ _ (@ae _ _ _ _ _ _ (@aD _ _ _ _ _ _ _ _ eV (@aD _ _ _ _ _ _ _ _ eV ah (af 9)) ah) (@ae _ _ _ _ _ _ ah ag (by kernel_rfl)) (by kernel_rfl))) (@ae _ _ _ _ _ _ (@aU _ _ _ _ _ _ ag) (@ae _ _ _ _ _ _ ah (@ae _ _ _ _ _ _ eG (@ae _ _ _ _ _ _ (@av _ _ _ (@aS _ _ _ _ _ ag)) ag (by kernel_rfl)) (by kernel_rfl)) (by kernel_rfl)) (by kernel_rfl)) (by kernel_rfl)) (by kernel_rfl)) (by kernel_rfl))))) (by kernel_rfl) (by first | exact .inl rfl | exact .inr rfl)) (@ak _ _ _ (@aM _ _ _ 4 _ _ _ aQ.nd rfl (by walk_at "o") (@aF _ _ _ _ _ _ (af 6) (bH (az T) T.x__law_take hr 0 0 (aY 0 (@ae _ _ _ _ _ _ ah ag (by kernel_rfl)))) (fun _ _=>rfl)) (by kernel_rfl) (by first | exact .inl rfl | exact .inr rfl))))))) aE) (@ak _ _ _ (@aJ _ _ _ _ (@av _ _ _ (@aD _ _ _ _ _ _ _ _ bg (@aD _ _ _ _ _ _ _ _ bg (@bG _ _ _ _ _ _ _ _ _ (af 1) trivial (af 2)) (@aS _ _ _ _ _ (@ae _ _ _ _ _ _ (@aU _ _ _ _ _ _ (@ae _ _ _ _ _ _ (af 3) (@ae _ _ _ _ _ _ (af 4) ag (by kernel_rfl)) (by kernel_rfl))) ag (by kernel_rfl)))) (@bG _ _ _ _ _ _ _ _ _ (af 1) (@aD _ _ _ _ _ _ _ _ bg (af 2) ah) trivial))))))))))))))))
  oN
theorem b8:aI p9 ["_law_thing"] (aq ir):=⟨rfl,rfl,rfl,by decide +kernel,rfl,by decide +kernel,by decide +kernel⟩
theorem gU(T:Tx K mg ad fd):FnOk P w K mg base CX0 11 (ad 22) (fd 22) ["_law_thing"] (spF K 1 c6) :=
 dk (k:=10) T.x__law_told.f b8 fG (fun cdv A outer s H E hr=>(ai (aM (i:=1) b8.nd rfl (by walk_at "o") bS)
  (ai (aM (i:=2) b8.nd rfl (by walk_at "o") bS)
  (ai (wR (i:=3) rfl rfl T.h_LoadError rfl b8.nd rfl rfl (by walk_at "o") (fun _ _ xt=>(qP (zj (i:=2) b8.nd rfl (by walk_at "o") (zi (xR (jU T) T.x_look_at_string hr (ae (af 0) ag)))))) (fun _=>(ak (aM (i:=1) b8.nd rfl (by walk_at "o") (af 3)))))
  (ai (bh (pbc uu (af 1) bS (aG _)) (ak (aJ (aF (aS (ae (av (aS ag)) (ae (av (aS (ae eU ag))) ag))) (gm xJ rfl T.z_int (by decide +kernel) (ae (cX qG (af 2) bS (aG _)) ag)) (fun _ _=>rfl)))) aE)
  (ai (bh (PBw.pb (bb (aV (aW (Br T.h_NoString rfl T.z_isinstance rfl (af 1)))) (ba (aV (aW (bP lO rfl T.z_isinstance rfl T.z_ValueError (by decide +kernel) (af 1))))))) (ak (aJ (av (aS (ae eU ag))))) aE)
  (ai (bh (PBw.pb (bb (aW (zm (kC T.h_NoName rfl (kC T.h_NoPlace rfl (kC T.h_NoRing rfl (kC T.h_TooMany rfl zl)))) rfl T.z_isinstance (af 1))) (ba (aW (bP kB rfl T.z_isinstance rfl T.z_bool (by decide +kernel) (xP (af 1))))))) (ak (aJ (av (aS (ae eU ag))))) aE)
  (ak (aJ (av (aS (ae (xP (af 1)) ag))))))))))))
  m8
theorem ng:aI oB ["_law_thing"] (aq gC):=⟨rfl,rfl,rfl,by decide +kernel,rfl,by decide +kernel,by decide +kernel⟩
theorem dB(T:Tx K mg ad fd):FnOk P w K mg base CX0 1 (ad 23) (fd 23) ["_law_thing"] (spF K 1 bO) :=
 dk (k:=0) T.x__law_whole.f ng eE (fun cdv A outer s H E hr=>(ak (aJ (fP (bP uq rfl T.z_isinstance rfl T.z_int (by decide +kernel) (af 0)) (f9 (xG (bP kB rfl T.z_isinstance rfl T.z_bool (by decide +kernel) (af 0))))))))
  lV
theorem kA:aI lr ["_law_string_here","_law_thing"] (aq dQ):=⟨rfl,rfl,rfl,by decide +kernel,rfl,by decide +kernel,by decide +kernel⟩
theorem fS(T:Tx K mg ad fd):FnOk P w K mg base CX0 2 (ad 24) (fd 24) ["_law_string_here","_law_thing"] (spF K 2 bU) :=
 dk (k:=1) T.x__law_is_place.f kA dZ (fun cdv A outer s H E hr=>(ai (bh (PBw.pb (bb (aV (aW (bP dJ rfl T.z_isinstance rfl T.z_tuple (by decide +kernel) (af 1)))) (bb (pbc (ij hr.units) (aA a9 rfl T.z_len (by decide +kernel) (ae (af 1) ag)) ah (aG _)) (bb (aV (aW (bI (dB T) T.x__law_whole hr (ae (aF (af 1) ah (fun _ _=>rfl)) ag)))) (ba (aV (aW (bI (dB T) T.x__law_whole hr (ae (aF (af 1) ah (fun _ _=>rfl)) ag))))))))) (ak (aJ eG)) aE)
  (ai (bh (PBw.pb (bb (aV (gZ jr yR ah (aF (af 1) ah (fun _ _=>rfl)) (aA a9 rfl T.z_len (by decide +kernel) (ae (af 0) ag)))) (ba (aV (gZ jr yR ah (aF (af 1) ah (fun _ _=>rfl)) (aA a9 rfl T.z_len (by decide +kernel) (ae (aF (aF (af 0) (aF (af 1) ah (fun _ _=>rfl)) (fun _ _=>rfl)) ah (fun _ _=>rfl)) ag))))))) (ak (aJ eG)) aE)
  (ak (aJ (AW (cX (ig hr.units) (aF (af 1) ah (fun _ _=>rfl)) ah (aG _)) (f9 (cX mL (aF (af 1) ah (fun _ _=>rfl)) ah (aG _)))))))))
  jS
theorem aR:aI i6 ["_law_state","_law_string_here"] (aq ck):=⟨rfl,rfl,rfl,by decide +kernel,rfl,by decide +kernel,by decide +kernel⟩
theorem iD(T:Tx K mg ad fd):FnOk P w K mg base CX0 4 (ad 25) (fd 25) ["_law_state","_law_string_here"] (spF K 2 bZ) :=
 dk (k:=3) T.x__law_pairs_right.f aR cA (fun cdv A outer s H E hr=>by exact(@ai _ _ _ _ _ (iM PassesOwn.never rfl (iL rfl T.z_range ah) (jj (i:=2) aR.nd rfl (by walk_at "o")) (@ai _ _ _ _ _ (@aM _ _ _ 3 _ _ _ aR.nd rfl (by walk_at "o") (@aD _ _ _ _ _ _ _ _ eV (bH (az T) T.x__law_take hr 0 0 (aY 0 (@ae _ _ _ _ _ _ ah ag (by kernel_rfl)))) ah) (by kernel_rfl) (by first | exact .inl rfl | exact .inr rfl)) (@ai _ _ _ _ _ (@aM _ _ _ 4 _ _ _ aR.nd rfl (by walk_at "o") (@aD _ _ _ _ _ _ _ _ eV (bH (az T) T.x__law_take hr 0 0 (aY 0 (@ae _ _ _ _ _ _ ah ag (by kernel_rfl)))) ah) (by kernel_rfl) (by first | exact .inl rfl | exact .inr rfl)) (@ai _ _ _ _ _ (@aM _ _ _ 5 _ _ _ aR.nd rfl (by walk_at "o") (@aF _ _ _ _ _ _ (@aS _ _ _ _ _ (@ae _ _ _ _ _ _ (@av _ _ _ (@aS _ _ _ _ _ (@ae _ _ _ _ _ _ (af 3) (@ae _ _ _ _ _ _ (af 4) ag (by kernel_rfl)) (by kernel_rfl)))) (@ae _ _ _ _ _ _ (@aU _ _ _ _ _ _ (@ae _ _ _ _ _ _ (af 3) ag (by kernel_rfl))) (@ae _ _ _ _ _ _ (@aU _ _ _ _ _ _ (@ae _ _ _ _ _ _ (af 3) (@ae _ _ _ _ _ _ (af 4) (@ae _ _ _ _ _ _ ah ag (by kernel_rfl)) (by kernel_rfl)) (by kernel_rfl))) (@ae _ _ _ _ _ _ bS (@ae _ _ _ _ _ _ (@aU _ _ _ _ _ _ (@ae _ _ _ _ _ _ eG (@ae _ _ _ _ _ _ ah ag (by kernel_rfl)) (by kernel_rfl))) (@ae _ _ _ _ _ _ (@aU _ _ _ _ _ _ (@ae _ _ _ _ _ _ (af 3) (@ae _ _ _ _ _ _ eU ag (by kernel_rfl)) (by kernel_rfl))) ag (by kernel_rfl)) (by kernel_rfl)) (by kernel_rfl)) (by kernel_rfl)) (by kernel_rfl)) (by kernel_rfl))) (bH (az T) T.x__law_take hr 0 0 (aY 0 (@ae _ _ _ _ _ _ ah ag (by kernel_rfl)))) (fun _ _=>rfl)) (by kernel_rfl) (by first | exact .inl rfl | exact .inr rfl)) (@ak _ _ _ (iM PassesOwn.never rfl (ud (@aS _ _ _ _ _ (@ae _ _ _ _ _ _ (@aU _ _ _ _ _ _ (@ae _ _ _ _ _ _ (af 3) (@ae _ _ _ _ _ _ (af 4) ag (by kernel_rfl)) (by kernel_rfl))) (@ae _ _ _ _ _ _ (@aU _ _ _ _ _ _ (@ae _ _ _ _ _ _ ah (@ae _ _ _ _ _ _ ah ag (by kernel_rfl)) (by kernel_rfl))) (@ae _ _ _ _ _ _ (af 5) ag (by kernel_rfl)) (by kernel_rfl)) (by kernel_rfl)))) (jj (i:=6) aR.nd rfl (by walk_at "o")) (@ai _ _ _ _ _ (@aM _ _ _ 7 _ _ _ aR.nd rfl (by walk_at "o") (@av _ _ _ (bI (lL T) T.x_is_place hr (@ae _ _ _ _ _ _ (af 1) (@ae _ _ _ _ _ _ (af 6) ag (by kernel_rfl)) (by kernel_rfl)))) (by kernel_rfl) (by first | exact .inl rfl | exact .inr rfl)) (@ak _ _ _ (@bh _ _ _ _ _ _ _ _ (PBw.pb (bb (aV (aW (bP kB rfl T.z_isinstance rfl T.z_bool (by decide +kernel) (af 7)))) (ba (pbc (ij hr.units) (af 7) (bI (fS T) T.x__law_is_place hr (@ae _ _ _ _ _ _ (af 1) (@ae _ _ _ _ _ _ (af 6) ag (by kernel_rfl)) (by kernel_rfl))) (aG _))))) (@ak _ _ _ (@aJ _ _ _ _ eG)) aE))))))))) (@ak _ _ _ (@aJ _ _ _ _ eG))))
  hR
theorem nh:aI oC ["_law_thing"] (aq gD):=⟨rfl,rfl,rfl,by decide +kernel,rfl,by decide +kernel,by decide +kernel⟩
theorem nj(T:Tx K mg ad fd):FnOk P w K mg base CX0 2 (ad 26) (fd 26) ["_law_thing"] (spF K 1 fH) :=
 dk (k:=1) T.x__law_ratio.f nh gQ (fun cdv A outer s H E hr=>(ai (bh (PBw.pb (bb (aV (aW (bP dJ rfl T.z_isinstance rfl T.z_tuple (by decide +kernel) (af 0)))) (bb (pbc (ij hr.units) (aA a9 rfl T.z_len (by decide +kernel) (ae (af 0) ag)) ah (aG _)) (bb (aV (aW (bI (dB T) T.x__law_whole hr (ae (aF (af 0) ah (fun _ _=>rfl)) ag)))) (ba (aV (aW (bI (dB T) T.x__law_whole hr (ae (aF (af 0) ah (fun _ _=>rfl)) ag))))))))) (ak (aJ eG)) aE)
  (ak (aJ (fP (cX mL (aF (af 0) ah (fun _ _=>rfl)) ah (aG _)) (f9 (cX (ig hr.units) (bI (lM T) T.x__law_low hr (ae (aF (af 0) ah (fun _ _=>rfl)) (ae (aF (af 0) ah (fun _ _=>rfl)) ag))) (af 0) (aG _))))))))
  lW
theorem fO:aI j6 ["_law_thing"] (aq ee):=⟨rfl,rfl,rfl,by decide +kernel,rfl,by decide +kernel,by decide +kernel⟩
theorem ji(T:Tx K mg ad fd):FnOk P w K mg base CX0 3 (ad 27) (fd 27) ["_law_thing"] (spF K 1 dz) :=
 dk (k:=2) T.x__law_fault.f fO gR (fun cdv A outer s H E hr=>(ai (bh (PBw.pb (bb (aV (aW (bP fw rfl T.z_isinstance rfl T.z_list (by decide +kernel) (af 0)))) (ba (aV (gZ jr jr ah (aA a9 rfl T.z_len (by decide +kernel) (ae (af 0) ag)) ah))))) (ak (aJ (av (aS (ae bS ag))))) aE)
  (ai (iM PassesOwn.never rfl (iL rfl T.z_range (aA a9 rfl T.z_len (by decide +kernel) (ae (af 0) ag))) (jj (i:=1) fO.nd rfl (by walk_at "o")) (ai (aM (i:=2) fO.nd rfl (by walk_at "o") (aF (af 0) (af 1) (fun _ _=>rfl)))
  (ai (bh (PBw.pb (bb (aV (aW (bP dJ rfl T.z_isinstance rfl T.z_tuple (by decide +kernel) (af 2)))) (bb (pbc (ij hr.units) (aA a9 rfl T.z_len (by decide +kernel) (ae (af 2) ag)) ah (aG _)) (bb (aV (aW (bP fw rfl T.z_isinstance rfl T.z_list (by decide +kernel) (aF (af 2) ah (fun _ _=>rfl))))) (ba (aV (gZ jr jr ah (aA a9 rfl T.z_len (by decide +kernel) (ae (aF (af 2) ah (fun _ _=>rfl)) ag)) ah))))))) (ak (aJ (av (aS (ae (af 1) ag))))) aE)
  (ai (bh (pbc (ij hr.units) (uo (sc:=(aq ee)) (N:=j6) (Nt:=["_law_room"]) (Nf:=[]) (fi:=[]) rfl rfl rfl (ud (aF (af 2) ah (fun _ _=>rfl))) rfl (by decide +kernel) (by decide +kernel) (by decide +kernel) (by decide) rfl (by decide +kernel) (by decide) (fun _ _ _ _=>(pj (by decide) (show((["_law_room"]:List Str)++([]:List Str)).Nodup by decide +kernel) rfl (Or.inl rfl))) (fun _ _ _ _=>(yH (PBw.pb (bb (aV (aW (bI (nj T) T.x__law_ratio hr (ae (af 0) ag)))) (ba (pbc yD (aF (af 0) ah (fun _ _=>rfl)) ah (aG _))))))) (fun _ _ _ _=>(af 0))) (aS ag) (aG _)) (ak (aJ (av (aS (ae (af 1) ag))))) aE)
  (ak (bh (PBw.pb (bb (PBw.pb (kO (pbc (ig hr.units) (af 1) ah (aG _)) (iH (pbc qG (aF (af 2) ah (fun _ _=>rfl)) bS (aG _))))) (ba (PBw.pb (kO (pbc mL (af 1) ah (aG _)) (iH (aV (aW (bI (fS T) T.x__law_is_place hr (ae (av (bG (af 0) trivial (af 1))) (ae (aF (af 2) ah (fun _ _=>rfl)) ag))))))))))) (ak (aJ (av (aS (ae (af 1) ag))))) aE))))))
  (ak (aJ (av (aS ag)))))))
  lX
theorem mx:aI CO ["_law_script"] (aq xD):=⟨rfl,rfl,rfl,by decide +kernel,rfl,by decide +kernel,by decide +kernel⟩
theorem B1(T:Tx K mg ad fd):FnOk P w K mg base CX0 12 (ad 28) (fd 28) ["_law_script"] (spF K 1 fs_law) :=
 dk (k:=11) T.x_law.f mx Al (fun cdv A outer s H E hr=>by exact(@ai _ _ _ _ _ (@aM _ _ _ 1 _ _ _ mx.nd rfl (by walk_at "o") (@av _ _ _ (bI (l3 T) T.x__law_string hr (@ae _ _ _ _ _ _ (bI (fN T) T.x__law_begun hr (@ae _ _ _ _ _ _ (af 0) (@ae _ _ _ _ _ _ ah ag (by kernel_rfl)) (by kernel_rfl))) (@ae _ _ _ _ _ _ ah (@ae _ _ _ _ _ _ ah ag (by kernel_rfl)) (by kernel_rfl)) (by kernel_rfl)))) (by kernel_rfl) (by first | exact .inl rfl | exact .inr rfl)) (@ai _ _ _ _ _ (@aM _ _ _ 2 _ _ _ mx.nd rfl (by walk_at "o") (@av _ _ _ (aA (kD hr) rfl T.z_repr (by decide +kernel) (@ae _ _ _ _ _ _ (af 1) ag (by kernel_rfl)))) (by kernel_rfl) (by first | exact .inl rfl | exact .inr rfl)) (@ai _ _ _ _ _ (@bh _ _ _ _ _ _ _ _ (PBw.pb (bb (pbc (ij hr.units) (bI (gU T) T.x__law_told hr (@ae _ _ _ _ _ _ (af 1) ag (by kernel_rfl))) (@aS _ _ _ _ _ ag) (aG _)) (ba (aV (aW (bI (iD T) T.x__law_pairs_right hr (@ae _ _ _ _ _ _ (bI (fN T) T.x__law_begun hr (@ae _ _ _ _ _ _ (af 0) (@ae _ _ _ _ _ _ ah ag (by kernel_rfl)) (by kernel_rfl))) (@ae _ _ _ _ _ _ (af 1) ag (by kernel_rfl)) (by kernel_rfl)))))))) (@ak _ _ _ (@aJ _ _ _ _ eG)) aE) (@ai _ _ _ _ _ (iM PassesOwn.never rfl (wb rfl T.z_range ah (aA (A4 rfl) rfl T.z_max (by decide +kernel) (@ae _ _ _ _ _ _ ah (@ae _ _ _ _ _ _ (@av _ _ _ (aA (A5 rfl) rfl T.z_min (by decide +kernel) (@ae _ _ _ _ _ _ (@av _ _ _ (aA a9 rfl T.z_len (by decide +kernel) (@ae _ _ _ _ _ _ (af 0) ag (by kernel_rfl)))) (@ae _ _ _ _ _ _ ah ag (by kernel_rfl)) (by kernel_rfl)))) ag (by kernel_rfl)) (by kernel_rfl)))) (jj (i:=3) mx.nd rfl (by walk_at "o")) (@ai _ _ _ _ _ (@aM _ _ _ 4 _ _ _ mx.nd rfl (by walk_at "o") (@av _ _ _ (bI (ql T) T.x__law_odd hr (@ae _ _ _ _ _ _ (bI (fN T) T.x__law_begun hr (@ae _ _ _ _ _ _ (af 0) (@ae _ _ _ _ _ _ (af 3) ag (by kernel_rfl)) (by kernel_rfl))) (@ae _ _ _ _ _ _ (af 1) ag (by kernel_rfl)) (by kernel_rfl)))) (by kernel_rfl) (by first | exact .inl rfl | exact .inr rfl)) (@ai _ _ _ _ _ (@aM _ _ _ 5 _ _ _ mx.nd rfl (by walk_at "o") (@av _ _ _ (aA (kD hr) rfl T.z_repr (by decide +kernel) (@ae _ _ _ _ _ _ (af 4) ag (by kernel_rfl)))) (by kernel_rfl) (by first | exact .inl rfl | exact .inr rfl)) (@ai _ _ _ _ _ (@bh _ _ _ _ _ _ _ _ (PBw.pb (bb (pbc (ij hr.units) (bI (gU T) T.x__law_told hr (@ae _ _ _ _ _ _ (af 4) ag (by kernel_rfl))) (bI (ji T) T.x__law_fault hr (@ae _ _ _ _ _ _ (af 4) ag (by kernel_rfl))) (aG _)) (ba (pbc Bk (aA (kD hr) rfl T.z_repr (by decide +kernel) (@ae _ _ _ _ _ _ (af 4) ag (by kernel_rfl))) (af 5) (aG _))))) (@ak _ _ _ (@aJ _ _ _ _ eG)) aE) (@ak _ _ _ (@bh _ _ _ _ _ _ _ _ (PBw.pb (kO (aW (bP fw rfl T.z_isinstance rfl T.z_list (by decide +kernel) (af 4))) (iH (pbc (ij hr.units) (bI (gU T) T.x__law_told hr (@ae _ _ _ _ _ _ (@av _ _ _ (@aD _ _ _ _ _ _ _ _ bg (af 4) (@aS _ _ _ _ _ (@ae _ _ _ _ _ _ bS ag (by kernel_rfl))))) ag (by kernel_rfl))) (bI (ji T) T.x__law_fault hr (@ae _ _ _ _ _ _ (@av _ _ _ (@aD _ _ _ _ _ _ _ _ bg (af 4) (@aS _ _ _ _ _ (@ae _ _ _ _ _ _ bS ag (by kernel_rfl))))) ag (by kernel_rfl))) (aG _))))) (@ak _ _ _ (@aJ _ _ _ _ eG)) aE)))))) (@ak _ _ _ (@aJ _ _ _ _ (cX Bj (aA (kD hr) rfl T.z_repr (by decide +kernel) (@ae _ _ _ _ _ _ (af 1) ag (by kernel_rfl))) (af 2) (aG _)))))))))
  Am
end
noncomputable def adF(i:Nat):Addr:=([115,122,129,136,143,148,169,190,183,176,155,162,211,204,197,225,232,239,246,251,218,291,284,258,272,298,265,277,305]:List Addr).getD i 0
abbrev md0:Value:=(.str "ringloads.divisors" 315)
abbrev md1:Value:=(.str "ringloads.names" 326)
abbrev md2:Value:=(.str "ringloads.rings" 365)
abbrev md3:Value:=(.str "ringloads.strings" 424)
abbrev md4:Value:=(.str "law_ringloads_k68_what_is_a_string" 453)
noncomputable def fdF(i:Nat):FuncData:=[fdM "greatest_shared" cJ md0 114,fdM "is_whole" jE md1 121,fdM "is_number_below" cK md1 128,fdM "are_two_wholes" c9 md1 135,fdM "is_ratio" jG md1 142,fdM "is_name" i3 md1 147,fdM "look_at_rooms" dP md2 168,fdM "is_ask" m4 md2 189,fdM "look_at_each_ask" cj md2 182,fdM "look_at_asks" cS md2 175,fdM "look_at_ring" eK md2 154,fdM "is_ring" lq md2 161,fdM "is_place" jH md3 210,fdM "can_hang" jI md3 203,fdM "look_at_string" da md3 196,fdM "_law_take" iq md4 224,fdM "_law_low" jJ md4 231,fdM "_law_amount" fy md4 238,fdM "_law_place" gA md4 245,fdM "_law_string" dm md4 250,fdM "_law_begun" gB md4 217,fdM "_law_odd" jK md4 290,fdM "_law_told" ir md4 283,fdM "_law_whole" gC md4 257,fdM "_law_is_place" dQ md4 271,fdM "_law_pairs_right" ck md4 297,fdM "_law_ratio" gD md4 264,fdM "_law_fault" ee md4 276,fdM "law" xD md4 304].getD i (fdM "law" xD md0 0)
theorem tx{Pm:Params}{h:Heap}{mg:Str→Option Value}(X:(Hd.Kf Pm).In h)(G:h.Ns mainGlobals mg):Tx (Hd.Kf Pm) mg adF fdF where
 x_greatest_shared:=FX.mk' X G (a:=115) (c:=114) (md:=md0) (by kernel_rfl) (by kernel_rfl) (by kernel_rfl) (by kernel_rfl) fun _ _ _ _ _ _ u l=>match u,l with | [_,_],_=>rfl
 x_is_whole:=FX.mk' X G (a:=122) (c:=121) (md:=md1) (by kernel_rfl) (by kernel_rfl) (by kernel_rfl) (by kernel_rfl) fun _ _ _ _ _ _ u l=>match u,l with | [_],_=>rfl
 x_is_number_below:=FX.mk' X G (a:=129) (c:=128) (md:=md1) (by kernel_rfl) (by kernel_rfl) (by kernel_rfl) (by kernel_rfl) fun _ _ _ _ _ _ u l=>match u,l with | [_,_],_=>rfl
 x_are_two_wholes:=FX.mk' X G (a:=136) (c:=135) (md:=md1) (by kernel_rfl) (by kernel_rfl) (by kernel_rfl) (by kernel_rfl) fun _ _ _ _ _ _ u l=>match u,l with | [_],_=>rfl
 x_is_ratio:=FX.mk' X G (a:=143) (c:=142) (md:=md1) (by kernel_rfl) (by kernel_rfl) (by kernel_rfl) (by kernel_rfl) fun _ _ _ _ _ _ u l=>match u,l with | [_],_=>rfl
 x_is_name:=FX.mk' X G (a:=148) (c:=147) (md:=md1) (by kernel_rfl) (by kernel_rfl) (by kernel_rfl) (by kernel_rfl) fun _ _ _ _ _ _ u l=>match u,l with | [_],_=>rfl
 x_look_at_rooms:=FX.mk' X G (a:=169) (c:=168) (md:=md2) (by kernel_rfl) (by kernel_rfl) (by kernel_rfl) (by kernel_rfl) fun _ _ _ _ _ _ u l=>match u,l with | [_],_=>rfl
 x_is_ask:=FX.mk' X G (a:=190) (c:=189) (md:=md2) (by kernel_rfl) (by kernel_rfl) (by kernel_rfl) (by kernel_rfl) fun _ _ _ _ _ _ u l=>match u,l with | [_,_],_=>rfl
 x_look_at_each_ask:=FX.mk' X G (a:=183) (c:=182) (md:=md2) (by kernel_rfl) (by kernel_rfl) (by kernel_rfl) (by kernel_rfl) fun _ _ _ _ _ _ u l=>match u,l with | [_,_],_=>rfl
 x_look_at_asks:=FX.mk' X G (a:=176) (c:=175) (md:=md2) (by kernel_rfl) (by kernel_rfl) (by kernel_rfl) (by kernel_rfl) fun _ _ _ _ _ _ u l=>match u,l with | [_,_],_=>rfl
 l_look_at_asks:=LamT.mk' (c0:=175) (by kernel_rfl) rfl (by kernel_rfl)
 x_look_at_ring:=FX.mk' X G (a:=155) (c:=154) (md:=md2) (by kernel_rfl) (by kernel_rfl) (by kernel_rfl) (by kernel_rfl) fun _ _ _ _ _ _ u l=>match u,l with | [_],_=>rfl
 x_is_ring:=FX.mk' X G (a:=162) (c:=161) (md:=md2) (by kernel_rfl) (by kernel_rfl) (by kernel_rfl) (by kernel_rfl) fun _ _ _ _ _ _ u l=>match u,l with | [_],_=>rfl
 x_is_place:=FX.mk' X G (a:=211) (c:=210) (md:=md3) (by kernel_rfl) (by kernel_rfl) (by kernel_rfl) (by kernel_rfl) fun _ _ _ _ _ _ u l=>match u,l with | [_,_],_=>rfl
 x_can_hang:=FX.mk' X G (a:=204) (c:=203) (md:=md3) (by kernel_rfl) (by kernel_rfl) (by kernel_rfl) (by kernel_rfl) fun _ _ _ _ _ _ u l=>match u,l with | [_,_],_=>rfl
 x_look_at_string:=FX.mk' X G (a:=197) (c:=196) (md:=md3) (by kernel_rfl) (by kernel_rfl) (by kernel_rfl) (by kernel_rfl) fun _ _ _ _ _ _ u l=>match u,l with | [_],_=>rfl
 x__law_take:=FX.mk' X G (a:=225) (c:=224) (md:=md4) (by kernel_rfl) (by kernel_rfl) (by kernel_rfl) (by kernel_rfl) fun _ _ _ _ _ _ u l=>match u,l with | [_,_],_=>rfl
 x__law_low:=FX.mk' X G (a:=232) (c:=231) (md:=md4) (by kernel_rfl) (by kernel_rfl) (by kernel_rfl) (by kernel_rfl) fun _ _ _ _ _ _ u l=>match u,l with | [_,_],_=>rfl
 x__law_amount:=FX.mk' X G (a:=239) (c:=238) (md:=md4) (by kernel_rfl) (by kernel_rfl) (by kernel_rfl) (by kernel_rfl) fun _ _ _ _ _ _ u l=>match u,l with | [_,_,_],_=>rfl
 x__law_place:=FX.mk' X G (a:=246) (c:=245) (md:=md4) (by kernel_rfl) (by kernel_rfl) (by kernel_rfl) (by kernel_rfl) fun _ _ _ _ _ _ u l=>match u,l with | [_,_],_=>rfl
 x__law_string:=FX.mk' X G (a:=251) (c:=250) (md:=md4) (by kernel_rfl) (by kernel_rfl) (by kernel_rfl) (by kernel_rfl) fun _ _ _ _ _ _ u l=>match u,l with | [_,_,_],_=>rfl
 x__law_begun:=FX.mk' X G (a:=218) (c:=217) (md:=md4) (by kernel_rfl) (by kernel_rfl) (by kernel_rfl) (by kernel_rfl) fun _ _ _ _ _ _ u l=>match u,l with | [_,_],_=>rfl
 x__law_odd:=FX.mk' X G (a:=291) (c:=290) (md:=md4) (by kernel_rfl) (by kernel_rfl) (by kernel_rfl) (by kernel_rfl) fun _ _ _ _ _ _ u l=>match u,l with | [_,_],_=>rfl
 x__law_told:=FX.mk' X G (a:=284) (c:=283) (md:=md4) (by kernel_rfl) (by kernel_rfl) (by kernel_rfl) (by kernel_rfl) fun _ _ _ _ _ _ u l=>match u,l with | [_],_=>rfl
 x__law_whole:=FX.mk' X G (a:=258) (c:=257) (md:=md4) (by kernel_rfl) (by kernel_rfl) (by kernel_rfl) (by kernel_rfl) fun _ _ _ _ _ _ u l=>match u,l with | [_],_=>rfl
 x__law_is_place:=FX.mk' X G (a:=272) (c:=271) (md:=md4) (by kernel_rfl) (by kernel_rfl) (by kernel_rfl) (by kernel_rfl) fun _ _ _ _ _ _ u l=>match u,l with | [_,_],_=>rfl
 x__law_pairs_right:=FX.mk' X G (a:=298) (c:=297) (md:=md4) (by kernel_rfl) (by kernel_rfl) (by kernel_rfl) (by kernel_rfl) fun _ _ _ _ _ _ u l=>match u,l with | [_,_],_=>rfl
 x__law_ratio:=FX.mk' X G (a:=265) (c:=264) (md:=md4) (by kernel_rfl) (by kernel_rfl) (by kernel_rfl) (by kernel_rfl) fun _ _ _ _ _ _ u l=>match u,l with | [_],_=>rfl
 x__law_fault:=FX.mk' X G (a:=277) (c:=276) (md:=md4) (by kernel_rfl) (by kernel_rfl) (by kernel_rfl) (by kernel_rfl) fun _ _ _ _ _ _ u l=>match u,l with | [_],_=>rfl
 x_law:=FX.mk' X G (a:=305) (c:=304) (md:=md4) (by kernel_rfl) (by kernel_rfl) (by kernel_rfl) (by kernel_rfl) fun _ _ _ _ _ _ u l=>match u,l with | [_],_=>rfl
 li:=uN.mk' X G (by kernel_rfl) (by kernel_rfl) (by kernel_rfl) (by kernel_rfl) (by kernel_rfl) (by kernel_rfl) (by kernel_rfl) fun _ _ _ _ _ _ u l=>match u,l with | [_,_],_=>rfl
 i_NoRing:=jW (oc:=.type "function") (od:=none) (osl:=#[]) (by kernel_rfl) (by kernel_rfl) (by kernel_rfl)
 i_NoString:=jW (oc:=.type "function") (od:=none) (osl:=#[]) (by kernel_rfl) (by kernel_rfl) (by kernel_rfl)
 c_NoRing:=XT.mk' X G (by kernel_rfl) (by kernel_rfl) (by kernel_rfl) ((jW (x:="__init__") (qual:="NoRing.__init__") (st:=fK) (f:=48) (oc:=.type "function") (od:=none) (osl:=#[]) (by kernel_rfl) (by kernel_rfl) (by kernel_rfl)).binds fun _ _ _ _ _ _ u l=>match u,l with | [_,_,_],_=>rfl) (by kernel_rfl) (by kernel_rfl)
 c_NoString:=XT.mk' X G (by kernel_rfl) (by kernel_rfl) (by kernel_rfl) ((jW (x:="__init__") (qual:="NoString.__init__") (st:=dA) (f:=91) (oc:=.type "function") (od:=none) (osl:=#[]) (by kernel_rfl) (by kernel_rfl) (by kernel_rfl)).binds fun _ _ _ _ _ _ u l=>match u,l with | [_,_],_=>rfl) (by kernel_rfl) (by kernel_rfl)
 h_LoadError:=XH.mk' X G (by kernel_rfl) (by kernel_rfl) (by kernel_rfl) (by kernel_rfl)
 h_NoName:=XH.mk' X G (by kernel_rfl) (by kernel_rfl) (by kernel_rfl) (by kernel_rfl)
 h_NoPlace:=XH.mk' X G (by kernel_rfl) (by kernel_rfl) (by kernel_rfl) (by kernel_rfl)
 h_NoRing:=XH.mk' X G (by kernel_rfl) (by kernel_rfl) (by kernel_rfl) (by kernel_rfl)
 h_NoString:=XH.mk' X G (by kernel_rfl) (by kernel_rfl) (by kernel_rfl) (by kernel_rfl)
 h_TooMany:=XH.mk' X G (by kernel_rfl) (by kernel_rfl) (by kernel_rfl) (by kernel_rfl)
 z_ValueError:=PySem.W.mg_none_of X G (by kernel_rfl)
 z_abs:=PySem.W.mg_none_of X G (by kernel_rfl)
 z_all:=PySem.W.mg_none_of X G (by kernel_rfl)
 z_bool:=PySem.W.mg_none_of X G (by kernel_rfl)
 z_enumerate:=PySem.W.mg_none_of X G (by kernel_rfl)
 z_int:=PySem.W.mg_none_of X G (by kernel_rfl)
 z_isinstance:=PySem.W.mg_none_of X G (by kernel_rfl)
 z_len:=PySem.W.mg_none_of X G (by kernel_rfl)
 z_list:=PySem.W.mg_none_of X G (by kernel_rfl)
 z_max:=PySem.W.mg_none_of X G (by kernel_rfl)
 z_min:=PySem.W.mg_none_of X G (by kernel_rfl)
 z_range:=PySem.W.mg_none_of X G (by kernel_rfl)
 z_repr:=PySem.W.mg_none_of X G (by kernel_rfl)
 z_str:=PySem.W.mg_none_of X G (by kernel_rfl)
 z_tuple:=PySem.W.mg_none_of X G (by kernel_rfl)
 g_FEWEST_TIES:=iS (PySem.W.mg_of X G (v:=(.int 2 367)) (by kernel_rfl))
 g_LONGEST_NAME:=iS (PySem.W.mg_of X G (v:=(.int 8 328)) (by kernel_rfl))
 g_MOST_ASKS:=iS (PySem.W.mg_of X G (v:=(.int 20 371)) (by kernel_rfl))
 g_MOST_RINGS:=iS (PySem.W.mg_of X G (v:=(.int 6 426)) (by kernel_rfl))
 g_MOST_TIES:=iS (PySem.W.mg_of X G (v:=(.int 12 369)) (by kernel_rfl))
theorem walkF(w:World)(mg:Str→Option Value)(fa:Addr)(h:Heap)(X:(Hd.Kf w.params).In h)(G:h.Ns mainGlobals mg) (hmg:mg "law"=some (.ref fa)) :
  ∃ fd:FuncData,(∀(s:Shared)(u:Value),BindsTo s fd ⟨[u],[]⟩ [("_law_script",u)])∧∀ base:Heap,(Hd.Kf w.params).In base→base.Ns mainGlobals mg→FnOk PySem.Challenge.pw_ringloads_k68_what_is_a_string w (Hd.Kf w.params) mg base CX0 12 fa fd ["_law_script"] (spF (Hd.Kf w.params) 1 fs_law):=by
 have T:=tx X G
 have e:=hmg.symm.trans T.x_law.m
 cases e
 exact⟨_,fun s v=>.of_eq rfl,fun base _ _=>B1 T⟩
theorem tabR(w:World):∀x∈L2.lamNames,PySem.W.tabIn (Hd.Kf w.params) x=none∨((PyProof.Rows.recsOf Hd.q).find? fun e=>e.name == x).isSome=true:=by
 intro x hx
 simp only[L2.lamNames,List.mem_cons,List.not_mem_nil,or_false]at hx
 rcases hx with rfl|rfl|rfl
 ·
  exact .inr (by kernel_rfl)
 ·
  exact .inl (by kernel_rfl)
 ·
  exact .inr (by kernel_rfl)
theorem walk{l:PySem.W.OpenLaw}{q:Program}{loose:List Str}{XP:(Str→Option Value)→Heap→Prop}{YP:World→Heap→Prop}{d:DefRec}{K:Params→PySem.W.Frag}(hn:l.most=some 63)(hq:PyProof.Rows.importsNone q=true)(hdf:d.params.defaults=[])
  (hY:∀(w:World)(h:Heap),YP w h→(K w.params).In h) (hto:∀w:World,L2.tabsOk (K w.params)=true) (hrc:∀(w:World),∀x∈L2.lamNames,PySem.W.tabIn (K w.params) x=none∨((PyProof.Rows.recsOf q).find? fun e=>e.name == x).isSome=true)
  (F:∀(w:World)(mg:Str→Option Value)(fa:Addr)(h:Heap),(K w.params).In h→h.Ns mainGlobals mg→mg d.name=some (.ref fa) →
   ∃ fd:FuncData,(∀(s:Shared)(u:Value),BindsTo s fd ⟨[u],[]⟩ [("_law_script",u)])∧∀ base:Heap,(K w.params).In base→base.Ns mainGlobals mg→FnOk l.prog w (K w.params) mg base CX0 12 fa fd ["_law_script"] (spF (K w.params) 1 fs_law)) :
  PySem.W.WalkO q loose XP YP l.row.toRowW d [] (fun f vs=>PySem.call f vs) :=
 L2.walk_of (n:=63) (k:=12) (x:="_law_script") (CX:=fun _=>CX0) (sp:=fun w=>spF (K w.params) 1 fs_law) hn hq (by decide) hdf ⟨rfl,by decide,by decide,rfl⟩ hY hto hrc F (fun _ H a ns hl hO hS=>ur hl hO hS (vA hl)) fun _ _ _ _ _ z=>z
end My
open PySem PySem.W PyProof.Rows
abbrev PySem.W.Fast.tw3756845182016218337:PySem.Program:=PySem.Challenge.pw_ringloads_k68_what_is_a_string
theorem PySem.W.Fast.te3756845182016218337:PySem.Challenge.pw_ringloads_k68_what_is_a_string=PySem.W.Fast.tw3756845182016218337:=rfl
set_option maxRecDepth 100000 in
theorem PySem.Challenge.cw_ringloads_k68_what_is_a_string_holds : PySem.Challenge.rw_ringloads_k68_what_is_a_string.Holds := by
 w_on;o_law
 refine PySem.W.holds_open (q:=Hd.q) (loose:=Hd.loose) (Xt:=Hd.Xt) (XP:=XL Hd.q []) (Yf:=Hook.obs Hd.Hk) (Ya:=Hook.val Hd.Hk) (YP:=Hook.says Hd.Hk) (N:=_) Hd.left (Hook.of Hd.Hk) (Hook.keeps Hd.Hk) (fun s e=>xl_of s (Bool.and_eq_true_iff.mp e).1) XL.keeps (by rfl) (by rfl) (by rfl) (fun s e=>recFacts_of (Bool.and_eq_true_iff.mp e).2) (by rfl) (by assumption) (by decide +kernel) ⟨rfl,rfl,rfl,rfl,rfl,by decide +kernel⟩ ?hw ?hc
 case hw=>w_witness2
 case hc=>exact My.walk (l:=PySem.Challenge.rw_ringloads_k68_what_is_a_string) (K:=Hd.Kf) rfl (by decide +kernel) rfl (fun w h Y=>PySem.W.kIn_of Y) (fun w=>by kernel_rfl) My.tabR My.walkF