import PyProof.Rows.All
import Wide.All
import OpenK.AllK
import Wide.FinOn
import Lean
import PyProof.EqAt
import PyProof.EqKinds
import PyProof.TupleCall
import PyProof.ExcArgs
import KE.KSortKey
import KE.KIsAll
import PyProof.ExcInit
import PyProof.StationsW
import PyProof.NsDelKeeps
import PyProof.RulesAs
import PyProof.PassesOwn
import PyProof.ExcBaseAll.ValueError
import PyProof.InstStoreFacts
import PyProof.Rows.EqDataRows
import PyProof.ReprRoads
import PyProof.Rows.Range3
import PyProof.ConsumeWalk
import PyProof.FString5
import PyProof.ReprLen
import PyProof.Rows.TupAdd
import PyProof.Rows.RuleIs
import PyProof.ListNew
import KE.KRevIter
import PyProof.Rows.SeqMore2
import PyProof.ListRange
import KE.KEqDict
import PyProof.NeKinds
import PyProof.CallStr
import PyProof.ListMulAny
import PySem.Challenge.RW_ringloads_k23_least_tops_let_by
set_option Elab.async false
set_option linter.all false
set_option maxRecDepth 100000
set_option maxHeartbeats 0
namespace L2
open PySem PySem.Spec PyProof.Rows
abbrev Key:=Sum Int Str
def zF:Key→Value→Bool
 |.inl k,v=>Value.isInt k v
 |.inr x,v=>Value.isStrOf x v
def keyH(w:World):Key→Int
 |.inl k=>hashInt k
 |.inr x=>hashStr w x
theorem bN:∀{k:Key}{v:Value},zF k v=true→(∃i t,k=Sum.inl i∧v=Value.int i t)∨(∃x t,k=Sum.inr x∧v=Value.str x t)
 | .inl i,v,h=>by
  obtain⟨t,e⟩:=Value.isInt_shape (k:=i) (v:=v) h
  exact .inl ⟨i,t,rfl,e⟩
 | .inr x,v,h=>by
  obtain⟨t,e⟩:=Value.isStrOf_shape (x:=x) (v:=v) h
  exact .inr ⟨x,t,rfl,e⟩
theorem AI(i:Int)(t:Tok):zF (.inl i) (.int i t)=true:=by simp[zF,Value.isInt]
theorem AJ(x:Str)(t:Tok):zF (.inr x) (.str x t)=true:=by simp[zF,Value.isStrOf]
theorem Hx(a b:Int):decide ((Sum.inl a:Key)=Sum.inl b)=(a == b):=by
 by_cases e:a=b
 ·
  subst e;simp
 ·
  have h:¬(Sum.inl a:Key)=Sum.inl b:=fun q=>e (Sum.inl.inj q)
  rw[decide_eq_false h]
  exact(beq_eq_false_iff_ne.mpr e).symm
theorem Hy(a b:Str):decide ((Sum.inr a:Key)=Sum.inr b)=decide (a=b):=by
 by_cases e:a=b
 ·
  subst e;simp
 ·
  have h:¬(Sum.inr a:Key)=Sum.inr b:=fun q=>e (Sum.inr.inj q)
  rw[decide_eq_false h,decide_eq_false e]
theorem Hz(a:Int)(b:Str):decide ((Sum.inl a:Key)=Sum.inr b)=false:=decide_eq_false (fun q=>nomatch q)
theorem HD(a:Str)(b:Int):decide ((Sum.inr a:Key)=Sum.inl b)=false:=decide_eq_false (fun q=>nomatch q)
def mI(prog:Program)(w:World):PySem.KeyKind prog w Key where
 is:=zF
 hash:=keyH w
 inj:=fun v a b ha hb=>by
  rcases bN ha with⟨i,t,rfl,rfl⟩|⟨x,t,rfl,rfl⟩
  ·
   rcases bN hb with⟨j,u,rfl,e⟩|⟨y,u,rfl,e⟩
   ·
    injection e with e1 _;rw[e1]
   ·
    exact nomatch e
  ·
   rcases bN hb with⟨j,u,rfl,e⟩|⟨y,u,rfl,e⟩
   ·
    exact nomatch e
   ·
    injection e with e1 _;rw[e1]
 byValue:=fun k v h=>by
  rcases bN h with⟨i,t,rfl,rfl⟩|⟨x,t,rfl,rfl⟩<;>rfl
 pyHash:=fun hv h=>by
  rcases bN hv with⟨i,t,rfl,rfl⟩|⟨x,t,rfl,rfl⟩
  ·
   exact wpAny_pyHash_int h
  ·
   exact wpAny_pyHash_str h
 eqBool:=fun hu hv h=>by
  rcases bN hu with⟨i,t,rfl,rfl⟩|⟨x,t,rfl,rfl⟩
  ·
   rcases bN hv with⟨j,u,rfl,rfl⟩|⟨y,u,rfl,rfl⟩
   ·
    rw[Hx]at h;exact wpAny_eqBool_int h
   ·
    rw[Hz]at h;exact SeqAt.EqAt.int_str i t y u _ _ _ _ h
  ·
   rcases bN hv with⟨j,u,rfl,rfl⟩|⟨y,u,rfl,rfl⟩
   ·
    rw[HD]at h;exact SeqAt.EqAt.str_int x t j u _ _ _ _ h
   ·
    rw[Hy]at h;exact wpAny_eqBool_str h
 «strs»:=fun k x t v h=>by
  rcases bN h with⟨i,u,rfl,e⟩|⟨y,u,rfl,e⟩
  ·
   exact nomatch e
  ·
   injection e with e1 _
   subst e1
   cases v<;>rfl
theorem wF(prog:Program)(w:World)(i:Int)(t:Tok):(mI prog w).is (.inl i) (.int i t)=true:=AI i t
theorem wG(prog:Program)(w:World)(x:Str)(t:Tok):(mI prog w).is (.inr x) (.str x t)=true:=AJ x t
inductive V where
 |non|bl (b:Bool)|int (i:Int)|str (x:Str)|byt (b:Array UInt8)|flt (b:UInt64)|ref (a:Addr)|ty (n:String)
 deriving DecidableEq
def RelV:V→Value→Prop
 |.non,u=>u=Value.none
 |.bl b,u=>u=Value.bool b
 |.int i,u=>∃t,u=Value.int i t
 |.str x,u=>∃t,u=Value.str x t
 |.byt b,u=>∃t,u=Value.bytes b t
 |.flt b,u=>∃t,u=Value.float b t
 |.ref a,u=>u=Value.ref a
 |.ty n,u=>u=Value.type n
abbrev Vals:List V→List Value→Prop:=Paired RelV
theorem Vals.length{xs:List V}{us:List Value}(r:Vals xs us):xs.length=us.length:=Paired.length r
theorem Vals.get:∀{xs:List V}{us:List Value}{i:Nat}{x:V},Vals xs us→xs[i]?=some x→∃u,us[i]?=some u∧RelV x u
 |_,_,_,_,.nil,e=>by simp at e
 |_,_,0,_,.cons r _,e=>by simp at e;subst e;exact⟨_,rfl,r⟩
 | _,_,i+1,x,.cons _ t,e=>by
  obtain⟨u,h1,h2⟩:=Vals.get (i:=i) (x:=x) t (by simpa using e)
  exact⟨u,by simpa using h1,h2⟩
theorem Vals.set{x:V}{u:Value}(r:RelV x u):∀{xs:List V}{us:List Value}(i:Nat),Vals xs us→Vals (xs.set i x) (us.set i u)
 |_,_,_,.nil=>.nil
 |_,_,0,.cons _ t=>.cons r t
 |_,_,i+1,.cons q t=>.cons q (Vals.set r i t)
theorem Vals.append:∀{xs ys:List V}{us ws:List Value},Vals xs us→Vals ys ws→Vals (xs++ys) (us++ws)
 |_,_,_,_,.nil,s=>s
 |_,_,_,_,.cons r t,s=>.cons r (Vals.append t s)
theorem Vals.take:∀{xs:List V}{us:List Value}(n:Nat),Vals xs us→Vals (xs.take n) (us.take n)
 |_,_,0,_=>.nil
 |_,_,_+1,.nil=>.nil
 |_,_,n+1,.cons r t=>.cons r (Vals.take n t)
theorem Vals.drop:∀{xs:List V}{us:List Value}(n:Nat),Vals xs us→Vals (xs.drop n) (us.drop n)
 |_,_,0,r=>r
 |_,_,_+1,.nil=>.nil
 |_,_,n+1,.cons _ t=>Vals.drop n t
def RelO:Option V→Option Value→Prop
 |some v,some u=>RelV v u
 |none,none=>True
 |_,_=>False
def KV{κ:Type}:List (κ×V)→List (κ×Value)→Prop:=Paired fun (p:κ×V) (q:κ×Value)=>p.1=q.1∧RelV p.2 q.2
def kV:Key→V
 |.inl i=>.int i
 |.inr x=>.str x
inductive HO where
 |lst (xs:List V)
 |tup (xs:List V)
 |dK (kvs:List (Key×V))|dT (kvs:List (List Key×V))
 |set (S:Int→Bool) (n:Nat)
 |ins (C dx:Addr) (fs:List (Str×V))
 |own (x:Addr)
 |xd (fs:List (Str×V))
 |met (f x:Addr)
 |rng (lo hi:Int)
 |frz (o:Obj) (u:HO)
 |tbl (q:Str)
 |ext (φ:Heap→Prop)
abbrev Hp:=Addr→Option HO
def upd(H:Hp)(a:Addr)(o:HO):Hp:=fun b=>if b=a then some o else H b
theorem bO{H:Hp}{a:Addr}{o:HO}:upd H a o a=some o:=by unfold upd;rw[if_pos rfl]
theorem aL{H:Hp}{a b:Addr}{o:HO}(h:b≠a):upd H a o b=H b:=by unfold upd;rw[if_neg h]
theorem FF{H:Hp}{a:Addr}{o u:HO}:upd (upd H a o) a u=upd H a u:=by
 funext b;unfold upd;split<;>rfl
theorem bt{H:Hp}{a b:Addr}{o:HO}(h:H a=some o)(h':H b=none):a≠b:=by
 intro e;subst e;rw[h]at h';cases h'
def yB(oc:Obj)(q:Str):Prop:=∃vs t,oc.data=.fields vs∧vs[1]?=some (.str q t)
section
variable(P:Program)(w:World)
def fU(H:Hp)(h:Heap)(a:Addr):HO→Prop
 |.lst xs=>xs.length≤sizeLine∧∃(its:List Value)(n:Nat),Vals xs its∧h.get? a=some {cls:=.type "list",data:=.seq its.toArray n}
 |.tup xs=>xs.length≤sizeLine∧∃its:List Value,Vals xs its∧IsTup h a its.toArray
 |.dK kvs=>kvs.length≤sizeLine∧(a == sysModules)=false∧∃vs,KV kvs vs∧h.DictOf (mI P w) a vs
 | .dT kvs=>kvs.length≤sizeLine∧(a == sysModules)=false∧∃xs:List (List Key×Addr×Value),
   Paired (fun (p:List Key×V) (q:List Key×Addr×Value)=>p.1=q.1∧H q.2.1=some (.tup (p.1.map kV))∧RelV p.2 q.2.2) kvs xs ∧
   ∃o es ep,h.get? a=some o∧o.ExactDict∧o.data=.dict es ep∧es.toList=xs.map (entryOfKey (tupleKind (mI P w)))∧(xs.map (·.1)).Nodup
 |.set S n=>h.SetOf (intKind P w) a S n
 | .ins C dx fs=>H dx=some (.own a)∧fs.length≤1000∧dx≠a∧h.get? a=some (PySem.W.instObj C dx) ∧
   ∃mA,h.Ns1 dx mA∧(∀f,RelO (fs.lookup f) (mA f))∧PySem.Within mA (fs.map (·.1))
 |.own _=>∃o,h.get? a=some o
 |.xd fs=>∃mA,h.Ns1 a mA∧∀f,RelO (fs.lookup f) (mA f)
 |.rng lo hi=>∃ t u v,h.get? a=some {cls:=.type "range",data:=.fields #[.int lo t,.int hi u,.int 1 v] }
 |.frz o u=>h.get? a=some o∧fU H h a u
 |.tbl q=>∃ps:Array Value,h.get? a=some {cls:=.none,data:=.fields ps}∧TriplesOk ps.toList∧∀pos cv,codeAmong pos ps.toList=some cv→∃c' oc,cv=.ref c'∧H c'=some (.frz oc (.own c'))∧yB oc q
 |.met f x=>h.get? a=some (PySem.W.methodObj (.ref f) (.ref x))
 |.ext φ=>φ h∧(∃o,h.get? a=some o)∧∀h1 h2:Heap,φ h1→(∀o,h1.get? a=some o→h2.get? a=some o)→φ h2
def HOk(H:Hp)(h:Heap):Prop:=∀a o,H a=some o→fU P w H h a o
end
section
variable{P:Program}{w:World}{H H':Hp}{h h':Heap}{a:Addr}{o:HO}
theorem fU.lt(x:fU P w H h a o):a<h.objs.size:=by
 cases o with
 |lst xs=>obtain⟨_,_,_,_,e⟩:=x;exact Heap.lt_size e
 |tup xs=>obtain⟨_,_,_,p⟩:=x;exact p.lt
 |dK kvs=>obtain⟨_,_,_,_,o,_,_,e,_⟩:=x;exact Heap.lt_size e
 |dT kvs=>obtain⟨_,_,_,_,o,_,_,e,_⟩:=x;exact Heap.lt_size e
 |set S n=>obtain⟨o,_,_,_,e,_⟩:=x;exact Heap.lt_size e
 |ins C dx fs=>obtain⟨_,_,_,e,_⟩:=x;exact Heap.lt_size e
 |own y=>obtain⟨_,e⟩:=x;exact Heap.lt_size e
 |xd fs=>obtain⟨_,⟨_,_,_,e,_⟩,_⟩:=x;exact Heap.lt_size e
 |rng lo hi=>obtain⟨_,_,_,e⟩:=x;exact Heap.lt_size e
 |frz ob u=>obtain⟨e,_⟩:=x;exact Heap.lt_size e
 |tbl q=>obtain⟨_,e,_⟩:=x;exact Heap.lt_size e
 |met f y=>exact Heap.lt_size (show h.get? a=some _ from x)
 |ext φ=>obtain⟨_,⟨_,e⟩,_⟩:=x;exact Heap.lt_size e
theorem Paired.mapP{α β:Type}{F G:α→β→Prop}:∀{l₁:List α}{l₂:List β},Paired F l₁ l₂→(∀a b,F a b→G a b)→Paired G l₁ l₂
 |_,_,.nil,_=>.nil
 |_,_,.cons r t,f=>.cons (f _ _ r) (Paired.mapP t f)
theorem fU.stay(x:fU P w H h a o)(k:∀b u,(b=a∨H b=some (.own a))→h.get? b=some u→h'.get? b=some u)
  (ho:∀b,H b=some (.own a)→H' b=some (.own a)) (ht:∀b xs,H b=some (.tup xs)→H' b=some (.tup xs)) (hf:∀b o q,yB o q→H b=some (.frz o (.own b))→H' b=some (.frz o (.own b))):fU P w H' h' a o:=by
 induction o with
 |lst xs=>obtain⟨z,its,n,r,e⟩:=x;exact⟨z,its,n,r,k _ _ (.inl rfl) e⟩
 |tup xs=>obtain⟨z,its,r,ob,e,c⟩:=x;exact⟨z,its,r,ob,k _ _ (.inl rfl) e,c⟩
 |dK kvs=>obtain⟨z,y,vs,r,ob,es,ep,e,c⟩:=x;exact⟨z,y,vs,r,ob,es,ep,k _ _ (.inl rfl) e,c⟩
 | dT kvs =>
  obtain⟨z,y,xs,r,ob,es,ep,e,c⟩:=x
  exact⟨z,y,xs,Paired.mapP r fun p q z=>⟨z.1,ht _ _ z.2.1,z.2.2⟩,ob,es,ep,k _ _ (.inl rfl) e,c⟩
 |set S n=>obtain⟨ob,es,ep,t,e,c⟩:=x;exact⟨ob,es,ep,t,k _ _ (.inl rfl) e,c⟩
 | ins C dx fs =>
  obtain⟨d,z,ne,e,mA,⟨od,es,ep,e2,c⟩,r⟩:=x
  exact⟨ho _ d,z,ne,k _ _ (.inl rfl) e,mA,⟨od,es,ep,k _ _ (.inr d) e2,c⟩,r⟩
 |own y=>obtain⟨ob,e⟩:=x;exact⟨ob,k _ _ (.inl rfl) e⟩
 |xd fs=>obtain⟨mA,⟨od,es,ep,e,c⟩,r⟩:=x;exact⟨mA,⟨od,es,ep,k _ _ (.inl rfl) e,c⟩,r⟩
 |rng lo hi=>obtain⟨t,u,v,e⟩:=x;exact⟨t,u,v,k _ _ (.inl rfl) e⟩
 |frz ob u ih=>obtain⟨e,q⟩:=x;exact⟨k _ _ (.inl rfl) e,ih q⟩
 | tbl q =>
  obtain⟨ps,e,tr,m⟩:=x
  exact⟨ps,k a _ (.inl rfl) e,tr,fun pos cv z=>let ⟨c',oc,a1,a2,a3⟩:=m pos cv z;⟨c',oc,a1,hf _ _ _ a3 a2,a3⟩⟩
 | met f y =>
  have e:h.get? a=some (PySem.W.methodObj (.ref f) (.ref y)):=x
  show h'.get? a=some (PySem.W.methodObj (.ref f) (.ref y))
  exact k a _ (.inl rfl) e
 |ext φ=>obtain⟨p,⟨o,e⟩,st⟩:=x;exact⟨st _ _ p fun o q=>k _ _ (.inl rfl) q,⟨o,k _ _ (.inl rfl) e⟩,st⟩
theorem HOk.lt(x:HOk P w H h)(e:H a=some o):a<h.objs.size:=(x a o e).lt
theorem HOk.fresh(x:HOk P w H h)(e:h.objs.size≤a):H a=none:=by
 cases q:H a with
 |none=>rfl
 |some u=>exact absurd (Nat.lt_of_lt_of_le (x.lt q) e) (Nat.lt_irrefl _)
theorem HOk.kept(x:HOk P w H h)(k:∀b u,h.get? b=some u→h'.get? b=some u):HOk P w H h':=fun a o e =>
 (x a o e).stay (fun b u _ q=>k b u q) (fun _ q=>q) (fun _ _ q=>q) fun _ _ _ _ q=>q
theorem HOk.laid(x:HOk P w H h)(k:∀b u,h.get? b=some u→h'.get? b=some u)(hp:h.objs.size≤a)(new:fU P w (upd H a o) h' a o):HOk P w (upd H a o) h':=fun b u e=>by
 have hn:=x.fresh hp
 by_cases hb:b=a
 ·
  subst hb;rw[bO]at e;cases e;exact new
 ·
  rw[aL hb]at e
  exact(x b u e).stay (fun c v _ q=>k c v q) (fun c q=>by rw[aL (bt q hn)];exact q) (fun c xs q=>by rw[aL (bt q hn)];exact q) fun c ob _ _ q=>by rw[aL (bt q hn)];exact q
end
def Rd(H:Hp)(a:Addr)(u:HO):Prop:=H a=some u∨∃o,H a=some (.frz o u)
theorem Rd.of{H:Hp}{a:Addr}{u:HO}(h:H a=some u):Rd H a u:=.inl h
theorem Rd.ok{P:Program}{w:World}{H:Hp}{h:Heap}{a:Addr}{u:HO}(r:Rd H a u)(x:HOk P w H h):fU P w H h a u:=by
 rcases r with r|⟨o,r⟩
 ·
  exact x a u r
 ·
  obtain⟨_,q⟩:=x a _ r
  exact q
def Mut:Option HO→Prop
 |some (.lst _)=>True
 |some (.dK _)=>True
 |some (.dT _)=>True
 |some (.set _ _)=>True
 |some (.ins _ _ _)=>True
 |some (.ext _)=>True
 |_=>False
section
variable{P:Program}{w:World}{H:Hp}{h h':Heap}{x e:Addr}{o':HO}
theorem HOk.write(ok:HOk P w H h)(mu:Mut (H x))(he:e=x∨H e=some (.own x))(k:∀b u,b≠e→h.get? b=some u→h'.get? b=some u)(heo:∃u,h'.get? e=some u)
  (new:fU P w (upd H x o') h' x o'):HOk P w (upd H x o') h':=fun b u q=>by
 have nown:∀c y,H c=some (.own y)→c≠x:=fun c y r z=>by subst z;rw[r]at mu;exact mu
 have ntup:∀c xs,H c=some (.tup xs)→c≠x:=fun c xs r z=>by subst z;rw[r]at mu;exact mu
 have nfrz:∀c o u,H c=some (.frz o u)→c≠x:=fun c o u r z=>by subst z;rw[r]at mu;exact mu
 by_cases hb:b=x
 ·
  subst hb;rw[bO]at q;cases q;exact new
 ·
  rw[aL hb]at q
  by_cases hbe:b=e
  ·
   have q':H b=some (.own x):=by
    rcases he with z|z
    ·
     exact absurd (hbe.trans z) hb
    ·
     rw[hbe];exact z
   rw[q]at q';cases q'
   obtain⟨v,hv⟩:=heo
   exact⟨v,by rw[hbe];exact hv⟩
  ·
   refine(ok b u q).stay (fun c v hc r=>k c v ?_ r) (fun c r=>by rw[aL (nown c b r)];exact r) (fun c xs r=>by rw[aL (ntup c xs r)];exact r) fun c ob _ _ r=>by rw[aL (nfrz c ob _ r)];exact r
   rcases hc with rfl|hc
   ·
    exact hbe
   ·
    rintro rfl
    rcases he with z|z
    ·
     exact nown c b hc z
    ·
     rw[hc]at z;cases z;exact hb rfl
end
structure Un (fs ex:List Addr) (H H':Hp) (h h':Heap):Prop where
 keep:∀b o,h.get? b=some o→H b=none→b∉fs→b∉ex→h'.get? b=some o
 slot:∀b o,h.get? b=some o→H b=none→b∈fs→b∉ex→∃sl,h'.get? b=some {o with slots:=sl}
 free:∀b o,h.get? b=some o→H b=none→b∉ex→H' b=none
 there:∀b o,h.get? b=some o→b∉ex→∃o',h'.get? b=some o'
 tups:∀b xs,H b=some (.tup xs)→H' b=some (.tup xs)
 frzs:∀b o u,H b=some (.frz o u)→H' b=some (.frz o u)
 tbls:∀b q,H b=some (.tbl q)→H' b=some (.tbl q)
section
variable{fs fs' ex ex':List Addr}{H H1 H2:Hp}{h h1 h2 h':Heap}{a x e:Addr}{o:HO}
theorem Un.any(u:Un fs ex H H1 h h1){b:Addr}{ob:Obj}(q:h.get? b=some ob)(n:H b=none)(hx:b∉ex):∃sl,h1.get? b=some {ob with slots:=sl}:=by
 by_cases hb:b∈fs
 ·
  exact u.slot b ob q n hb hx
 ·
  exact⟨ob.slots,u.keep b ob q n hb hx⟩
theorem Un.trans(a:Un fs ex H H1 h h1)(b:Un fs ex H1 H2 h1 h2):Un fs ex H H2 h h2 where
 keep:=fun c ob q n hc hx=>b.keep c ob (a.keep c ob q n hc hx) (a.free c ob q n hx) hc hx
 slot:=fun c ob q n hc hx=>by
  obtain⟨sl,e1⟩:=a.slot c ob q n hc hx
  obtain⟨sl',e2⟩:=b.slot c _ e1 (a.free c ob q n hx) hc hx
  exact⟨sl',e2⟩
 free:=fun c ob q n hx=>by
  obtain⟨o',e1⟩:=a.there c ob q hx
  exact b.free c o' e1 (a.free c ob q n hx) hx
 there:=fun c ob q hx=>by
  obtain⟨o',e1⟩:=a.there c ob q hx
  exact b.there c o' e1 hx
 tups:=fun c xs q=>b.tups c xs (a.tups c xs q)
 frzs:=fun c ob xs q=>b.frzs c ob xs (a.frzs c ob xs q)
 tbls:=fun c ps q=>b.tbls c ps (a.tbls c ps q)
theorem Un.kept(k:∀b u,h.get? b=some u→h'.get? b=some u):Un fs ex H H h h' :=
 ⟨fun b ob q _ _ _=>k b ob q,fun b ob q _ _ _=>⟨ob.slots,k b ob q⟩,fun _ _ _ n _=>n,fun b ob q _=>⟨ob,k b ob q⟩,fun _ _ q=>q,fun _ _ _ q=>q,fun _ _ q=>q⟩
theorem Un.refl:Un fs ex H H h h:=Un.kept fun _ _ q=>q
theorem Un.laid(k:∀b u,h.get? b=some u→h'.get? b=some u)(hp:h.objs.size≤a)(hn:H a=none):Un fs ex H (upd H a o) h h' where
 keep:=fun b u q _ _ _=>k b u q
 slot:=fun b u q _ _ _=>⟨u.slots,k b u q⟩
 free:=fun b u q n _=>by rw[aL (Nat.ne_of_lt (Nat.lt_of_lt_of_le (Heap.lt_size q) hp))];exact n
 there:=fun b u q _=>⟨u,k b u q⟩
 tups:=fun b xs q=>by rw[aL (bt q hn)];exact q
 frzs:=fun b u xs q=>by rw[aL (bt q hn)];exact q
 tbls:=fun b ps q=>by rw[aL (bt q hn)];exact q
theorem Un.write(mu:Mut (H x))(he:e=x∨H e=some (.own x))(k:∀b u,b≠e→h.get? b=some u→h'.get? b=some u)(heo:∃u,h'.get? e=some u):Un fs ex H (upd H x o) h h':=by
 have hx:∀b,H b=none→b≠x:=fun b n z=>by subst z;rw[n]at mu;exact mu
 have hb:∀b,H b=none→b≠e:=fun b n z=>by
  subst z
  rcases he with r|r
  ·
   exact hx b n r
  ·
   rw[n]at r;cases r
 have hm:∀b u,H b=some u→¬Mut (some u)→b≠x:=fun b u q nm z=>by subst z;rw[q]at mu;exact nm mu
 refine⟨fun b u q n _ _=>k b u (hb b n) q,fun b u q n _ _=>⟨u.slots,k b u (hb b n) q⟩,fun b u q n _=>by rw[aL (hx b n)];exact n,fun b u q _=>?_,
  fun b xs q=>by rw[aL (hm b _ q fun z=>z)];exact q,fun b u xs q=>by rw[aL (hm b _ q fun z=>z)];exact q,fun b ps q=>by rw[aL (hm b _ q fun z=>z)];exact q⟩
 by_cases hbe:b=e
 ·
  subst hbe;exact heo
 ·
  exact⟨u,k b u hbe q⟩
theorem Un.mono(u:Un fs ex H H1 h h1)(hs:∀b∈fs,b∈fs')(hx:∀b∈ex,b∈ex'):Un fs' ex' H H1 h h1 :=
 ⟨fun b ob q n hb he=>u.keep b ob q n (fun z=>hb (hs b z)) fun z=>he (hx b z),fun _ _ q n _ he=>u.any q n fun z=>he (hx _ z),fun b ob q n he=>u.free b ob q n fun z=>he (hx b z),fun b ob q he=>u.there b ob q fun z=>he (hx b z),u.tups,u.frzs,u.tbls⟩
end
def trk(h:Heap)(H:Hp):List Addr:=(List.range h.objs.size).filter fun a=>(H a).isSome
def hidT(h:Heap)(H:Hp):Heap:=PySem.W.hideAll h (trk h H)
theorem AK(h:Heap)(H:Hp):(hidT h H).objs.size=h.objs.size:=PySem.W.hideAll_size _ _
theorem Dj{h:Heap}{H:Hp}{b:Addr}{o:Obj}(e:h.get? b=some o)(n:H b=none):(hidT h H).get? b=some o :=
 PySem.W.hideAll_get _ e fun hm=>by
  have q:(H b).isSome=true:=(List.mem_filter.mp hm).2
  rw[n]at q;simp at q
theorem FG{h:Heap}{H:Hp}{b:Addr}{o:Obj}(e:(hidT h H).get? b=some o):h.get? b=some o∧H b=none:=by
 have e':h.get? b=some o:=PySem.W.of_hideAll (trk h H) e
 refine⟨e',?_⟩
 cases q:H b with
 |none=>rfl
 | some x =>
  have hm:b∈trk h H:=List.mem_filter.mpr ⟨List.mem_range.mpr (Heap.lt_size e'),by simp[q]⟩
  have z:(hidT h H).get? b=none:=PySem.W.hideAll_none (trk h H) hm
  rw[z]at e;cases e
def FH(g h:Heap)(L:Addr):List (Addr×Obj):=(List.range h.objs.size).filterMap fun a=>if a=L∨(g.get? a).isSome=true then none else(h.get? a).map fun o=>(a,o)
def rest(g h:Heap)(L d:Addr):List (Addr×Obj):=(FH g h L).filter fun p=>decide (p.1≠d)
def HE(mg:Str→Option Value)(h:Heap):Prop:=∃ bm ob,mg "__builtins__"=some (.ref bm)∧bm≠builtinsNs∧h.get? bm=some ob∧ob.cls=.type "module"∧ob.dict=some builtinsNs∧ob.data=.plain
def lamNames:List Str:=["look_at_asks","by_lesser_place","look_at_string"]
def lamQ(x:Str):Str:=(x++".<locals>.")++"<lambda>"
def Tbs(K:PySem.W.Frag)(H:Hp):Prop:=∀x∈lamNames,∀c P,PySem.W.tabIn K x=some (c,P)→H P=some (.tbl (lamQ x))
theorem Tbs.un{K:PySem.W.Frag}{fs ex:List Addr}{H H':Hp}{h h':Heap}(t:Tbs K H)(u:Un fs ex H H' h h'):Tbs K H':=fun x hx c P e=>u.tbls _ _ (t x hx c P e)
structure Mod (K:PySem.W.Frag) (mg:Str→Option Value) (base:Heap):Prop where
 kin:K.In base
 glob:base.Ns mainGlobals mg
 blt:∃ mb,base.Ns builtinsNs mb∧∀ x:Str,x≠"__name__"→mb x=bootBuiltins x
 nolimit:base.NoLimit
 sysm:∃mm,base.Ns sysModules mm
 bmn:HE mg base
 cds:∀x∈lamNames,∀c P,PySem.W.tabIn K x=some (c,P)→PySem.W.CodeHd base c P
/-- the context: a def's body (or a comprehension's FI) running. base: fixed through the whole law;s₀,H₀: the entry;outer: the frames whose slots others may change (a def's callers);stack: all frames that run;
  ex: iterators that were made ahead of the entry and are walked here (a comprehension's);fn: the names whose cells were made at the entry (a def: all;a comprehension's FI: its own);calm: not fV an except suite;pn: pins that every state bears;xe: what is wanted of an exception that leaves the code -/
structure Cx where
 prog:Program
 w:World
 K:PySem.W.Frag
 mg:Str→Option Value
 base:Heap
 A:Around
 N:List Str
 s₀:Shared
 H₀:Hp
 env:Env
 outer:List Env
 stack:List Env
 ex:List Addr
 fn:Str→Bool
 calm:Bool
 pn:List (Addr×Obj)
 xe:Value→Shared→Prop
def frs(l:List Env):List Addr:=l.filterMap (·.frame)
abbrev Cx.fs(X:Cx):List Addr:=frs X.outer
def Vis(sc:Scope)(x:Str):Prop:=sc.names.lookup x=some .local∨sc.names.lookup x=some .cell∨sc.names.lookup x=some .free
def Loc(sc:Scope)(x:Str):Prop:=sc.names.lookup x=some .local∨sc.names.lookup x=some .cell
def Look(env:Env)(h:Heap)(m:Str→Option Value)(x:Str)(u:Value):Prop :=
 (env.kindOf x=some .local∧m x=some u)∨((env.kindOf x=some .cell∨env.kindOf x=some .free)∧∃c,env.cells.lookup x=some c∧h.IsCell c (some u))
structure Cx.Ok (X:Cx):Prop where
 mod:Mod X.K X.mg X.base
 kind:X.env.scope.kind=.function
 glob:X.env.globals=mainGlobals
 blt:X.env.builtins=builtinsNs
 above:X.s₀.heap.objs.size≤X.env.locals
 inj:∀x y c,X.env.cells.lookup x=some c→X.env.cells.lookup y=some c→x=y
 has:∀x,(X.env.kindOf x=some .cell∨X.env.kindOf x=some .free)→∃c,X.env.cells.lookup x=some c
 cab:∀x c,X.fn x=true→X.env.cells.lookup x=some c→X.s₀.heap.objs.size≤c
 hd:X.calm=true→X.A.handled=none
 frames:X.A.frames=some X.stack
 stk:X.stack=X.outer∨(X.stack=X.env::X.outer∧X.env.frame=some X.env.locals)
 exf:∀b∈X.ex,b≠X.env.locals∧∀x c,X.env.cells.lookup x=some c→c≠b
 bs:∀b o,X.base.get? b=some o→X.s₀.heap.get? b=some o∧X.H₀ b=none
 bsz:X.base.objs.size≤X.s₀.heap.objs.size
 noex:∀b o,X.base.get? b=some o→b∉X.ex
 exfs:∀b∈X.ex,b∉X.fs
 funs:X.s₀.heap.FunFrames X.base X.outer
 frf:∀b∈X.fs,X.H₀ b=none
 tbs:Tbs X.K X.H₀
structure Inv (X:Cx) (pins:List (Addr×Obj)) (σ:List (Option V)) (H:Hp) (s:Shared):Prop where
 ok:X.Ok
 os:s.os=X.s₀.os
 bare:AllBare s.gens
 base:Un X.fs X.ex X.H₀ H X.s₀.heap s.heap
 loc:∃m,s.heap.Ns X.env.locals m∧∀(i:Nat)(x:Str)(v:V),X.N[i]?=some x→σ[i]?=some (some v)→Vis X.env.scope x→∃u,RelV v u∧Look X.env s.heap m x u
 cell:∀x c,X.env.cells.lookup x=some c→∃v,s.heap.IsCell c v
 free:H X.env.locals=none
 freeC:∀x c,X.env.cells.lookup x=some c→H c=none∨(X.fn x=false∧∃o,H c=some (.frz o (.own c)))
 pin:∀p∈X.pn++pins,s.heap.get? p.1=some p.2∧H p.1=none∧p.1≠X.env.locals∧p.1∉X.fs∧∀v,p.2.data≠.cell v
 hok:HOk X.prog X.w H s.heap
 len:σ.length=X.N.length
section
variable{X:Cx}{pins:List (Addr×Obj)}{σ:List (Option V)}{H H':Hp}{s:Shared}{h':Heap}
theorem Cx.Ok.nofr(ok:X.Ok){b:Addr}{o:Obj}(e:X.base.get? b=some o):b∉X.fs:=fun hb=>by
 have:=(ok.funs.mem hb).1
 rw[e]at this;cases this
theorem Inv.bs(I:Inv X pins σ H s):∀b o,X.base.get? b=some o→s.heap.get? b=some o∧H b=none:=fun b o e =>
 ⟨I.base.keep b o (I.ok.bs b o e).1 (I.ok.bs b o e).2 (I.ok.nofr e) (I.ok.noex b o e),I.base.free b o (I.ok.bs b o e).1 (I.ok.bs b o e).2 (I.ok.noex b o e)⟩
theorem Inv.bk(I:Inv X pins σ H s):∀b o,X.base.get? b=some o→s.heap.get? b=some o:=fun b o e=>(I.bs b o e).1
theorem Inv.tbs(I:Inv X pins σ H s):Tbs X.K H:=I.ok.tbs.un I.base
theorem Inv.mod(I:Inv X pins σ H s):Mod X.K X.mg X.base:=I.ok.mod
theorem Inv.kIn(I:Inv X pins σ H s):X.K.In s.heap:=I.ok.mod.kin.keeps I.bk
theorem Inv.lt(I:Inv X pins σ H s):X.env.locals<s.heap.objs.size:=let ⟨_,hn,_⟩:=I.loc;hn.lt
theorem Inv.sz(I:Inv X pins σ H s):X.s₀.heap.objs.size≤s.heap.objs.size:=Nat.le_trans I.ok.above (Nat.le_of_lt I.lt)
theorem Inv.nofs(I:Inv X pins σ H s){a:Addr}(h:s.heap.objs.size≤a):a∉X.fs:=fun hb=>by
 obtain⟨_,o,ho,_⟩:=I.ok.funs.mem hb
 exact absurd (Nat.lt_of_lt_of_le (Heap.lt_size ho) (Nat.le_trans I.sz h)) (Nat.lt_irrefl _)
theorem Inv.cne(I:Inv X pins σ H s):∀x c,X.env.cells.lookup x=some c→c≠X.env.locals:=fun x c e z=>by
 obtain⟨v,o,ho,hd⟩:=I.cell x c e
 obtain⟨m,⟨o',es,ep,ho',hd',_⟩,_⟩:=I.loc
 rw[z,ho']at ho;cases ho;rw[hd']at hd;cases hd
theorem Inv.funs(I:Inv X pins σ H s):s.heap.FunFrames X.base X.outer:=by
 have all:∀(l:List Env),(∀b∈frs l,b∈X.fs)→X.s₀.heap.FunFrames X.base l→s.heap.FunFrames X.base l:=by
  intro l
  induction l with
  |nil=>intro _ _;trivial
  | cons env r ih =>
   intro hs hl
   obtain⟨hk,⟨L,o,hf,hn,ho,hd⟩,hr⟩:=hl
   have hL:L∈X.fs:=hs L (by unfold frs;rw[List.filterMap_cons,hf];exact List.mem_cons_self)
   obtain⟨sl,e⟩:=I.base.slot L o ho (I.ok.frf L hL) hL fun z=>I.ok.exfs L z hL
   exact⟨hk,⟨L,_,hf,hn,e,hd⟩,ih (fun b hb=>hs b (by unfold frs;rw[List.filterMap_cons,hf];exact List.mem_cons_of_mem _ hb)) hr⟩
 exact all X.outer (fun _ hb=>hb) I.ok.funs
theorem Inv.stack(I:Inv X pins σ H s):s.heap.FunFrames X.base X.stack:=by
 rcases I.ok.stk with e|⟨e,hf⟩
 ·
  rw[e];exact I.funs
 ·
  rw[e]
  obtain⟨m,hn,_⟩:=I.loc
  refine .cons (by rw[I.ok.kind];decide) hf hn ?_ I.funs
  exact Heap.get?_none_of_le (Nat.le_trans I.ok.bsz I.ok.above)
theorem Inv.stkSub(I:Inv X pins σ H s):∀b∈frs X.stack,b∈X.env.locals::X.fs:=fun b hb=>by
 rcases I.ok.stk with e|⟨e,hf⟩
 ·
  rw[e]at hb;exact List.mem_cons_of_mem _ hb
 ·
  rw[e]at hb
  unfold frs at hb
  rw[List.filterMap_cons,hf]at hb
  exact hb
theorem Inv.stkFree(I:Inv X pins σ H s):∀b∈frs X.stack,H b=none:=fun b hb=>by
 rcases List.mem_cons.mp (I.stkSub b hb)with e|hb
 ·
  rw[e];exact I.free
 ·
  obtain⟨_,o,ho,_⟩:=I.ok.funs.mem hb
  exact I.base.free b o ho (I.ok.frf b hb) fun z=>I.ok.exfs b z hb
theorem Inv.step{g':Array GenState}{t':Nat}{d':Drawn}{ch:List Addr}(I:Inv X pins σ H s)
  (hch:∀b∈ch,(b∈X.ex∨X.s₀.heap.objs.size≤b)∧b≠X.env.locals∧(∀x c,X.env.cells.lookup x=some c→c≠b)∧∀p∈X.pn++pins,p.1≠b)
  (keep:∀b o,b≠X.env.locals→b∉X.fs→b∉ch→s.heap.get? b=some o→H b=none→h'.get? b=some o)
  (slot:∀b o,b≠X.env.locals→b∈X.fs→b∉ch→s.heap.get? b=some o→H b=none→∃sl,h'.get? b=some {o with slots:=sl}) (free:∀b o,b∉ch→s.heap.get? b=some o→H b=none→H' b=none)
  (there:∀b o,b∉ch→s.heap.get? b=some o→∃o',h'.get? b=some o')
  (tups:∀b xs,H b=some (.tup xs)→H' b=some (.tup xs)) (frzs:∀b o u,H b=some (.frz o u)→H' b=some (.frz o u)) (tbls:∀b q,H b=some (.tbl q)→H' b=some (.tbl q))
  (ns:∀m,s.heap.Ns X.env.locals m→h'.Ns X.env.locals m) (hok:HOk X.prog X.w H' h') (hg:AllBare g') :
  Inv X pins σ H' {s with heap:=h',gens:=g',drawn:=d',toks:=t' }:=by
 have neL:∀b o,X.s₀.heap.get? b=some o→b≠X.env.locals:=fun b o e=>Nat.ne_of_lt (Nat.lt_of_lt_of_le (Heap.lt_size e) I.ok.above)
 have neC:∀b o,X.s₀.heap.get? b=some o→b∉X.ex→b∉ch:=fun b o e hx hb=>by
  rcases(hch b hb).1 with z|z
  ·
   exact hx z
  ·
   exact absurd (Nat.lt_of_lt_of_le (Heap.lt_size e) z) (Nat.lt_irrefl _)
 have cellK:∀x c,X.env.cells.lookup x=some c→∀v,s.heap.IsCell c v→h'.IsCell c v:=fun x c e v ⟨o,ho,hd⟩=>by
  have nch:c∉ch:=fun z=>(hch c z).2.2.1 x c e rfl
  rcases I.freeC x c e with hn|⟨_,o2,hz⟩
  ·
   by_cases hc:c∈X.fs
   ·
    obtain⟨sl,q⟩:=slot c o (I.cne x c e) hc nch ho hn
    exact⟨_,q,hd⟩
   ·
    exact⟨o,keep c o (I.cne x c e) hc nch ho hn,hd⟩
  ·
   have e1:=(I.hok c _ hz).1
   rw[ho]at e1;cases e1
   exact⟨o,(hok c _ (frzs c _ _ hz)).1,hd⟩
 refine⟨I.ok,I.os,hg,⟨fun b o e n hb hx=>?_,fun b o e n hb hx=>?_,fun b o e n hx=>?_,fun b o e hx=>?_,fun b xs e=>tups b xs (I.base.tups b xs e),fun b o xs e=>frzs b o xs (I.base.frzs b o xs e),fun b ps e=>?_⟩,?_,fun x c e=>?_,?_,fun x c e=>?_,fun p hp=>?_,hok,I.len⟩
 ·
  exact keep b o (neL b o e) hb (neC b o e hx) (I.base.keep b o e n hb hx) (I.base.free b o e n hx)
 ·
  obtain⟨sl,e1⟩:=I.base.slot b o e n hb hx
  obtain⟨sl',e2⟩:=slot b _ (neL b o e) hb (neC b o e hx) e1 (I.base.free b o e n hx)
  exact⟨sl',e2⟩
 ·
  obtain⟨o',e1⟩:=I.base.there b o e hx
  exact free b o' (neC b o e hx) e1 (I.base.free b o e n hx)
 ·
  obtain⟨o',e1⟩:=I.base.there b o e hx
  exact there b o' (neC b o e hx) e1
 ·
  exact tbls b ps (I.base.tbls b ps e)
 ·
  obtain⟨m,hn,hl⟩:=I.loc
  refine⟨m,ns m hn,fun i x v e1 e2 e3=>?_⟩
  obtain⟨u,r,l⟩:=hl i x v e1 e2 e3
  refine⟨u,r,?_⟩
  rcases l with l|⟨k,c,e,z⟩
  ·
   exact .inl l
  ·
   exact .inr ⟨k,c,e,cellK x c e _ z⟩
 ·
  obtain⟨v,z⟩:=I.cell x c e
  exact⟨v,cellK x c e v z⟩
 ·
  obtain⟨m,⟨o,_,_,ho,_⟩,_⟩:=I.loc
  exact free _ o (fun z=>(hch _ z).2.1 rfl) ho I.free
 ·
  obtain⟨v,o,ho,hd⟩:=I.cell x c e
  rcases I.freeC x c e with hn|⟨hf,o2,hz⟩
  ·
   exact .inl (free c o (fun z=>(hch c z).2.2.1 x c e rfl) ho hn)
  ·
   exact .inr ⟨hf,o2,frzs c _ _ hz⟩
 ·
  obtain⟨e,n,ne,nf,d⟩:=I.pin p hp
  have nch:p.1∉ch:=fun z=>(hch p.1 z).2.2.2 p hp rfl
  exact⟨keep p.1 p.2 ne nf nch e n,free p.1 p.2 nch e n,ne,nf,d⟩
theorem Inv.un{t':Nat}(I:Inv X pins σ H s)(u:Un X.fs [] H H' s.heap h')(hok:HOk X.prog X.w H' h'):Inv X pins σ H' {s with heap:=h',toks:=t' }:=by
 obtain⟨m,⟨o,es,ep,ho,r⟩,_⟩:=id I.loc
 obtain⟨sl,hL⟩:=u.any ho I.free (by simp)
 exact I.step (g':=s.gens) (d':=s.drawn) (ch:=[]) (fun _ z=>nomatch z) (fun b o _ hb _ e n=>u.keep b o e n hb (by simp)) (fun b o _ hb _ e n=>u.slot b o e n hb (by simp)) (fun b o _ e n=>u.free b o e n (by simp)) (fun b o _ e=>u.there b o e (by simp)) u.tups u.frzs u.tbls (fun m' hm=>by
  obtain⟨o',es',ep',ho',r'⟩:=hm
  rw[ho]at ho';cases ho'
  exact⟨_,es',ep',hL,r'⟩) hok I.bare
theorem Inv.call{g':Array GenState}{t':Nat}{d':Drawn}{ch:List Addr}(I:Inv X pins σ H s)(u:Un (frs X.stack) ch H H' s.heap h')(hok:HOk X.prog X.w H' h')(hg:AllBare g')
  (hch:∀b∈ch,(b∈X.ex∨X.s₀.heap.objs.size≤b)∧b≠X.env.locals∧(∀x c,X.env.cells.lookup x=some c→c≠b)∧∀p∈X.pn++pins,p.1≠b) :
  Inv X pins σ H' {s with heap:=h',gens:=g',drawn:=d',toks:=t' }:=by
 obtain⟨m,⟨o,es,ep,ho,r⟩,_⟩:=id I.loc
 obtain⟨sl,hL⟩:=u.any ho I.free fun z=>(hch _ z).2.1 rfl
 exact I.step (ch:=ch) hch (fun b o hL hb hc e n=>u.keep b o e n (fun z=>(List.mem_cons.mp (I.stkSub b z)).elim hL hb) hc) (fun b o _ _ hc e n=>u.any e n hc) (fun b o hc e n=>u.free b o e n hc) (fun b o hc e=>u.there b o e hc) u.tups u.frzs u.tbls (fun m' hm=>by
  obtain⟨o',es',ep',ho',r'⟩:=hm
  rw[ho]at ho';cases ho'
  exact⟨_,es',ep',hL,r'⟩) hok hg
theorem Inv.turned{t':Nat}{it:Addr}(I:Inv X pins σ H s)(k:∀b o,b≠it→s.heap.get? b=some o→h'.get? b=some o)(hn:H it=none)(hL:it≠X.env.locals)
  (h1:it∈X.ex∨X.s₀.heap.objs.size≤it) (h2:∀x c,X.env.cells.lookup x=some c→c≠it) (h3:∀p∈X.pn++pins,p.1≠it):Inv X pins σ H {s with heap:=h',toks:=t' }:=by
 have nit:∀b u,H b=some u→b≠it:=fun b u e z=>by rw[z,hn]at e;cases e
 refine I.step (g':=s.gens) (d':=s.drawn) (ch:=[it]) (fun b hb=>?_) (fun b o _ _ hc e _=>k b o (fun z=>hc (by simp[z])) e) (fun b o _ _ hc e _=>⟨o.slots,k b o (fun z=>hc (by simp[z])) e⟩) (fun _ _ _ _ n=>n)
  (fun b o hc e=>⟨o,k b o (fun z=>hc (by simp[z])) e⟩) (fun _ _ e=>e) (fun _ _ _ e=>e) (fun _ _ e=>e) (fun m hm=>?_) (fun b u e=>?_) I.bare
 ·
  have e:b=it:=by simpa using hb
  subst e
  exact⟨h1,hL,h2,h3⟩
 ·
  obtain⟨o,es,ep,ho,r⟩:=hm
  exact⟨o,es,ep,k _ o (Ne.symm hL) ho,r⟩
 ·
  refine(I.hok b u e).stay (fun c v hc q=>k c v ?_ q) (fun _ q=>q) (fun _ _ q=>q) fun _ _ _ _ q=>q
  rcases hc with z|z
  ·
   rw[z];exact nit b u e
  ·
   exact nit c _ z
theorem Inv.tok(I:Inv X pins σ H s)(t:Nat):Inv X pins σ H {s with toks:=t}:=I.un (h':=s.heap) (t':=t) Un.refl I.hok
theorem Inv.kept{t':Nat}(I:Inv X pins σ H s)(k:∀b u,s.heap.get? b=some u→h'.get? b=some u):Inv X pins σ H {s with heap:=h',toks:=t' }:=I.un (Un.kept k) (I.hok.kept k)
theorem Inv.laid{a:Addr}{o:HO}{t':Nat}(I:Inv X pins σ H s)(k:∀b u,s.heap.get? b=some u→h'.get? b=some u)(hp:s.heap.objs.size≤a)(new:fU X.prog X.w (upd H a o) h' a o) :
  Inv X pins σ (upd H a o) {s with heap:=h',toks:=t' }:=I.un (Un.laid k hp (I.hok.fresh hp)) (I.hok.laid k hp new)
theorem Inv.write{x e:Addr}{o:HO}{t':Nat}(I:Inv X pins σ H s)(mu:Mut (H x))(he:e=x∨H e=some (.own x))(k:∀b u,b≠e→s.heap.get? b=some u→h'.get? b=some u)(heo:∃u,h'.get? e=some u)
  (new:fU X.prog X.w (upd H x o) h' x o):Inv X pins σ (upd H x o) {s with heap:=h',toks:=t' }:=I.un (Un.write mu he k heo) (I.hok.write mu he k heo new)
theorem Inv.pins_of{pins':List (Addr×Obj)}(I:Inv X pins σ H s)(h:∀p∈pins',s.heap.get? p.1=some p.2∧H p.1=none∧p.1≠X.env.locals∧p.1∉X.fs∧∀v,p.2.data≠.cell v):Inv X pins' σ H s :=
 ⟨I.ok,I.os,I.bare,I.base,I.loc,I.cell,I.free,I.freeC,fun p hp=>(List.mem_append.mp hp).elim (fun z=>I.pin p (List.mem_append_left _ z)) (h p),I.hok,I.len⟩
theorem yC{N:List Str}(hN:N.Nodup){i j:Nat}{x:Str}(a:N[i]?=some x)(b:N[j]?=some x):i=j:=by
 obtain⟨h1,e1⟩:=List.getElem?_eq_some_iff.mp a
 obtain⟨h2,e2⟩:=List.getElem?_eq_some_iff.mp b
 exact(List.getElem_inj hN).mp (e1.trans e2.symm)
theorem uJ{M:Model}{A:Around}{E:Value→Shared→Prop}{i:Nat}{x:Str}{v:V}{u:Value}{Q:Unit→Shared→Prop}(I:Inv X pins σ H s)(hN:X.N.Nodup)(hi:X.N[i]?=some x)(hx:Loc X.env.scope x)(r:RelV v u)
  (h:∀s',Inv X pins (σ.set i (some v)) H s'→(∃a,Heap.SameBut a s.heap s'.heap∧(a=X.env.locals∨X.env.cells.lookup x=some a))→Q () s') (hf:X.fn x=true∨X.env.scope.names.lookup x=some .local:=by first|exact .inl rfl|exact .inr rfl|assumption):wpAny M A (storeName X.env x u) Q E s:=by
 obtain⟨m,hn,hl⟩:=id I.loc
 have hcls:(X.env.scope.kind == .class ||(X.env.scope.kind == .module && X.env.locals != X.env.globals))=false:=by rw[I.ok.kind];rfl
 have hiσ:i<σ.length:=by rw[I.len];exact(List.getElem?_eq_some_iff.mp hi).1
 have cne:=I.cne
 have tracked:∀{a:Addr}{h':Heap},(∃o,s.heap.get? a=some o∧H a=none)→Heap.SameBut a s.heap h'→HOk X.prog X.w H h':=fun {a h'} ha hs b ob e=>by
  obtain⟨_,_,hfree⟩:=ha
  refine(I.hok b ob e).stay (fun c w' hc q=>(hs.2 c ?_).trans q) (fun _ q=>q) (fun _ _ q=>q) fun _ _ _ _ q=>q
  rintro rfl
  rcases hc with rfl|hc
  ·
   rw[hfree]at e;cases e
  ·
   rw[hfree]at hc;cases hc
 rcases hx with hk|hk
 ·
  refine wpAny_storeName_local hk hn (fun h' hn' hs=>?_) hcls
  obtain⟨oL,_,_,hoL,_⟩:=id hn
  refine h _ ⟨I.ok,I.os,I.bare,⟨fun b o e n hb hx=>?_,fun b o e n hb hx=>?_,I.base.free,fun b o e hx=>?_,I.base.tups,I.base.frzs,I.base.tbls⟩,⟨_,hn',fun j y v' e1 e2 e3=>?_⟩,fun y c e=>?_,I.free,I.freeC,fun p hp=>?_,tracked ⟨oL,hoL,I.free⟩ hs,by simpa using I.len⟩ ⟨_,hs,.inl rfl⟩
  ·
   exact(hs.2 b (Nat.ne_of_lt (Nat.lt_of_lt_of_le (Heap.lt_size e) I.ok.above))).trans (I.base.keep b o e n hb hx)
  ·
   obtain⟨sl,e1⟩:=I.base.slot b o e n hb hx
   exact⟨sl,(hs.2 b (Nat.ne_of_lt (Nat.lt_of_lt_of_le (Heap.lt_size e) I.ok.above))).trans e1⟩
  ·
   obtain⟨o',e1⟩:=I.base.there b o e hx
   exact⟨o',(hs.2 b (Nat.ne_of_lt (Nat.lt_of_lt_of_le (Heap.lt_size e) I.ok.above))).trans e1⟩
  ·
   by_cases hj:j=i
   ·
    subst hj
    rw[hi]at e1;cases e1
    rw[List.getElem?_set_self hiσ]at e2
    cases e2
    exact⟨u,r,.inl ⟨hk,by simp⟩⟩
   ·
    rw[List.getElem?_set_ne (Ne.symm hj)]at e2
    obtain⟨u',r',q⟩:=hl j y v' e1 e2 e3
    refine⟨u',r',?_⟩
    rcases q with⟨k,e⟩|⟨k,c,e,z⟩
    ·
     refine .inl ⟨k,?_⟩
     have:y≠x:=fun e=>hj (yC hN e1 (e ▸ hi))
     simp[this,e]
    ·
     exact .inr ⟨k,c,e,z.sameBut hs (cne y c e)⟩
  ·
   obtain⟨w',z⟩:=I.cell y c e
   exact⟨w',z.sameBut hs (cne y c e)⟩
  ·
   obtain⟨e,n,ne,nf,d⟩:=I.pin p hp
   exact⟨(hs.2 p.1 ne).trans e,n,ne,nf,d⟩
 ·
  have hfn:X.fn x=true:=by
   rcases hf with z|z
   ·
    exact z
   ·
    rw[z]at hk;cases hk
  obtain⟨c,hc⟩:=I.ok.has x (.inl hk)
  obtain⟨w',z⟩:=I.cell x c hc
  refine wpAny_storeName_cell I.ok.kind hk hc z (fun h' hc' hs=>?_)
  obtain⟨oc,hoc,hocd⟩:=id z
  refine h {s with heap:=h' } ⟨I.ok,I.os,I.bare,⟨fun b o e n hb hx=>?_,fun b o e n hb hx=>?_,I.base.free,fun b o e hx=>?_,I.base.tups,I.base.frzs,I.base.tbls⟩,⟨m,hn.sameBut hs (Ne.symm (cne x c hc)),fun j y v' e1 e2 e3=>?_⟩,fun y c' e=>?_,I.free,I.freeC,fun p hp=>?_,tracked ⟨oc,hoc,(I.freeC x c hc).resolve_right fun z=>by rw[hfn]at z;exact absurd z.1 (by decide)⟩ hs,by simpa using I.len⟩ ⟨c,hs,.inr hc⟩
  ·
   exact(hs.2 b (Nat.ne_of_lt (Nat.lt_of_lt_of_le (Heap.lt_size e) (I.ok.cab x c hfn hc)))).trans (I.base.keep b o e n hb hx)
  ·
   obtain⟨sl,e1⟩:=I.base.slot b o e n hb hx
   exact⟨sl,(hs.2 b (Nat.ne_of_lt (Nat.lt_of_lt_of_le (Heap.lt_size e) (I.ok.cab x c hfn hc)))).trans e1⟩
  ·
   obtain⟨o',e1⟩:=I.base.there b o e hx
   exact⟨o',(hs.2 b (Nat.ne_of_lt (Nat.lt_of_lt_of_le (Heap.lt_size e) (I.ok.cab x c hfn hc)))).trans e1⟩
  ·
   by_cases hj:j=i
   ·
    subst hj
    rw[hi]at e1;cases e1
    rw[List.getElem?_set_self hiσ]at e2
    cases e2
    exact⟨u,r,.inr ⟨.inl hk,c,hc,hc'⟩⟩
   ·
    rw[List.getElem?_set_ne (Ne.symm hj)]at e2
    obtain⟨u',r',q⟩:=hl j y v' e1 e2 e3
    refine⟨u',r',?_⟩
    rcases q with q|⟨k,c',e,z'⟩
    ·
     exact .inl q
    ·
     refine .inr ⟨k,c',e,z'.sameBut hs ?_⟩
     rintro rfl
     exact hj (yC hN e1 (I.ok.inj _ _ _ e hc ▸ hi))
  ·
   by_cases hcc:c'=c
   ·
    subst hcc;exact⟨_,hc'⟩
   ·
    obtain⟨w2,z2⟩:=I.cell y c' e
    exact⟨w2,z2.sameBut hs hcc⟩
  ·
   obtain⟨e,n,ne,nf,d⟩:=I.pin p hp
   refine⟨(hs.2 p.1 ?_).trans e,n,ne,nf,d⟩
   intro q
   rw[q,hoc]at e
   have q':oc=p.2:=Option.some.inj e
   exact d w' (by rw[← q'];exact hocd)
theorem oz{M:Model}{A:Around}{E:Value→Shared→Prop}{i:Nat}{x:Str}{v:V}{u:Value}{Q:Unit→Shared→Prop}(I:Inv X pins σ H s)(hN:X.N.Nodup)(hi:X.N[i]?=some x)(hx:Loc X.env.scope x)(r:RelV v u)
  (h:∀s',Inv X pins (σ.set i (some v)) H s'→Q () s') (hf:X.fn x=true∨X.env.scope.names.lookup x=some .local:=by first|exact .inl rfl|exact .inr rfl|assumption):wpAny M A (storeName X.env x u) Q E s :=
 uJ I hN hi hx r (fun s' I' _=>h s' I') hf
theorem Inv.call'{s':Shared}{ch:List Addr}(I:Inv X pins σ H s)(ho:s'.os=s.os)(u:Un (frs X.stack) ch H H' s.heap s'.heap)(hok:HOk X.prog X.w H' s'.heap)(hg:AllBare s'.gens)
  (hch:∀b∈ch,(b∈X.ex∨X.s₀.heap.objs.size≤b)∧b≠X.env.locals∧(∀x c,X.env.cells.lookup x=some c→c≠b)∧∀p∈X.pn++pins,p.1≠b):Inv X pins σ H' s':=by
 obtain⟨h',g',d',t',o'⟩:=s'
 have e:o'=s.os:=ho
 subst e
 exact I.call (g':=g') (t':=t') (d':=d') u hok hg hch
end
abbrev XK:=Value→Option Addr→Hp→Prop
abbrev St:=List (Option V)
abbrev VK:=V→Hp→Prop
abbrev TE:=St→Hp→VK→Prop
abbrev TT:=St→Hp→(Bool→Hp→Prop)→Prop
abbrev TA:=St→Hp→(List V→Hp→Prop)→Prop
structure Ends where
 nx:St→Hp→Prop
 rt:VK
 bk:St→Hp→Prop:=fun _ _=>False
 ct:St→Hp→Prop:=fun _ _=>False
abbrev TS:=Ends→St→Hp→Prop
def EP(X:Cx)(pins:List (Addr×Obj))(σ:St)(Q:VK)(u:Value)(s':Shared):Prop:=∃v H',Inv X pins σ H' s'∧RelV v u∧Q v H'
def TP(X:Cx)(pins:List (Addr×Obj))(σ:St)(Q:Bool→Hp→Prop)(b:Bool)(s':Shared):Prop:=∃H',Inv X pins σ H' s'∧Q b H'
def AP(X:Cx)(pins:List (Addr×Obj))(σ:St)(Q:List V→Hp→Prop)(us:List Value)(s':Shared):Prop:=∃vs H',Inv X pins σ H' s'∧Vals vs us∧Q vs H'
def SP(X:Cx)(pins:List (Addr×Obj))(D:Ends)(f:Flow)(s':Shared):Prop :=
 match f with
 |.next=>∃σ' H',Inv X pins σ' H' s'∧D.nx σ' H'
 |.brk=>∃σ' H',Inv X pins σ' H' s'∧D.bk σ' H'
 |.cont=>∃σ' H',Inv X pins σ' H' s'∧D.ct σ' H'
 |.ret u=>∃v σ' H',Inv X pins σ' H' s'∧RelV v u∧D.rt v H'
def PE(X:Cx)(e:Expr)(t:TE):Prop :=
 ∀(pins:List (Addr×Obj))(s:Shared)(σ:St)(H:Hp)(Q:VK),Inv X pins σ H s→t σ H Q→wpAny (model X.prog X.w) X.A (eval e X.env) (EP X pins σ Q) X.xe s
def PT(X:Cx)(e:Expr)(t:TT):Prop :=
 ∀(pins:List (Addr×Obj))(s:Shared)(σ:St)(H:Hp)(Q:Bool→Hp→Prop),Inv X pins σ H s→t σ H Q→wpAny (model X.prog X.w) X.A (isTrue e X.env (eval e X.env)) (TP X pins σ Q) X.xe s
def PA(X:Cx)(es:List Expr)(t:TA):Prop :=
 ∀(pos:Pos)(pins:List (Addr×Obj))(s:Shared)(σ:St)(H:Hp)(Q:List V→Hp→Prop),Inv X pins σ H s→t σ H Q→wpAny (model X.prog X.w) X.A (spliced (backTo pos (starEach es X.env))) (AP X pins σ Q) X.xe s
def PS(X:Cx)(st:Stmt)(t:TS):Prop :=
 ∀(pins:List (Addr×Obj))(s:Shared)(σ:St)(H:Hp)(D:Ends),Inv X pins σ H s→t D σ H→wpAny (model X.prog X.w) X.A (exec st X.env) (SP X pins D) X.xe s
def PSs(X:Cx)(st:List Stmt)(t:TS):Prop :=
 ∀(pins:List (Addr×Obj))(s:Shared)(σ:St)(H:Hp)(D:Ends),Inv X pins σ H s→t D σ H→wpAny (model X.prog X.w) X.A (execs st X.env) (SP X pins D) X.xe s
theorem thn{α:Type}{t:Sem α}{Q Q':α→Shared→Prop}{M:Model}{A:Around}{E:Value→Shared→Prop}{s:Shared}(h:wpAny M A t Q E s)(hQ:∀a s,Q a s→Q' a s):wpAny M A t Q' E s:=wpAny_mono h hQ fun _ _ x=>x
section
variable{X:Cx}
theorem bin{a b:Expr}{ta tb:TE}(ha:PE X a ta)(hb:PE X b tb){pins:List (Addr×Obj)}{s:Shared}{σ:St}{H:Hp}{R:V→V→Hp→Prop}(I:Inv X pins σ H s)(h:ta σ H fun x H1=>tb σ H1 fun y H2=>R x y H2)
  {α:Type} {Q:α→Shared→Prop} {f:Value→Value→Sem α}
  (hf:∀v u s2 x y H2,Inv X pins σ H2 s2→RelV x v→RelV y u→R x y H2→wpAny (model X.prog X.w) X.A (f v u) Q X.xe s2) :
  wpAny (model X.prog X.w) X.A (eval a X.env) (fun v s₁=>wpAny (model X.prog X.w) X.A (eval b X.env) (fun u s₂=>wpAny (model X.prog X.w) X.A (f v u) Q X.xe s₂) X.xe s₁) X.xe s:=by
 refine thn (ha pins s σ H _ I h) fun v s1 ⟨x,H1,I1,r1,q1⟩=>?_
 refine thn (hb pins s1 σ H1 _ I1 q1) fun u s2 ⟨y,H2,I2,r2,q2⟩=>?_
 exact hf v u s2 x y H2 I2 r1 r2 q2
def tVar(i:Nat):TE:=fun σ H Q=>∃v,σ[i]?=some (some v)∧Q v H
def tC(v:V):TE:=fun _ H Q=>Q v H
theorem ie{i:Nat}{x:Str}{pos:Pos}(hN:X.N[i]?=some x)(hv:Vis X.env.scope x) (hd:(x == ("__debug__" : Str))=false:=by decide) (hcd:(x == ("__classdict__" : Str))=false:=by decide):PE X (.Name x pos) (tVar i):=by
 intro pins s σ H Q I h
 obtain⟨v,e,h⟩:=h
 obtain⟨m,hn,hl⟩:=I.loc
 obtain⟨u,r,l⟩:=hl i x v hN e hv
 have fin:EP X pins σ Q u s:=⟨v,H,I,r,h⟩
 rcases l with⟨hk,hm⟩|⟨hk,c,hc,hcell⟩
 ·
  exact wpAny_Name (wpAny_loadName_local I.ok.kind hk hn hm fin) hd
 ·
  rcases hk with hk|hk
  ·
   exact wpAny_Name (wpAny_loadName_cell I.ok.kind hk hc hcell fin) hd
  ·
   exact wpAny_Name (wpAny_loadName_free I.ok.kind hk hc hcell fin hcd) hd
theorem HF {i j pos}:PE X (.Constant (.int i) j pos) (tC (.int i)):=fun _ _ _ H _ I h=>wpAny_Constant_int ⟨.int i,H,I.tok _,⟨_,rfl⟩,h⟩
theorem Jx {b j pos}:PE X (.Constant (.bool b) j pos) (tC (.bl b)):=fun _ _ _ H _ I h=>Constant_bool ⟨.bl b,H,I,rfl,h⟩
theorem HG {j pos}:PE X (.Constant .none j pos) (tC .non):=fun _ _ _ H _ I h=>Constant_none ⟨.non,H,I,rfl,h⟩
theorem Fi {x j pos}:PE X (.Constant (.str x) j pos) (tC (.str x)):=fun _ _ _ H _ I h=>Calls.Constant_str ⟨.str x,H,I.tok _,⟨_,rfl⟩,h⟩
def Gl(X:Cx)(x:Str):Prop:=X.env.kindOf x=some .globalImplicit
theorem wH{E:Value→Shared→Prop}{pins:List (Addr×Obj)}{s:Shared}{σ:St}{H:Hp}{x:Str}{u:Value}{pos:Pos}{Q:Value→Shared→Prop}(I:Inv X pins σ H s)(hg:Gl X x)(hm:X.mg x=some u)(h:Q u s)
  (hd:(x == ("__debug__" : Str))=false:=by decide):wpAny (model X.prog X.w) X.A (eval (.Name x pos) X.env) Q E s :=
 Calls.Name_function_global I.ok.kind hg (Calls.loadGlobal_global (by rw[I.ok.glob];exact I.mod.glob.keeps I.bk) hm h) hd
theorem nF{E:Value→Shared→Prop}{pins:List (Addr×Obj)}{s:Shared}{σ:St}{H:Hp}{x:Str}{u:Value}{pos:Pos}{Q:Value→Shared→Prop}(I:Inv X pins σ H s)(hg:Gl X x)(hm:X.mg x=none)(hv:bootBuiltins x=some u)(h:Q u s)
  (hn:x≠"__name__":=by decide) (hd:(x == ("__debug__" : Str))=false:=by decide):wpAny (model X.prog X.w) X.A (eval (.Name x pos) X.env) Q E s:=by
 obtain⟨mb,h1,h2⟩:=I.mod.blt
 exact Calls.Name_function_global I.ok.kind hg (Calls.loadGlobal_builtin (by rw[I.ok.glob];exact I.mod.glob.keeps I.bk) hm (by rw[I.ok.blt];exact h1.keeps I.bk) ((h2 x hn).trans hv) h) hd
theorem FJ{x:Str}{v:V}{u:Value}{pos:Pos}(hg:Gl X x)(hm:X.mg x=some u)(r:RelV v u) (hd:(x == ("__debug__" : Str))=false:=by decide):PE X (.Name x pos) (tC v) :=
 fun _ _ _ H _ I h=>wH I hg hm ⟨v,H,I,r,h⟩ hd
theorem FK{x:Str}{v:V}{u:Value}{pos:Pos}(hg:Gl X x)(hm:X.mg x=none)(hv:bootBuiltins x=some u)(r:RelV v u) (hn:x≠"__name__":=by decide) (hd:(x == ("__debug__" : Str))=false:=by decide):PE X (.Name x pos) (tC v) :=
 fun _ _ _ H _ I h=>nF I hg hm hv ⟨v,H,I,r,h⟩ hn hd
variable{a b:Expr}{ta tb:TE}{pos:Pos}
def tB(t:TE):TT:=fun σ H Q=>t σ H fun x H1=>∃c,x=.bl c∧Q c H1
end
def SqL(K:PySem.W.Frag)(H:Hp)(a:Addr)(xs:List V):Prop :=
 Rd H a (.lst xs) ∨
  ∃(o:Obj)(its:Array Value)(n:Nat),K.lookup a=some o∧o.cls=.type "list"∧o.dict=none∧o.data=.seq its n∧its.size≤sizeLine∧Vals xs its.toList
def SqT(K:PySem.W.Frag)(H:Hp)(a:Addr)(xs:List V):Prop :=
 Rd H a (.tup xs) ∨
  ∃(o:Obj)(its:Array Value)(n:Nat),K.lookup a=some o∧o.cls=.type "tuple"∧o.data=.seq its n∧its.size≤sizeLine∧Vals xs its.toList
def absV:Value→Option V
 |.none=>some .non
 |.bool b=>some (.bl b)
 |.int i _=>some (.int i)
 |.str x _=>some (.str x)
 |.bytes b _=>some (.byt b)
 |.float b _=>some (.flt b)
 |.ref a=>some (.ref a)
 |.type n=>some (.ty n)
 |_=>none
theorem RelV.abs{x:V}{u:Value}(r:RelV x u):absV u=some x:=by
 cases x with
 |non=>cases r;rfl
 |bl _=>cases r;rfl
 |int _=>obtain⟨t,rfl⟩:=r;rfl
 |str _=>obtain⟨t,rfl⟩:=r;rfl
 |byt _=>obtain⟨t,rfl⟩:=r;rfl
 |flt _=>obtain⟨t,rfl⟩:=r;rfl
 |ref _=>cases r;rfl
 |ty _=>cases r;rfl
theorem RelV.inj{x y:V}{u:Value}(r:RelV x u)(q:RelV y u):x=y:=Option.some.inj (r.abs.symm.trans q.abs)
theorem Vals.inj:∀{xs ys:List V}{us:List Value},Vals xs us→Vals ys us→xs=ys
 |_,_,_,.nil,.nil=>rfl
 |_,_,_,.cons r t,.cons r' t'=>by rw[r.inj r',Vals.inj t t']
section
variable{X:Cx}{pins:List (Addr×Obj)}{σ:St}{H:Hp}{s:Shared}{a:Addr}{xs ys:List V}
theorem SqL.of{K:PySem.W.Frag}(h:H a=some (.lst xs)):SqL K H a xs:=.inl (.inl h)
theorem SqT.of{K:PySem.W.Frag}(h:H a=some (.tup xs)):SqT K H a xs:=.inl (.inl h)
theorem Inv.list(I:Inv X pins σ H s)(h:SqL X.K H a xs):∃its:List Value,Vals xs its∧PlainL s.heap a its.toArray∧xs.length≤sizeLine:=by
 rcases h with h|⟨o,its,n,hk,hc,hd,hs,hz,r⟩
 ·
  obtain⟨z,its,n,r,e⟩:=h.ok I.hok
  exact⟨its,r,⟨_,n,e,rfl,rfl,rfl⟩,z⟩
 ·
  refine⟨its.toList,r,⟨o,n,I.kIn a o hk,hc,hd,by simpa using hs⟩,?_⟩
  have e:=r.length
  simp only[Array.length_toList]at e
  omega
theorem Inv.tuple(I:Inv X pins σ H s)(h:SqT X.K H a xs):∃its:List Value,Vals xs its∧IsTup s.heap a its.toArray∧xs.length≤sizeLine:=by
 rcases h with h|⟨o,its,n,hk,hc,hs,hz,r⟩
 ·
  obtain⟨z,its,r,p⟩:=h.ok I.hok
  exact⟨its,r,p,z⟩
 ·
  refine⟨its.toList,r,⟨o,I.kIn a o hk,hc,n,by simpa using hs⟩,?_⟩
  have e:=r.length
  simp only[Array.length_toList]at e
  omega
theorem Inv.list_inj(I:Inv X pins σ H s)(h:SqL X.K H a xs)(h':SqL X.K H a ys):xs=ys:=by
 obtain⟨its,r,⟨o,n,e,_,_,d⟩,_⟩:=I.list h
 obtain⟨its',r',⟨o',n',e',_,_,d'⟩,_⟩:=I.list h'
 rw[e]at e';cases e'
 rw[d]at d'
 injection d' with d1 _
 have:its=its':=by simpa using congrArg Array.toList d1
 subst this
 exact r.inj r'
theorem Inv.tuple_inj(I:Inv X pins σ H s)(h:SqT X.K H a xs)(h':SqT X.K H a ys):xs=ys:=by
 obtain⟨its,r,⟨o,e,_,n,d⟩,_⟩:=I.tuple h
 obtain⟨its',r',⟨o',e',_,n',d'⟩,_⟩:=I.tuple h'
 rw[e]at e';cases e'
 rw[d]at d'
 injection d' with d1 _
 have:its=its':=by simpa using congrArg Array.toList d1
 subst this
 exact r.inj r'
end
abbrev Cx.wish(X:Cx)(E:Value→Shared→Prop):Cx:={X with xe:=E}
abbrev Cx.nox(X:Cx):Cx:=X.wish fun _ _=>False
theorem Cx.Ok.wish{X:Cx}(ok:X.Ok)(E:Value→Shared→Prop):(X.wish E).Ok :=
 ⟨ok.mod,ok.kind,ok.glob,ok.blt,ok.above,ok.inj,ok.has,ok.cab,ok.hd,ok.frames,ok.stk,ok.exf,ok.bs,ok.bsz,ok.noex,ok.exfs,ok.funs,ok.frf,ok.tbs⟩
theorem Cx.Ok.unwish{X:Cx}{E:Value→Shared→Prop}(ok:(X.wish E).Ok):X.Ok :=
 ⟨ok.mod,ok.kind,ok.glob,ok.blt,ok.above,ok.inj,ok.has,ok.cab,ok.hd,ok.frames,ok.stk,ok.exf,ok.bs,ok.bsz,ok.noex,ok.exfs,ok.funs,ok.frf,ok.tbs⟩
section
variable{X:Cx}{pins:List (Addr×Obj)}{σ:St}{H:Hp}{s:Shared}{E:Value→Shared→Prop}
theorem Inv.wish(I:Inv X pins σ H s)(E:Value→Shared→Prop):Inv (X.wish E) pins σ H s:=⟨I.ok.wish E,I.os,I.bare,I.base,I.loc,I.cell,I.free,I.freeC,I.pin,I.hok,I.len⟩
theorem Inv.unwish(I:Inv (X.wish E) pins σ H s):Inv X pins σ H s:=⟨I.ok.unwish,I.os,I.bare,I.base,I.loc,I.cell,I.free,I.freeC,I.pin,I.hok,I.len⟩
theorem SP.unwish{D:Ends}{f:Flow}{s':Shared}(h:SP (X.wish E) pins D f s'):SP X pins D f s':=by
 cases f with
 |next=>obtain⟨σ',H',I,q⟩:=h;exact⟨σ',H',I.unwish,q⟩
 |brk=>obtain⟨σ',H',I,q⟩:=h;exact⟨σ',H',I.unwish,q⟩
 |cont=>obtain⟨σ',H',I,q⟩:=h;exact⟨σ',H',I.unwish,q⟩
 |ret u=>obtain⟨v,σ',H',I,r,q⟩:=h;exact⟨v,σ',H',I.unwish,r,q⟩
theorem PSs.nox{st:List Stmt}{t:TS}(h:PSs X.nox st t):PSs X st t:=fun pins s σ H D I hw =>
 wpAny_mono (h pins s σ H D (I.wish _) hw) (fun _ _ q=>q.unwish) fun _ _ z=>False.elim z
end
section
variable{X:Cx}
theorem Inv.quiet{pins:List (Addr×Obj)}{σ:St}{H:Hp}{s:Shared}(I:Inv X pins σ H s):interactive X.env=false:=by simp[interactive,I.ok.kind]
end
abbrev TG:=V→St→Hp→(St→Hp→Prop)→Prop
abbrev TGs:=List V→St→Hp→(St→Hp→Prop)→Prop
def PG(X:Cx)(target:Expr)(t:TG):Prop :=
 ∀(pins:List (Addr×Obj))(s:Shared)(σ:St)(H:Hp)(v:V)(u:Value)(Q:St→Hp→Prop),Inv X pins σ H s→RelV v u→t v σ H Q →
  wpAny (model X.prog X.w) X.A (assign target X.env u) (fun _ s'=>∃σ' H',Inv X pins σ' H' s'∧Q σ' H') X.xe s
def PGs(X:Cx)(ts:List Expr)(t:TGs):Prop :=
 ∀(pins:List (Addr×Obj))(s:Shared)(σ:St)(H:Hp)(vs:List V)(us:List Value)(Q:St→Hp→Prop),Inv X pins σ H s→Vals vs us→t vs σ H Q →
  wpAny (model X.prog X.w) X.A (assignInOrder ((assignEach ts X.env).map (·.2)) us) (fun _ s'=>∃σ' H',Inv X pins σ' H' s'∧Q σ' H') X.xe s
abbrev TSet:=V→V→V→Hp→(Hp→Prop)→Prop
def PSet(X:Cx)(t:TSet):Prop :=
 ∀(pins:List (Addr×Obj))(s:Shared)(σ:St)(H:Hp)(o i v:V)(ov iv u:Value)(Q:Hp→Prop),Inv X pins σ H s→RelV o ov→RelV i iv→RelV v u→t o i v H Q →
  wpAny (model X.prog X.w) X.A (setItem ov iv u) (fun _ s'=>∃H',Inv X pins σ H' s'∧Q H') X.xe s
section
variable{X:Cx}{pos:Pos}
def Jy(i:Nat):TG:=fun v σ H Q=>Q (σ.set i (some v)) H
theorem rV{i:Nat}{x:Str}(hN:X.N.Nodup)(hi:X.N[i]?=some x)(hx:Loc X.env.scope x)(hf:X.fn x=true∨X.env.scope.names.lookup x=some .local:=by first|exact .inl rfl|exact .inr rfl|assumption):PG X (.Name x pos) (Jy i):=by
 intro pins s σ H v u Q I r h
 exact wpAny_assign_Name (oz I hN hi hx r (fun s' I'=>⟨_,H,I',h⟩) hf)
def gNil:TGs:=fun vs σ H Q=>vs=[]∧Q σ H
def Jz(t:TG)(u:TGs):TGs:=fun vs σ H Q=>∃v r,vs=v::r∧t v σ H fun σ' H'=>u r σ' H' Q
theorem AL:PGs X [] gNil:=by
 intro pins s σ H vs us Q I r h
 obtain⟨e,h⟩:=h
 subst e
 cases r
 exact assignInOrder_nil ⟨σ,H,I,h⟩
theorem yD{e:Expr}{es:List Expr}{t:TG}{u:TGs}(h1:PG X e t)(h2:PGs X es u)
  (hs:(assignEach (e::es) X.env).map (·.2)=assign e X.env::(assignEach es X.env).map (·.2):=by rfl):PGs X (e::es) (Jz t u):=by
 intro pins s σ H vs us Q I r h
 obtain⟨v,vr,e1,h⟩:=h
 subst e1
 cases r with
 | cons r rr =>
  rw[hs]
  refine assignInOrder_cons (thn (h1 pins s σ H _ _ _ I r h) fun _ s1 ⟨σ1,H1,I1,q1⟩=>?_)
  exact h2 pins s1 σ1 H1 _ _ Q I1 rr q1
def gTup(K:PySem.W.Frag)(n:Nat)(t:TGs):TG:=fun v σ H Q=>∃a xs,v=.ref a∧SqT K H a xs∧xs.length=n∧t xs σ H Q
theorem Fj{es:List Expr}{k:Nat}{t:TGs}{n:Nat}(hc:X.calm=true)(h:PGs X es t)
  (hn:(assignEach es X.env).length=n:=by rfl) (hst:(assignEach es X.env).findIdx? (·.1)=none:=by rfl):PG X (.Tuple es k pos) (gTup X.K n t):=by
 intro pins s σ H v u Q I r hw
 obtain⟨a,xs,e1,hq,hl,hw⟩:=hw
 subst e1
 cases r
 obtain⟨its,rv,ht,hz⟩:=I.tuple hq
 refine assign_Tuple_tuple (I.ok.hd hc) ht (by simp[hn,← hl,rv.length]) hst fun h' hx=>?_
 have I1:Inv X pins σ H {s with heap:=h' }:=I.kept (t':=s.toks) fun b o e=>hx b o (Nat.ne_of_lt (Heap.lt_size e)) e
 exact h pins _ σ H xs _ Q I1 (by simpa using rv) hw
def gSub(to ti:TE)(t:TSet):TG:=fun v σ H Q=>to σ H fun o H1=>ti σ H1 fun i H2=>t o i v H2 fun H3=>Q σ H3
theorem HH{o i:Expr}{to ti:TE}{t:TSet}(ho:PE X o to)(hi:PE X i ti)(hs:PSet X t)
  (ha:∀v,assign (.Subscript o i pos) X.env v=(do
   let ov ← holding [v] (eval o X.env)
   let iv ← holding [v,ov] (eval i X.env)
   standAt pos
   holding [v,ov,iv] (setItem ov iv v)
   release [v,ov,iv] []):=by intro _;rfl):PG X (.Subscript o i pos) (gSub to ti t):=by
 intro pins s σ H v u Q I r h
 rw[ha]
 refine wpAny_bind (wpAny_holding (thn (ho pins s σ H _ I h) fun ov s1 ⟨x,H1,I1,r1,q1⟩=>?_))
 refine wpAny_bind (wpAny_holding (thn (hi pins s1 σ H1 _ I1 q1) fun iv s2 ⟨y,H2,I2,r2,q2⟩=>?_))
 refine wpAny_bind (wpAny_standAt (wpAny_bind (wpAny_holding (thn (hs pins s2 σ H2 x y v ov iv u _ I2 r1 r2 r q2) fun _ s3 ⟨H3,I3,q3⟩=>?_))))
 exact wpAny_release ⟨σ,H3,I3,q3⟩
def tAsg(te:TE)(g:TG):TS:=fun D σ H=>te σ H fun x H1=>g x σ H1 D.nx
theorem HI{tg e:Expr}{te:TE}{g:TG}(he:PE X e te)(hg:PG X tg g)(hs:swapsWithSole [tg] e pos.line X.env=pure false:=by rfl)(hw:swappedStores [tg] e X.env=pure none:=by rfl)
  (h1:(assignEach [tg] X.env).map (·.2)=[assign tg X.env]:=by rfl):PS X (.Assign [tg] e pos) (tAsg te g):=by
 intro pins s σ H D I h
 refine wpAny_Assign_stores (thn (he pins s σ H _ I h) fun v s1 ⟨x,H1,I1,r1,q1⟩=>?_) hs hw
 rw[h1]
 exact thn (hg pins s1 σ H1 x v _ I1 r1 q1) fun _ s2 q=>q
def tPar(i j:Nat)(ta:TA):TS:=fun D σ H=>ta σ H fun vs H1=>∃v w,vs=[v,w]∧D.nx ((σ.set i (some v)).set j (some w)) H1
theorem HJ{i j:Nat}{x y:Str}{a b:Expr}{ta:TA}{px py pt:Pos} {kt k2 pt2} (hc:X.calm=true) (hN:X.N.Nodup) (hi:X.N[i]?=some x) (hj:X.N[j]?=some y) (hij:i≠j)
  (hx:X.env.scope.names.lookup x=some .local) (hy:X.env.scope.names.lookup y=some .local) (ha:PA X [a,b] ta)
  (hw:swappedStores [.Tuple [.Name x px,.Name y py] kt pt] (.Tuple [a,b] k2 pt2) X.env=pure (some [x,y]))
  (hs:swapsWithSole [.Tuple [.Name x px,.Name y py] kt pt] (.Tuple [a,b] k2 pt2) pos.line X.env=pure false:=by rfl) :
  PS X (.Assign [.Tuple [.Name x px,.Name y py] kt pt] (.Tuple [a,b] k2 pt2) pos) (tPar i j ta):=by
 intro pins s σ H D I h
 rw[exec_Assign_arm]
 refine wpAny_bind (wpAny_standAt ?_)
 rw[hs]
 refine wpAny_bind (wpAny_pure ?_)
 rw[if_neg (by decide)]
 refine wpAny_bind (Tuple_ (thn (ha _ pins s σ H _ I h) fun us s1 ⟨vs,H1,I1,r1,q1⟩=>?_))
 obtain⟨v,w,e1,q1⟩:=q1
 subst e1
 obtain⟨u1,u2,rfl,rv,rw'⟩:∃u1 u2,us=[u1,u2]∧RelV v u1∧RelV w u2:=by
  cases r1 with
  | cons p q =>
   cases q with
   | cons p' q' =>
    cases q'
    exact⟨_,_,rfl,p,p'⟩
 refine wpAny_newObj_type ?_ (by show 2≤sizeLine;decide)
 have I2:Inv X pins σ H1 {s1 with heap:=s1.heap.push {cls:=.type "tuple",data:=.seq [u1,u2].toArray} }:=I1.kept (t':=s1.toks) fun b o e=>Heap.get?_push_of_some _ e
 rw[hw]
 refine wpAny_bind (wpAny_pure ?_)
 show wpAny (model X.prog X.w) X.A (do rule "assign.swapped-stores"; let items ← unpackItems (.ref s1.heap.objs.size) 2 none; assignInOrder [fun v=>bindName X.env y v,fun v=>bindName X.env x v] items.reverse; pure Flow.next) _ _ _
 refine wpAny_bind (wpAny_rule (wpAny_bind (unpackItems_tuple (items:=#[u1,u2]) (I.ok.hd hc) (IsTup.new s1.heap _) fun h' hx'=>?_)))
 have I3:=I2.kept (h':=h') (t':=s1.toks) fun b o e=>hx' b o (Nat.ne_of_lt (Heap.lt_size e)) e
 show wpAny _ _ (assignInOrder [fun v=>bindName X.env y v,fun v=>bindName X.env x v] [u2,u1] >>= fun _=>pure Flow.next) _ _ _
 refine wpAny_bind (assignInOrder_cons (wpAny_bindName (oz I3 hN hj (.inl hy) rw' (fun s2 I4=>?_) (.inr hy))))
 refine assignInOrder_cons (wpAny_bindName (oz I4 hN hi (.inl hx) rv (fun s3 I5=>assignInOrder_nil (wpAny_pure ?_)) (.inr hx)))
 rw[List.set_comm _ _ (Ne.symm hij)]at I5
 exact⟨_,H1,I5,q1⟩
end
section
variable{X:Cx}{pos:Pos}
def HK(c:TT)(tb:TS):TS:=fun D σ H=>∃W:Nat→St→Hp→Prop,(∃m,W m σ H)∧∀m σ H,W m σ H →
 c σ H fun b H1=>if b=true then ∃N:St→Hp→Prop,(∀σ' H',N σ' H'→∃m',m' < m∧W m' σ' H')∧tb {D with nx:=N,ct:=N,bk:=D.nx} σ H1 else D.nx σ H1
theorem Dk{c:Expr}{body:List Stmt}{tc:TT}{tb:TS}(hp:PassesOwn (model X.prog X.w) X.A X.env X.xe)(hc:PT X c tc)(hb:PSs X body tb):PS X (.While c body [] pos) (HK tc tb):=by
 intro pins s σ H D I h
 obtain⟨W,⟨m0,w0⟩,turn⟩:=h
 refine wpAny_While (codeAny_whileLoop (fun n s'=>∃σ' H',Inv X pins σ' H' s'∧W n σ' H') ?_ m0 ⟨σ,H,I,w0⟩)
 rintro n s1 ⟨σ1,H1,I1,w1⟩
 refine wpAny_passesOwn hp (thn (hc pins s1 σ1 H1 _ I1 (turn n σ1 H1 w1)) fun b s2 ⟨H2,I2,q2⟩=>?_)
 cases b with
 | true =>
  obtain⟨N,hN,q2⟩:=q2
  rw[if_pos rfl]
  refine wpAny_passesOwn hp (thn (hb pins s2 σ1 H2 _ I2 q2) fun f s3 q3=>?_)
  cases f with
  | next =>
   obtain⟨σ3,H3,I3,n3⟩:=q3
   obtain⟨m',hm,w3⟩:=hN σ3 H3 n3
   exact⟨m',hm,σ3,H3,I3,w3⟩
  | cont =>
   obtain⟨σ3,H3,I3,n3⟩:=q3
   obtain⟨m',hm,w3⟩:=hN σ3 H3 n3
   exact⟨m',hm,σ3,H3,I3,w3⟩
  |brk=>exact q3
  |ret v=>exact q3
 | false =>
  rw[if_neg Bool.false_ne_true]
  exact wpAny_execs_nil ⟨σ1,H2,I2,q2⟩
end
structure It where
 go:Nat→Hp→Prop
 yld:Nat→Hp→V→Hp→Prop
 stop:Nat→Hp→Prop
def FpOk(X:Cx)(pins:List (Addr×Obj))(H:Hp)(b:Addr):Prop :=
 H b=none∧b≠X.env.locals∧b∉X.fs∧(b∈X.ex∨X.s₀.heap.objs.size≤b)∧(∀x c,X.env.cells.lookup x=some c→c≠b)∧∀p∈X.pn++pins,p.1≠b
theorem Inv.fpOk{X:Cx}{pins:List (Addr×Obj)}{σ:St}{H H':Hp}{s:Shared}{b:Addr}(I:Inv X pins σ H s)(hb:s.heap.objs.size≤b)(hn:H' b=none):FpOk X pins H' b:=by
 refine⟨hn,Nat.ne_of_gt (Nat.lt_of_lt_of_le I.lt hb),I.nofs hb,.inr (Nat.le_trans I.sz hb),fun x c e z=>?_,fun p hp z=>?_⟩
 ·
  obtain⟨v,q⟩:=I.cell x c e
  exact absurd (Nat.lt_of_lt_of_le q.lt (by rw[z];exact hb)) (Nat.lt_irrefl _)
 ·
  exact absurd (Nat.lt_of_lt_of_le (Heap.lt_size (I.pin p hp).1) (by rw[z];exact hb)) (Nat.lt_irrefl _)
structure Turn (P:Program) (w:World) (K:PySem.W.Frag) (tg:Expr) (J:It) (fp:List Addr) (it:Addr) (tn:Nat→Heap→Prop):Prop where
 mem:it∈fp
 obj:∀i h,tn i h→∀b∈fp,∃o,h.get? b=some o∧∀v,o.data≠.cell v
 keep:∀i h h',tn i h→(∀b∈fp,∀o,h.get? b=some o→h'.get? b=some o)→tn i h'
 item:∀(X:Cx),X.prog=P→X.w=w→X.K=K→X.calm=true→∀(i:Nat)(pins:List (Addr×Obj))(s:Shared)(σ:St)(H:Hp)(E:Value→Shared→Prop),Inv X pins σ H s→(∀b∈fp,FpOk X pins H b)→tn i s.heap→J.go i H →
  wpAny (model P w) X.A (pyNext (.ref it)) (fun r s1=>∃u,r=some u ∧
   wpAny (model P w) X.A (letOwnedTupleGo tg (.ref it) u) (fun _ s2=>∃x H',Inv X pins σ H' s2∧RelV x u∧J.yld i H x H'∧tn (i+1) s2.heap∧∀b∈fp,H' b=none) E s1) E s
 done:∀(X:Cx),X.prog=P→X.w=w→X.K=K→X.calm=true→∀(i:Nat)(pins:List (Addr×Obj))(s:Shared)(σ:St)(H:Hp)(E:Value→Shared→Prop),Inv X pins σ H s→(∀b∈fp,FpOk X pins H b)→tn i s.heap→J.stop i H →
  wpAny (model P w) X.A (pyNext (.ref it)) (fun r s1=>r=none∧Inv X pins σ H s1) E s
 self:∀(A:Around)(i:Nat)(s:Shared)(Q:Value→Shared→Prop)(E:Value→Shared→Prop),tn i s.heap→Q (.ref it) s→wpAny (model P w) A (pyIter (.ref it)) Q E s
abbrev TI:=St→Hp→(It→Hp→Prop)→Prop
def PIE(X:Cx)(pins:List (Addr×Obj))(σ:St)(tg:Expr)(R:It→Hp→Prop)(itv:Value)(s2:Shared):Prop :=
 ∃(it:Addr)(fp:List Addr)(tn:Nat→Heap→Prop)(J:It)(H':Hp),itv=.ref it∧Inv X pins σ H' s2∧Turn X.prog X.w X.K tg J fp it tn∧tn 0 s2.heap∧(∀b∈fp,FpOk X pins H' b)∧R J H'
def PI(X:Cx)(tg iter:Expr)(wi:TI):Prop :=
 ∀(pins:List (Addr×Obj))(s:Shared)(σ:St)(H:Hp)(R:It→Hp→Prop),Inv X pins σ H s→wi σ H R →
  wpAny (model X.prog X.w) X.A (eval iter X.env) (fun v s1=>wpAny (model X.prog X.w) X.A (pyIter v) (PIE X pins σ tg R) X.xe s1) X.xe s
theorem FL {M : Model} {A : Around} {E : Value → Shared → Prop} {s : Shared} {tg : Expr} {it : Addr} {u : Value} {o : Obj} {n : String} {vs : Array Value} {Q : Unit → Shared → Prop} (ho : s.heap.get? it = some o) (hc : o.cls = .type n) (hd : o.data = .fields vs)
    (hn : ["enumerate", "zip", "dict_itemiterator", "dict_reverseitemiterator", "odict_iterator", "itertools.zip_longest", "itertools.pairwise"].contains n = false) (hQ : Q () s) : wpAny M A (letOwnedTupleGo tg (.ref it) u) Q E s := by
  unfold letOwnedTupleGo
  cases tg<;>first
    |exact wpAny_pure hQ
    | (cases u<;>first
        |exact wpAny_pure hQ
        | (refine wpAny_bind (wpAny_load ho ?_)
           rw[hc, hd]
           show wpAny M A (if(["enumerate", "zip", "dict_itemiterator", "dict_reverseitemiterator", "odict_iterator", "itertools.zip_longest", "itertools.pairwise"].contains n && vs[0]? == some (rawInt _)) = true then _ else _) Q E s
           rw[if_neg (by intro h;rw[hn, Bool.false_and]at h;cases h)]
           exact wpAny_pure hQ))
def Itl(K:PySem.W.Frag)(a:Addr):It :=
 ⟨fun i H=>∃xs x,SqL K H a xs∧xs[i]?=some x,fun i H x H'=>H'=H∧∀xs,SqL K H a xs→xs[i]?=some x,fun i H=>∃xs,SqL K H a xs∧xs.length≤i⟩
def Itt(K:PySem.W.Frag)(a:Addr):It :=
 ⟨fun i H=>∃xs x,SqT K H a xs∧xs[i]?=some x,fun i H x H'=>H'=H∧∀xs,SqT K H a xs→xs[i]?=some x,fun i H=>∃xs,SqT K H a xs∧xs.length≤i⟩
def Itr(lo:Int)(n:Nat):It:=⟨fun i _=>i<n,fun i H x H'=>H'=H∧x=.int (lo+i),fun i _=>n≤i⟩
theorem AM{P:Program}{w:World}{K:PySem.W.Frag}{tg:Expr}(a it:Addr):Turn P w K tg (Itl K a) [it] it (fun i h=>h.IsListIter it a i) where
 mem:=by simp
 obj:=fun i h st b hb=>by
  have e:b=it:=by simpa using hb
  subst e
  obtain⟨o,e,c,d⟩:=st
  exact⟨o,e,fun v z=>by rw[d]at z;cases z⟩
 keep:=fun i h h' st k=>st.at fun o e=>k it (by simp) o e
 item:=by
  intro X hP hw hK hc i pins s σ H E I hf st hg
  subst hP hw hK
  obtain⟨xs,x,hq,hx⟩:=hg
  obtain⟨its,rv,p,hz⟩:=I.list hq
  obtain⟨u,hu,ru⟩:=rv.get hx
  obtain⟨f0,f1,f2,f3,f4,f5⟩:=hf it (by simp)
  refine wpAny_pyNext_list_item st p.isList (x:=u) (by simpa using hu) fun h' st' sb=>?_
  have I1:Inv X pins σ H {s with heap:=h' }:=I.turned (t':=s.toks) (fun b o hb e=>(sb.2 b hb).trans e) f0 f1 f3 f4 f5
  obtain⟨o,e,c,d⟩:=id st'
  exact⟨u,rfl,FL (s:={s with heap:=h' }) e c d (by decide) ⟨x,H,I1,ru,⟨rfl,fun ys hy=>by rw[I.list_inj hy hq];exact hx⟩,st',fun b hb=>(hf b hb).1⟩⟩
 done:=by
  intro X hP hw hK hc i pins s σ H E I hf st hg
  subst hP hw hK
  obtain⟨xs,hq,hx⟩:=hg
  obtain⟨its,rv,p,hz⟩:=I.list hq
  obtain⟨f0,f1,f2,f3,f4,f5⟩:=hf it (by simp)
  have hl:=rv.length
  exact wpAny_pyNext_list_end (I.ok.hd hc) st p.isList (by simp;omega) fun h' eb=>⟨rfl,I.turned (t':=s.toks) (fun b o hb e=>eb b o hb e) f0 f1 f3 f4 f5⟩
 self:=fun _ _ _ _ _ st h=>wpAny_pyIter_listiter st h
theorem zG{P:Program}{w:World}{K:PySem.W.Frag}{tg:Expr}(a it:Addr):Turn P w K tg (Itt K a) [it] it (fun i h=>h.IsTupleIter it a i) where
 mem:=by simp
 obj:=fun i h st b hb=>by
  have e:b=it:=by simpa using hb
  subst e
  obtain⟨o,e,c,d⟩:=st
  exact⟨o,e,fun v z=>by rw[d]at z;cases z⟩
 keep:=fun i h h' st k=>st.at fun o e=>k it (by simp) o e
 item:=by
  intro X hP hw hK hc i pins s σ H E I hf st hg
  subst hP hw hK
  obtain⟨xs,x,hq,hx⟩:=hg
  obtain⟨its,rv,p,hz⟩:=I.tuple hq
  obtain⟨u,hu,ru⟩:=rv.get hx
  obtain⟨f0,f1,f2,f3,f4,f5⟩:=hf it (by simp)
  refine wpAny_pyNext_tuple_item st (show s.heap.IsTuple a its.toArray from p) (x:=u) (by simpa using hu) fun h' st' sb=>?_
  have I1:Inv X pins σ H {s with heap:=h' }:=I.turned (t':=s.toks) (fun b o hb e=>(sb.2 b hb).trans e) f0 f1 f3 f4 f5
  obtain⟨o,e,c,d⟩:=id st'
  exact⟨u,rfl,FL (s:={s with heap:=h' }) e c d (by decide) ⟨x,H,I1,ru,⟨rfl,fun ys hy=>by rw[I.tuple_inj hy hq];exact hx⟩,st',fun b hb=>(hf b hb).1⟩⟩
 done:=by
  intro X hP hw hK hc i pins s σ H E I hf st hg
  subst hP hw hK
  obtain⟨xs,hq,hx⟩:=hg
  obtain⟨its,rv,p,hz⟩:=I.tuple hq
  obtain⟨f0,f1,f2,f3,f4,f5⟩:=hf it (by simp)
  have hl:=rv.length
  exact wpAny_pyNext_tuple_end (I.ok.hd hc) st (show s.heap.IsTuple a its.toArray from p) (by simp;omega) fun h' eb=>⟨rfl,I.turned (t':=s.toks) (fun b o hb e=>eb b o hb e) f0 f1 f3 f4 f5⟩
 self:=fun _ _ _ _ _ st h=>wpAny_pyIter_tupleiter st h
theorem zH{P:Program}{w:World}{K:PySem.W.Frag}{tg:Expr}(it:Addr)(lo:Int)(n:Nat):Turn P w K tg (Itr lo n) [it] it (fun i h=>IsRangeIter h it (lo+(i:Nat)*1) ((n:Int)-(i:Nat)) 1) where
 mem:=by simp
 obj:=fun i h st b hb=>by
  have e:b=it:=by simpa using hb
  subst e
  exact⟨_,st,fun v z=>by
   have z':Data.fields _=Data.cell v:=z
   cases z'⟩
 keep:=fun i h h' st k=>k it (by simp) _ st
 item:=by
  intro X hP hw hK hc i pins s σ H E I hf st hg
  subst hP hw hK
  obtain⟨f0,f1,f2,f3,f4,f5⟩:=hf it (by simp)
  have W:=Walks.range (prog:=X.prog) (w:=X.w) (I.ok.hd hc) it lo 1 n
  refine W.item i s _ _ hg st fun v h' tk hv st' kk=>?_
  obtain⟨t,rfl⟩:=hv
  have I1:Inv X pins σ H {s with heap:=h',toks:=tk}:=I.turned (fun b o hb e=>kk b o (by simpa using hb) e) f0 f1 f3 f4 f5
  refine⟨_,rfl,FL (s:={s with heap:=h',toks:=tk}) (n:="range_iterator") st' rfl rfl (by decide) ⟨.int (lo+i),H,I1,⟨t,?_⟩,⟨rfl,rfl⟩,st',fun b hb=>(hf b hb).1⟩⟩
  rw[Int.mul_one]
 done:=by
  intro X hP hw hK hc i pins s σ H E I hf st hg
  subst hP hw hK
  obtain⟨f0,f1,f2,f3,f4,f5⟩:=hf it (by simp)
  exact wpAny_pyNext_range_end (I.ok.hd hc) st (by have:n≤i:=hg;omega) fun h' eb=>⟨rfl,I.turned (t':=s.toks) (fun b o hb e=>eb b o hb e) f0 f1 f3 f4 f5⟩
 self:=fun _ _ _ _ _ st h=>wpAny_pyIter_rangeiter st h
section
variable{X:Cx}{tg:Expr}
theorem yE{pins:List (Addr×Obj)}{σ:St}{H:Hp}{s:Shared}{R:It→Hp→Prop}{E:Value→Shared→Prop}{lo hi:Int}{t u v:Tok}{tk:Nat}(I:Inv X pins σ H s)(h1 : -(2^62)≤lo)(h2:lo<2^62)(h3 : -(2^62)≤hi)(h4:hi<2^62)
  (q:R (Itr lo (hi-lo).toNat) H):wpAny (model X.prog X.w) X.A (pyIter (.ref s.heap.objs.size)) (PIE X pins σ tg R) E {s with heap:=s.heap.push {cls:=.type "range",data:=.fields #[.int lo t,.int hi u,.int 1 v] },toks:=tk}:=by
 refine wpAny_pyIter_range (IsRange.new ..) (small_one h1 h2 h3 h4) ?_
 have I1:Inv X pins σ H {s with heap:=s.heap.push {cls:=.type "range",data:=.fields #[.int lo t,.int hi u,.int 1 v] },toks:=tk}:=I.kept fun b o e=>Heap.get?_push_of_some _ e
 refine⟨(s.heap.push {cls:=.type "range",data:=.fields #[.int lo t,.int hi u,.int 1 v] }).objs.size,[(s.heap.push {cls:=.type "range",data:=.fields #[.int lo t,.int hi u,.int 1 v] }).objs.size],_,_,H,rfl,
  I1.kept (t':=tk) fun b o e=>Heap.get?_push_of_some _ e,zH _ lo (hi-lo).toNat,?_,fun b hb=>?_,q⟩
 ·
  have e1:lo+((0:Nat):Int)*1=lo:=by simp
  have e2:(((hi-lo).toNat:Nat):Int)-((0:Nat):Int)=Builtin.Range.rangeSize lo hi 1:=by rw[rangeSize_one];split<;>omega
  show IsRangeIter _ _ (lo+((0:Nat):Int)*1) ((((hi-lo).toNat:Nat):Int)-((0:Nat):Int)) 1
  rw[e1,e2]
  exact Heap.get?_push_size _ rfl
 ·
  have e:b=(s.heap.push {cls:=.type "range",data:=.fields #[.int lo t,.int hi u,.int 1 v] }).objs.size:=by simpa using hb
  subst e
  exact I1.fpOk (Nat.le_refl _) (I1.hok.fresh (Nat.le_refl _))
def JA(ta:TA):TI:=fun σ H R=>ta σ H fun vs H1=>∃j:Int,vs=[.int j]∧-(2^62)≤j∧j<2^62∧R (Itr 0 j.toNat) H1
def JB(ta:TA):TI:=fun σ H R=>ta σ H fun vs H1=>∃i j:Int,vs=[.int i,.int j]∧(-(2^62)≤i∧i<2^62∧-(2^62)≤j∧j<2^62)∧R (Itr i (j-i).toNat) H1
theorem AN{a:Expr}{ta:TA}{p pos:Pos} (hg:Gl X "range") (hm:X.mg "range"=none) (ha:PA X [a] ta) (hs:starEach [a] X.env=[(false,eval a X.env)]:=by rfl):PI X tg (.Call (.Name "range" p) [a] [] pos) (JA ta):=by
 intro pins s σ H R I h
 refine Call_ (nF I hg hm boot_range (PyProof.Rows.callWith_type1 (thn (ha pos pins s σ H _ I h) fun us s1 ⟨vs,H1,I1,r1,q1⟩=>?_) hs rfl))
 obtain⟨j,e,q1,q2,q⟩:=q1
 subst e
 cases r1 with
 | cons r rr =>
  cases rr
  obtain⟨t,rfl⟩:=r
  exact call_range_1 (yE I1 (by omega) (by omega) q1 q2 (by simpa using q))
theorem AO{a b:Expr}{ta:TA}{p pos:Pos} (hg:Gl X "range") (hm:X.mg "range"=none) (ha:PA X [a,b] ta) (hs:starEach [a,b] X.env=[(false,eval a X.env),(false,eval b X.env)]:=by rfl) (hs2:starEach [b] X.env=[(false,eval b X.env)]:=by rfl) :
  PI X tg (.Call (.Name "range" p) [a,b] [] pos) (JB ta):=by
 intro pins s σ H R I h
 refine Call_ (nF I hg hm boot_range (PyProof.Rows.callWith_type1 (thn (ha pos pins s σ H _ I h) fun us s1 ⟨vs,H1,I1,r1,q1⟩=>?_) (by rw[hs,hs2]) (by rw[hs2];rfl)))
 obtain⟨i,j,e,⟨q1,q2,q3,q4⟩,q⟩:=q1
 subst e
 cases r1 with
 | cons r rr =>
  cases rr with
  | cons r' rr =>
   cases rr
   obtain⟨t,rfl⟩:=r
   obtain⟨t',rfl⟩:=r'
   exact call_range_2 (yE I1 q1 q2 q3 q4 q)
def uK(fp:List Addr)(h:Heap):List (Addr×Obj):=fp.filterMap fun b=>(h.get? b).map fun o=>(b,o)
theorem jz{fp:List Addr}{h:Heap}{b:Addr}{o:Obj}(hb:b∈fp)(e:h.get? b=some o):(b,o)∈uK fp h:=List.mem_filterMap.mpr ⟨b,hb,by rw[e];rfl⟩
theorem AQ{fp:List Addr}{h:Heap}{p:Addr×Obj}(hp:p∈uK fp h):p.1∈fp∧h.get? p.1=some p.2:=by
 obtain⟨b,hb,e⟩:=List.mem_filterMap.mp hp
 cases q:h.get? b with
 |none=>rw[q]at e;cases e
 | some o =>
  rw[q]at e
  have e':(b,o)=p:=Option.some.inj e
  subst e'
  exact⟨hb,q⟩
theorem Inv.pinned{pins:List (Addr×Obj)}{σ:St}{H:Hp}{s:Shared}{fp:List Addr}(I:Inv X pins σ H s)(hf:∀b∈fp,FpOk X pins H b)(ho:∀b∈fp,∃o,s.heap.get? b=some o∧∀v,o.data≠.cell v):Inv X (pins++uK fp s.heap) σ H s :=
 I.pins_of fun p hp=>(List.mem_append.mp hp).elim (fun z=>I.pin p (List.mem_append_right _ z)) fun z=>by
  obtain⟨hb,e⟩:=AQ z
  obtain⟨f0,f1,f2,_⟩:=hf p.1 hb
  obtain⟨o,e',d⟩:=ho p.1 hb
  rw[e]at e';cases e'
  exact⟨e,f0,f1,f2,d⟩
theorem Inv.unpinned{pins pl:List (Addr×Obj)}{σ:St}{H:Hp}{s:Shared}(I:Inv X (pins++pl) σ H s):Inv X pins σ H s:=I.pins_of fun p hp=>I.pin p (List.mem_append_right _ (List.mem_append_left _ hp))
end
abbrev R2:=V→V→Hp→VK→Prop
def OpR(X:Cx)(f:Value→Value→Sem Value)(r:R2):Prop :=
 ∀(pins:List (Addr×Obj))(s:Shared)(σ:St)(H:Hp)(x y:V)(v u:Value)(Q:VK),Inv X pins σ H s→RelV x v→RelV y u→r x y H Q →
  wpAny (model X.prog X.w) X.A (f v u) (EP X pins σ Q) X.xe s
def UnR(X:Cx)(f:Value→Sem Value)(r:V→Hp→VK→Prop):Prop :=
 ∀(pins:List (Addr×Obj))(s:Shared)(σ:St)(H:Hp)(x:V)(v:Value)(Q:VK),Inv X pins σ H s→RelV x v→r x H Q →
  wpAny (model X.prog X.w) X.A (f v) (EP X pins σ Q) X.xe s
def iu(X:Cx)(f:Value)(r:List V→Hp→VK→Prop):Prop :=
 ∀(pins:List (Addr×Obj))(s:Shared)(σ:St)(H:Hp)(xs:List V)(us:List Value)(Q:VK),Inv X pins σ H s→Vals xs us→r xs H Q →
  wpAny (model X.prog X.w) X.A (call f us) (EP X pins σ Q) X.xe s
def tOp(r:R2)(ta tb:TE):TE:=fun σ H Q=>ta σ H fun x H1=>tb σ H1 fun y H2=>r x y H2 Q
def rI(C:Int→Int→Prop)(g:Int→Int→V):R2:=fun x y H Q=>∃i j,x=.int i∧y=.int j∧C i j∧Q (g i j) H
def rI0(g:Int→Int→V):R2:=fun x y H Q=>∃i j,x=.int i∧y=.int j∧Q (g i j) H
def rU(g:Int→V):V→Hp→VK→Prop:=fun x H Q=>∃i,x=.int i∧Q (g i) H
section
variable{X:Cx}{a b:Expr}{ta tb:TE}
theorem binT(ha:PE X a ta)(hb:PE X b tb){pins:List (Addr×Obj)}{s:Shared}{σ:St}{H:Hp}{R:V→V→Hp→Prop}(I:Inv X pins σ H s)
  (h:ta σ H fun x H1=>tb σ H1 fun y H2=>R x y H2) {Q:Value→Shared→Prop} {f:Value→Value→Sem Value}
  (hf:∀v u s2 x y H2,Inv X pins σ H2 s2→RelV x v→RelV y u→R x y H2→wpAny (model X.prog X.w) X.A (f v u) Q X.xe s2) :
  wpAny (model X.prog X.w) X.A (eval a X.env) (fun v s₁=>wpAny (model X.prog X.w) X.A (eval b X.env) (fun u s₂=>wpAny (model X.prog X.w) X.A (f v u) Q X.xe s₂) X.xe s₁) X.xe s:=by
 refine thn (ha pins s σ H _ I h) fun v s1 ⟨x,H1,I1,r1,q1⟩=>?_
 refine thn (hb pins s1 σ H1 _ I1 q1) fun u s2 ⟨y,H2,I2,r2,q2⟩=>?_
 exact hf v u s2 x y H2 I2 r1 r2 q2
theorem opI{f:Value→Value→Sem Value}{C:Int→Int→Prop}{g:Int→Int→Int}
  (rule:∀(i j:Int)(t u:Tok)(s:Shared)(Q:Value→Shared→Prop)(E:Value→Shared→Prop),C i j→Q (.int (g i j) s.toks) {s with toks:=s.toks+1}→wpAny (model X.prog X.w) X.A (f (.int i t) (.int j u)) Q E s) :
  OpR X f (rI C fun i j=>.int (g i j)):=by
 intro pins s σ H x y v u Q I rx ry h
 obtain⟨i,j,rfl,rfl,hc,q⟩:=h
 obtain⟨t,rfl⟩:=rx
 obtain⟨t',rfl⟩:=ry
 exact rule i j t t' s _ _ hc ⟨.int (g i j),H,I.tok _,⟨_,rfl⟩,q⟩
theorem opI0{f:Value→Value→Sem Value}{g:Int→Int→Int}
  (rule:∀(i j:Int)(t u:Tok)(s:Shared)(Q:Value→Shared→Prop)(E:Value→Shared→Prop),Q (.int (g i j) s.toks) {s with toks:=s.toks+1}→wpAny (model X.prog X.w) X.A (f (.int i t) (.int j u)) Q E s) :
  OpR X f (rI0 fun i j=>.int (g i j)):=by
 intro pins s σ H x y v u Q I rx ry h
 obtain⟨i,j,rfl,rfl,q⟩:=h
 obtain⟨t,rfl⟩:=rx
 obtain⟨t',rfl⟩:=ry
 exact rule i j t t' s _ _ ⟨.int (g i j),H,I.tok _,⟨_,rfl⟩,q⟩
theorem opB0{f:Value→Value→Sem Value}{g:Int→Int→Bool}
  (rule:∀(i j:Int)(t u:Tok)(s:Shared)(Q:Value→Shared→Prop)(E:Value→Shared→Prop),Q (.bool (g i j)) s→wpAny (model X.prog X.w) X.A (f (.int i t) (.int j u)) Q E s) :
  OpR X f (rI0 fun i j=>.bl (g i j)):=by
 intro pins s σ H x y v u Q I rx ry h
 obtain⟨i,j,rfl,rfl,q⟩:=h
 obtain⟨t,rfl⟩:=rx
 obtain⟨t',rfl⟩:=ry
 exact rule i j t t' s _ _ ⟨.bl (g i j),H,I,rfl,q⟩
def CPow(i j:Int):Prop:=0≤j∧j≤1000000∧i.natAbs<2^64
def CMul(i j:Int):Prop:=(-(2^64)<i∧i<2^64)∨(-(2^64)<j∧j<2^64)
theorem CMul.ok{i j:Int}(h:CMul i j):IntMulOk i j:=by
 rcases h with⟨h1,h2⟩|⟨h1,h2⟩
 ·
  exact .of_left (intBits_le_64 h1 h2)
 ·
  exact .of_right (intBits_le_64 h1 h2)
theorem HL:OpR X (binaryOp .Add) (rI0 fun i j=>.int (i+j)):=opI0 fun _ _ _ _ _ _ _ q=>add_int q
theorem HM:OpR X (binaryOp .Sub) (rI0 fun i j=>.int (i-j)):=opI0 fun _ _ _ _ _ _ _ q=>sub_int q
theorem FM:OpR X (binaryOp .Mod) (rI (fun _ j=>j≠0) fun i j=>.int (i.fmod j)):=opI fun _ _ _ _ _ _ _ hc q=>mod_int' hc q
theorem HN:OpR X (binaryOp .Pow) (rI CPow fun i j=>.int (i^j.toNat)):=opI fun _ _ _ _ _ _ _ hc q=>pow_int_small hc.1 hc.2.1 hc.2.2 q
theorem unI{f:Value→Sem Value}{g:Int→Int}
  (rule:∀(i:Int)(t:Tok)(s:Shared)(Q:Value→Shared→Prop)(E:Value→Shared→Prop),Q (.int (g i) s.toks) {s with toks:=s.toks+1}→wpAny (model X.prog X.w) X.A (f (.int i t)) Q E s) :
  UnR X f (rU fun i=>.int (g i)):=by
 intro pins s σ H x v Q I rx h
 obtain⟨i,rfl,q⟩:=h
 obtain⟨t,rfl⟩:=rx
 exact rule i t s _ _ ⟨.int (g i),H,I.tok _,⟨_,rfl⟩,q⟩
theorem HP:UnR X (unaryOp .USub) (rU fun i=>.int (-i)):=unI fun _ _ _ _ _ q=>neg_int q
end
def scal:V→V→Bool
 |.non,.non=>true | .non,.int _=>true | .int _,.non=>true | .non,.bl _=>true | .bl _,.non=>true | .non,.str _=>true | .str _,.non=>true
 |.int _,.int _=>true | .bl _,.bl _=>true | .str _,.str _=>true | .byt _,.byt _=>true
 |.int _,.str _=>true | .str _,.int _=>true | .bl _,.str _=>true | .str _,.bl _=>true
 |_,_=>false
def rEq:R2:=fun x y H Q=>scal x y=true∧Q (.bl (decide (x=y))) H
def rNe:R2:=fun x y H Q=>scal x y=true∧Q (.bl (!decide (x=y))) H
theorem AR{i j:Int}:decide (V.int i=V.int j)=(i == j):=by
 rw[Bool.eq_iff_iff]
 simp
theorem Fk{i j:Bool}:decide (V.bl i=V.bl j)=(i == j):=by
 rw[Bool.eq_iff_iff]
 simp
theorem AS{i j:Str}:decide (V.str i=V.str j)=(i == j):=by
 rw[Bool.eq_iff_iff]
 simp
theorem AU{i j:Array UInt8}:decide (V.byt i=V.byt j)=(i.toList == j.toList):=by
 rw[Bool.eq_iff_iff]
 cases i
 cases j
 simp
section
variable{X:Cx}{a b c:Expr}{ta tb tc:TE}{pos:Pos}
theorem bo{pins:List (Addr×Obj)}{σ:St}{H:Hp}{s:Shared}{Q:VK}{k k':Bool}(I:Inv X pins σ H s)(q:Q (.bl k) H)(e:k=k'):EP X pins σ Q (.bool k') s:=by
 subst e
 exact⟨.bl k,H,I,rfl,q⟩
theorem JC:OpR X (compareOp .Eq) rEq:=by
 intro pins s σ H x y v u Q I rx ry h
 obtain⟨hs,q⟩:=h
 cases x with
 | non =>
  cases rx
  cases y with
  |non=>cases ry;exact PySem.EqNone.eq_none_none (bo I q (by simp))
  |bl j=>cases ry;exact PySem.EqNone.eq_none_bool (bo I q (by simp))
  |int j=>obtain⟨t',rfl⟩:=ry;exact PySem.EqNone.eq_none_int (bo I q (by simp))
  |str j=>obtain⟨t',rfl⟩:=ry;exact PySem.EqNone.eq_none_str (bo I q (by simp))
  |_=>exact absurd (show false=true from hs) Bool.false_ne_true
 | bl i =>
  cases rx
  cases y with
  |non=>cases ry;exact PySem.EqNone.eq_bool_none (bo I q (by simp))
  |bl j=>cases ry;exact eq_bool (bo I q Fk)
  |str j=>obtain⟨t',rfl⟩:=ry;exact PySem.EqMixed.eq_bool_str (bo I q (by simp))
  |_=>exact absurd (show false=true from hs) Bool.false_ne_true
 | int i =>
  obtain⟨t,rfl⟩:=rx
  cases y with
  |non=>cases ry;exact PySem.EqNone.eq_int_none (bo I q (by simp))
  |int j=>obtain⟨t',rfl⟩:=ry;exact eq_int (bo I q AR)
  |str j=>obtain⟨t',rfl⟩:=ry;exact PySem.EqMixed.eq_int_str (bo I q (by simp))
  |_=>exact absurd (show false=true from hs) Bool.false_ne_true
 | str i =>
  obtain⟨t,rfl⟩:=rx
  cases y with
  |non=>cases ry;exact PySem.EqNone.eq_str_none (bo I q (by simp))
  |bl j=>cases ry;exact PySem.EqMixed.eq_str_bool (bo I q (by simp))
  |int j=>obtain⟨t',rfl⟩:=ry;exact PySem.EqMixed.eq_str_int (bo I q (by simp))
  |str j=>obtain⟨t',rfl⟩:=ry;exact eq_str (bo I q AS)
  |_=>exact absurd (show false=true from hs) Bool.false_ne_true
 | byt i =>
  obtain⟨t,rfl⟩:=rx
  cases y with
  |byt j=>obtain⟨t',rfl⟩:=ry;exact PySem.W.eq_bytes (bo I q AU)
  |_=>exact absurd (show false=true from hs) Bool.false_ne_true
 |_=>cases y<;>exact absurd (show false=true from hs) Bool.false_ne_true
theorem JD:OpR X (compareOp .NotEq) rNe:=by
 intro pins s σ H x y v u Q I rx ry h
 obtain⟨hs,q⟩:=h
 cases x with
 | non =>
  cases rx
  cases y with
  |non=>cases ry;exact PySem.EqNone.ne_none_none (bo I q (by simp))
  |bl j=>cases ry;exact PySem.EqNone.ne_none_bool (bo I q (by simp))
  |int j=>obtain⟨t',rfl⟩:=ry;exact PySem.EqNone.ne_none_int (bo I q (by simp))
  |str j=>obtain⟨t',rfl⟩:=ry;exact PySem.EqNone.ne_none_str (bo I q (by simp))
  |_=>exact absurd (show false=true from hs) Bool.false_ne_true
 | bl i =>
  cases rx
  cases y with
  |non=>cases ry;exact PySem.EqNone.ne_bool_none (bo I q (by simp))
  |bl j=>cases ry;exact ne_bool (bo I q (congrArg not Fk))
  |str j=>obtain⟨t',rfl⟩:=ry;exact PySem.EqMixed.ne_bool_str (bo I q (by simp))
  |_=>exact absurd (show false=true from hs) Bool.false_ne_true
 | int i =>
  obtain⟨t,rfl⟩:=rx
  cases y with
  |non=>cases ry;exact PySem.EqNone.ne_int_none (bo I q (by simp))
  |int j=>obtain⟨t',rfl⟩:=ry;exact ne_int (bo I q (congrArg not AR))
  |str j=>obtain⟨t',rfl⟩:=ry;exact PySem.EqMixed.ne_int_str (bo I q (by simp))
  |_=>exact absurd (show false=true from hs) Bool.false_ne_true
 | str i =>
  obtain⟨t,rfl⟩:=rx
  cases y with
  |non=>cases ry;exact PySem.EqNone.ne_str_none (bo I q (by simp))
  |bl j=>cases ry;exact PySem.EqMixed.ne_str_bool (bo I q (by simp))
  |int j=>obtain⟨t',rfl⟩:=ry;exact PySem.EqMixed.ne_str_int (bo I q (by simp))
  |str j=>obtain⟨t',rfl⟩:=ry;exact ne_str (bo I q (congrArg not AS))
  |_=>exact absurd (show false=true from hs) Bool.false_ne_true
 | byt i =>
  obtain⟨t,rfl⟩:=rx
  cases y with
  |byt j=>obtain⟨t',rfl⟩:=ry;exact PySem.W.ne_bytes (bo I q (congrArg not AU))
  |_=>exact absurd (show false=true from hs) Bool.false_ne_true
 |_=>cases y<;>exact absurd (show false=true from hs) Bool.false_ne_true
theorem HQ:OpR X (compareOp .Lt) (rI0 fun i j=>.bl (decide (i<j))):=opB0 fun _ _ _ _ _ _ _ q=>lt_int q
theorem HR:OpR X (compareOp .LtE) (rI0 fun i j=>.bl (decide (i≤j))):=opB0 fun _ _ _ _ _ _ _ q=>le_int q
theorem JE:OpR X (compareOp .Gt) (rI0 fun i j=>.bl (decide (j<i))):=opB0 fun _ _ _ _ _ _ _ q=>gt_int q
theorem JF:OpR X (compareOp .GtE) (rI0 fun i j=>.bl (decide (j≤i))):=opB0 fun _ _ _ _ _ _ _ q=>ge_int q
theorem HS:OpR X (compareOp .Is) (fun x y H Q=>y=.non∧Q (.bl (decide (x=.non))) H):=by
 intro pins s σ H x y v u Q I rx ry h
 obtain⟨rfl,q⟩:=h
 cases ry
 refine is_none_gen (bo I q ?_)
 cases x<;>first
  |(cases rx;rfl)
  |(obtain⟨t,rfl⟩:=rx;rfl)
theorem aH(b:Expr){op:CmpOp}(h:op≠.In:=by decide)(h2:op≠.NotIn:=by decide):behindInMarks op b=false:=by
 have e1:(op == CmpOp.In)=false:=by cases op<;>first|rfl|exact absurd rfl h
 have e2:(op == CmpOp.NotIn)=false:=by cases op<;>first|rfl|exact absurd rfl h2
 cases b<;>simp[behindInMarks,e1,e2]
def HU(t:TE):TT:=fun σ H Q=>t σ H fun x H'=>∃k,x=.bl k∧Q k H'
theorem JG{op:CmpOp}{r:R2}(ho:OpR X (compareOp op) r)(ha:PE X a ta)(hb:PE X b tb)(hm:behindInMarks op b=false):PT X (.Compare a [op] [b] pos) (HU (tOp r ta tb)):=by
 intro pins s σ H Q I h
 refine wpAny_isTrue_Compare1 (thn (ha pins s σ H _ I h) fun v s1 ⟨x,H1,I1,r1,q1⟩=>thn (hb pins s1 σ H1 _ I1 q1) fun u s2 ⟨y,H2,I2,r2,q2⟩ =>
  thn (ho pins s2 σ H2 x y v u _ I2 r1 r2 q2) fun c s3 ⟨z,H3,I3,r3,k,e,q3⟩=>?_) hm
 subst e
 cases r3
 exact wpAny_truthy_bool ⟨H3,I3,q3⟩
def AV(r r':R2)(ta tb tc:TE):TE:=fun σ H Q=>ta σ H fun x H1=>tb σ H1 fun y H2=>r x y H2 fun z H3=>∃k,z=.bl k ∧
 (if k=true then tc σ H3 fun w' H4=>r' y w' H4 Q else Q (.bl false) H3)
theorem Dl{op op':CmpOp}{r r':R2}(ho:OpR X (compareOp op) r)(ho':OpR X (compareOp op') r')(ha:PE X a ta)(hb:PE X b tb)(hc:PE X c tc)
  (hm:lastMarks [op,op'] [b,c]=false:=by with_unfolding_all rfl):PE X (.Compare a [op,op'] [b,c] pos) (AV r r' ta tb tc):=by
 intro pins s σ H Q I h
 refine Compare_chain (thn (ha pins s σ H _ I h) fun v s1 ⟨x,H1,I1,r1,q1⟩=>chain_link (thn (hb pins s1 σ H1 _ I1 q1) fun u s2 ⟨y,H2,I2,r2,q2⟩ =>
  thn (ho pins s2 σ H2 x y v u _ I2 r1 r2 q2) fun d s3 ⟨z,H3,I3,r3,k,e,q3⟩=>?_)) hm
 subst e
 cases r3
 refine wpAny_truthy_bool ?_
 cases k with
 |false=>exact ite_ff ⟨.bl false,H3,I3,rfl,q3⟩
 |true=>exact ite_tt (chain_last (thn (hc pins s3 σ H3 _ I3 q3) fun w' s4 ⟨z',H4,I4,r4,q4⟩=>ho' pins s4 σ H4 y z' u w' Q I4 r2 r4 q4))
theorem Dm{op op':CmpOp}{r r':R2}(ho:OpR X (compareOp op) r)(ho':OpR X (compareOp op') r')(ha:PE X a ta)(hb:PE X b tb)(hc:PE X c tc)
  (hm:lastMarks [op,op'] [b,c]=false:=by with_unfolding_all rfl):PT X (.Compare a [op,op'] [b,c] pos) (HU (AV r r' ta tb tc)):=by
 intro pins s σ H Q I h
 refine isTrue_chain (thn (ha pins s σ H _ I h) fun v s1 ⟨x,H1,I1,r1,q1⟩=>test_link (thn (hb pins s1 σ H1 _ I1 q1) fun u s2 ⟨y,H2,I2,r2,q2⟩ =>
  thn (ho pins s2 σ H2 x y v u _ I2 r1 r2 q2) fun d s3 ⟨z,H3,I3,r3,k,e,q3⟩=>?_)) hm
 subst e
 cases r3
 refine wpAny_truthy_bool ?_
 cases k with
 | false =>
  obtain⟨k',e',q'⟩:=q3
  cases e'
  exact ite_ff ⟨H3,I3,q'⟩
 | true =>
  refine ite_tt (test_last (thn (hc pins s3 σ H3 _ I3 q3) fun w' s4 ⟨z',H4,I4,r4,q4⟩=>thn (ho' pins s4 σ H4 y z' u w' _ I4 r2 r4 q4) fun d' s5 ⟨z2,H5,I5,r5,k2,e2,q5⟩=>?_))
  subst e2
  cases r5
  exact wpAny_truthy_bool ⟨H5,I5,q5⟩
theorem rm:(sizeLine:Nat)<2^63:=by rw[sizeLine_eq];decide
theorem zJ:OpR X (binaryOp .Add) (fun x y H Q=>∃i j,x=.str i∧y=.str j∧i.length+j.length≤sizeLine∧Q (.str (i++j)) H):=by
 intro pins s σ H x y v u Q I rx ry h
 obtain⟨i,j,rfl,rfl,hz,q⟩:=h
 obtain⟨t,rfl⟩:=rx
 obtain⟨t',rfl⟩:=ry
 exact add_str (fun t' tk=>⟨.str (i++j),H,I.tok _,⟨_,rfl⟩,q⟩) hz
theorem oO{x:V}{us:List Value}(r:Vals [x] us):∃u,us=[u]∧RelV x u:=by
 cases r with
 |cons r1 r2=>cases r2;exact⟨_,rfl,r1⟩
theorem FN{x y:V}{us:List Value}(r:Vals [x,y] us):∃u w',us=[u,w']∧RelV x u∧RelV y w':=by
 cases r with
 | cons r1 r2 =>
  cases r2 with
  |cons r3 r4=>cases r4;exact⟨_,_,rfl,r1,r3⟩
theorem Dn:iu X (.builtin "abs") (fun xs H Q=>∃ i,xs=[.int i]∧Q (.int (if i < 0 then -i else i)) H):=by
 intro pins s σ H xs us Q I r h
 obtain⟨i,rfl,q⟩:=h
 obtain⟨u,rfl,t,rfl⟩:=oO r
 exact call_abs_int fun u tk=>⟨.int (if i<0 then -i else i),H,I.tok _,⟨_,rfl⟩,q⟩
theorem AW(hc:X.calm=true):iu X (.builtin "max") (fun xs H Q=>∃ i j,xs=[.int i,.int j]∧Q (.int (if j > i then j else i)) H):=by
 intro pins s σ H xs us Q I r h
 obtain⟨i,j,rfl,q⟩:=h
 obtain⟨u,w',rfl,⟨t,rfl⟩,⟨t',rfl⟩⟩:=FN r
 refine max_two_ints (I.ok.hd hc) fun h' tk k=>⟨_,H,I.kept k,?_,q⟩
 by_cases hj:j > i
 ·
  rw[if_pos hj,if_pos hj];exact⟨_,rfl⟩
 ·
  rw[if_neg hj,if_neg hj];exact⟨_,rfl⟩
theorem AX(hc:X.calm=true):iu X (.builtin "min") (fun xs H Q=>∃ i j,xs=[.int i,.int j]∧Q (.int (if j < i then j else i)) H):=by
 intro pins s σ H xs us Q I r h
 obtain⟨i,j,rfl,q⟩:=h
 obtain⟨u,w',rfl,⟨t,rfl⟩,⟨t',rfl⟩⟩:=FN r
 refine min_two_ints (I.ok.hd hc) fun h' tk k=>⟨_,H,I.kept k,?_,q⟩
 by_cases hj:j<i
 ·
  rw[if_pos hj,if_pos hj];exact⟨_,rfl⟩
 ·
  rw[if_neg hj,if_neg hj];exact⟨_,rfl⟩
theorem AY:iu X (.type "int") (fun xs H Q=>(∃ i,xs=[.int i]∧Q (.int i) H)∨∃ k,xs=[.bl k]∧Q (.int (if k then 1 else 0)) H):=by
 intro pins s σ H xs us Q I r h
 rcases h with⟨i,rfl,q⟩|⟨k,rfl,q⟩
 ·
  obtain⟨u,rfl,t,rfl⟩:=oO r
  exact call_int_int ⟨.int i,H,I,⟨_,rfl⟩,q⟩
 ·
  obtain⟨u,rfl,r1⟩:=oO r
  cases r1
  exact call_int_bool ⟨.int (if k then 1 else 0),H,I.tok _,⟨_,rfl⟩,q⟩
end
structure Room (k:Nat) (A:Around):Prop where
 hd:A.handled=none
 dp:A.depth+3*k+5<recursionLimit
 un:A.units+16*k+200<cLine
 gd:A.guards=some []
theorem Room.mono{j k:Nat}{A:Around}(r:Room k A)(h:j≤k):Room j A:=⟨r.hd,by have:=r.dp;omega,by have:=r.un;omega,r.gd⟩
theorem Room.deeper{k:Nat}{A:Around}(r:Room (k+1) A)(env:Env):Room k (A.deeper env) :=
 ⟨r.hd,by have:=r.dp;show A.depth+1+3*k+5<_;omega,by have:=r.un;show A.units+3+16*k+200<_;omega,r.gd⟩
theorem Room.depth{k:Nat}{A:Around}(r:Room k A):A.depth<recursionLimit:=by have:=r.dp;omega
theorem Room.units{k:Nat}{A:Around}(r:Room k A):A.units+64<cLine:=by have:=r.un;omega
def tNil:TA:=fun _ H Q=>Q [] H
def JH(ta:TE)(tr:TA):TA:=fun σ H Q=>ta σ H fun x H1=>tr σ H1 fun xs H2=>Q (x::xs) H2
section
variable{X:Cx}{e:Expr}{es:List Expr}{te:TE}{t:TA}{pos:Pos}
theorem nG:PA X [] tNil:=fun _ _ _ _ H Q I h=>Calls.spliced_nil ⟨[],H,I,.nil,h⟩
theorem eG(ha:PE X e te)(hr:PA X es t)(hs:starEach (e::es) X.env=(false,eval e X.env)::starEach es X.env:=by rfl):PA X (e::es) (JH te t):=by
 intro pos pins s σ H Q I h
 rw[hs]
 show wpAny _ _ (spliced ((false,eval e X.env)::backTo pos (starEach es X.env))) _ _ s
 refine Calls.spliced_cons (thn (ha pins s σ H _ I h) fun u s1 ⟨x,H1,I1,r1,q1⟩=>?_)
 exact thn (hr pos pins s1 σ H1 _ I1 q1) fun us s2 ⟨xs,H2,I2,r2,q2⟩=>⟨x::xs,H2,I2,.cons r1 r2,q2⟩
end
abbrev Sp:=List V→Hp→VK→XK→Prop
abbrev CXT:=List Env→Hp→Shared→XK→Value→Shared→Prop
structure Env0 (P:Program) (w:World) (K:PySem.W.Frag) (mg:Str→Option Value) (base:Heap) (A:Around) (outer:List Env) (s:Shared) (H:Hp):Prop where
 frames:A.frames=some outer
 mod:Mod K mg base
 bs:∀b o,base.get? b=some o→s.heap.get? b=some o∧H b=none
 bsz:base.objs.size≤s.heap.objs.size
 funs:s.heap.FunFrames base outer
 frf:∀b∈frs outer,H b=none
 hok:HOk P w H s.heap
 bare:AllBare s.gens
 tbs:Tbs K H
def CE(outer:List Env)(P:Program)(w:World)(H:Hp)(s:Shared)(Q:VK)(u:Value)(s':Shared):Prop :=
 ∃v H',s'.os=s.os∧AllBare s'.gens∧Un (frs outer) [] H H' s.heap s'.heap∧HOk P w H' s'.heap∧RelV v u∧Q v H'
def CR(CX:CXT)(outer:List Env)(P:Program)(w:World)(H:Hp)(s:Shared)(Q:VK)(E:XK)(r:Result)(s':Shared):Prop :=
 match r with
 |.ok (.ret u)=>CE outer P w H s Q u s'
 |.ok _=>False
 |.error e=>CX outer H s E e s'
structure FnOk (P:Program) (w:World) (K:PySem.W.Frag) (mg:Str→Option Value) (base:Heap) (CX:CXT) (k:Nat) (f:Addr) (fd:FuncData) (ps:List Str) (sp:Sp):Prop where
 len:∀vs H Q E,sp vs H Q E→vs.length=ps.length
 run:∀(A:Around)(outer:List Env)(s:Shared)(H:Hp)(args:Args)(us:List Value)(vs:List V)(Q:VK)(E:XK),Room k A→Env0 P w K mg base A outer s H→BindsTo s fd args (ps.zip us)→Vals vs us→sp vs H Q E →
  codeAny (model P w) A (.call (.ref f) args) (CR CX outer P w H s Q E) s
theorem FnOk.mono{P:Program}{w:World}{K:PySem.W.Frag}{mg:Str→Option Value}{base:Heap}{CX:CXT}{j k:Nat}{f:Addr}{fd:FuncData}{ps:List Str}{sp:Sp}(F:FnOk P w K mg base CX j f fd ps sp)(h:j≤k) :
  FnOk P w K mg base CX k f fd ps sp:=⟨F.len,fun A outer s H args us vs Q E hr=>F.run A outer s H args us vs Q E (hr.mono h)⟩
section
variable{X:Cx}{pins:List (Addr×Obj)}{σ:St}{H:Hp}{s s':Shared}
theorem Inv.env0(I:Inv X pins σ H s):Env0 X.prog X.w X.K X.mg X.base X.A X.stack s H :=
 ⟨I.ok.frames,I.ok.mod,I.bs,Nat.le_trans I.ok.bsz I.sz,I.stack,I.stkFree,I.hok,I.bare,I.tbs⟩
theorem Inv.after{Q:VK}{u:Value}(I:Inv X pins σ H s)(h:CE X.stack X.prog X.w H s Q u s'):EP X pins σ Q u s':=by
 obtain⟨v,H',os,bare,un,hok,r,q⟩:=h
 obtain⟨hh,g,d,t,os'⟩:=s'
 obtain rfl:os'=s.os:=os
 exact⟨v,H',I.call (h':=hh) (g':=g) (d':=d) (t':=t) (ch:=[]) un hok bare (fun b z=>absurd z (by simp)),r,q⟩
end
def wJ(K:PySem.W.Frag)(fd:FuncData)(ps:List Str)(ds:List Value):Prop :=
 ∀(s:Shared)(us:List Value),K.In s.heap→(us++ds).length=ps.length→BindsTo s fd ⟨us,[]⟩ (ps.zip (us++ds))
theorem wJ.all{K:PySem.W.Frag}{fd:FuncData}{ps:List Str}(h:∀us:List Value,us.length=ps.length→bindArgs fd ⟨us,[]⟩=pure (ps.zip us)):wJ K fd ps []:=fun s us _ hl=>by
 rw[List.append_nil]at hl ⊢
 exact .of_eq (h us hl)
def yF(CX:CXT)(X:Cx)(E:XK):Prop:=∀(pins:List (Addr×Obj))(σ:St)(H:Hp)(s:Shared)(e:Value)(s':Shared),Inv X pins σ H s→CX X.stack H s E e s'→X.xe e s'
section
variable{X:Cx}{CX:CXT}{k:Nat}{f:Addr}{fd:FuncData}{ps:List Str}{sp:Sp}{dvs:List V}{ds:List Value}{E:XK}{e:Expr}
theorem Fm{pins:List (Addr×Obj)}{σ:St}{H:Hp}{s:Shared}{Q:VK}{us:List Value}{vs:List V}(F:FnOk X.prog X.w X.K X.mg X.base CX k f fd ps sp)(hr:Room k X.A)(hb:wJ X.K fd ps ds)(hd:Vals dvs ds)(hx:yF CX X E)
  (I:Inv X pins σ H s) (r:Vals vs us) (h:sp (vs++dvs) H Q E):wpAny (model X.prog X.w) X.A (call (.ref f) us) (EP X pins σ Q) X.xe s:=by
 have r2:Vals (vs++dvs) (us++ds):=r.append hd
 have hl:(us++ds).length=ps.length:=by rw[← r2.length];exact F.len _ _ _ _ h
 refine wpAny_call (codeAny_mono (F.run X.A X.stack s H ⟨us,[]⟩ (us++ds) (vs++dvs) Q E hr I.env0 (hb s us I.kIn hl) r2 h) fun r s' hq=>?_)
 cases r with
 |error e=>exact hx pins σ H s e s' I hq
 | ok fl =>
  cases fl with
  |ret u=>exact I.after hq
  |next=>exact False.elim hq
  |brk=>exact False.elim hq
  |cont=>exact False.elim hq
end
structure av (N P:List Str) (sc:Scope):Prop where
 kind:sc.kind=.function
 co:sc.isCoroutine=false
 gen:sc.isGenerator=false
 nd:N.Nodup
 pre:N.take P.length=P
 par:∀x∈P,sc.names.lookup x=some .local∨sc.names.lookup x=some .cell
 nofree:∀y∈sc.names,y.2≠.free
theorem uL{kindOf:Str→Option NameKind}{x:Str}:∀{binds:List (Str×Value)}{m:Str→Option Value},(∀v,(x,v)∉binds)→bindL kindOf binds m x=m x
 |[],_,_=>rfl
 | (n,v)::r,m,h=>by
  unfold bindL
  rw[uL fun w hw=>h w (List.mem_cons_of_mem _ hw)]
  split
  ·
   have:x≠n:=by rintro rfl;exact h v List.mem_cons_self
   simp[this]
  ·
   rfl
theorem uM{kindOf:Str→Option NameKind}{x:Str}:∀{binds:List (Str×Value)}{m:Str→Option Value},(∀v,(x,v)∉binds)→bindC kindOf binds m x=m x
 |[],_,_=>rfl
 | (n,v)::r,m,h=>by
  unfold bindC
  rw[uM fun w hw=>h w (List.mem_cons_of_mem _ hw)]
  split
  ·
   rfl
  ·
   have:x≠n:=by rintro rfl;exact h v List.mem_cons_self
   simp[this]
theorem uN{kindOf:Str→Option NameKind}{x:Str}{v:Value}:∀{P:List Str}{vs:List Value}{i:Nat}{m:Str→Option Value},P.Nodup→P[i]?=some x→vs[i]?=some v→kindOf x=some .local →
  bindL kindOf (P.zip vs) m x=some v
 |[],_,_,_,_,h,_,_=>by simp at h
 |_::_,[],_,_,_,_,h,_=>by simp at h
 | p::P,w::vs,0,m,nd,h1,h2,hk=>by
  simp at h1 h2;subst h1;subst h2
  show bindL kindOf ((p,w)::P.zip vs) m p=_
  unfold bindL
  rw[uL fun v hv=>(List.nodup_cons.mp nd).1 (List.of_mem_zip hv).1,if_pos hk]
  simp
 | p::P,w::vs,i+1,m,nd,h1,h2,hk=>by
  show bindL kindOf ((p,w)::P.zip vs) m x=_
  unfold bindL
  exact uN (i:=i) (List.nodup_cons.mp nd).2 (by simpa using h1) (by simpa using h2) hk
theorem uO{kindOf:Str→Option NameKind}{x:Str}{v:Value}:∀{P:List Str}{vs:List Value}{i:Nat}{m:Str→Option Value},P.Nodup→P[i]?=some x→vs[i]?=some v→kindOf x≠some .local →
  bindC kindOf (P.zip vs) m x=some v
 |[],_,_,_,_,h,_,_=>by simp at h
 |_::_,[],_,_,_,_,h,_=>by simp at h
 | p::P,w::vs,0,m,nd,h1,h2,hk=>by
  simp at h1 h2;subst h1;subst h2
  show bindC kindOf ((p,w)::P.zip vs) m p=_
  unfold bindC
  rw[uM fun v hv=>(List.nodup_cons.mp nd).1 (List.of_mem_zip hv).1,if_neg hk]
  simp
 | p::P,w::vs,i+1,m,nd,h1,h2,hk=>by
  show bindC kindOf ((p,w)::P.zip vs) m x=_
  unfold bindC
  exact uO (i:=i) (List.nodup_cons.mp nd).2 (by simpa using h1) (by simpa using h2) hk
def rW(N:List Str)(vs:List V):St:=vs.map some++List.replicate (N.length-vs.length) none
def cxOf(CX:CXT)(P:Program)(w:World)(K:PySem.W.Frag)(mg:Str→Option Value)(base:Heap)(N:List Str)(qual:Str)(scope:Scope)(f:Addr)(cd:Value)(A:Around)(outer:List Env)(s:Shared)(H:Hp)(E:XK):Cx where
 prog:=P
 w:=w
 K:=K
 mg:=mg
 base:=base
 A:=A.deeper (envOfC qual scope s.heap.objs.size f cd)
 N:=N
 s₀:=s
 H₀:=H
 env:=envOfC qual scope s.heap.objs.size f cd
 outer:=outer
 stack:=envOfC qual scope s.heap.objs.size f cd::outer
 ex:=[]
 calm:=true
 fn:=fun _=>true
 pn:=[]
 xe:=fun e s'=>wpAny (model P w) (A.deeper (envOfC qual scope s.heap.objs.size f cd)) (leaving (envOfC qual scope s.heap.objs.size f cd) e) (fun _ s''=>CX outer H s E e s'') (fun e' s''=>CX outer H s E e' s'') s'
theorem yG{sc:Scope}{n:Nat}{x:Str}(h:sc.names.lookup x=some .cell):∃c,(cellsFrom n sc.names []).lookup x=some c:=by
 have q:=PySem.W.cellsFrom_some sc.names n [] (.inl h)
 exact Option.isSome_iff_exists.mp q
theorem AZ{CX:CXT}{P:Program}{w:World}{K:PySem.W.Frag}{mg:Str→Option Value}{base:Heap}{N ps:List Str}{qual:Str}{scope:Scope}{f:Addr}{cd:Value}{A:Around}{outer:List Env}{s s1:Shared}{H:Hp}{E:XK}{us:List Value}{vs:List V}
  (S:av N ps scope) (hd:A.handled=none) (e0:Env0 P w K mg base A outer s H) (hl:vs.length=ps.length) (r:Vals vs us)
  (x:InCallC s s.heap.objs.size (bindL (envOfC qual scope s.heap.objs.size f cd).kindOf (ps.zip us) fun _=>none) (cellsFrom (s.heap.objs.size+1) scope.names []) (bindC (envOfC qual scope s.heap.objs.size f cd).kindOf (ps.zip us) fun _=>none) s1) :
  Inv (cxOf CX P w K mg base N qual scope f cd A outer s H E) [] (rW N vs) H s1:=by
 have hpl:ps.length≤N.length:=by have:=congrArg List.length S.pre;rw[List.length_take]at this;omega
 obtain⟨h1,tk,rfl,hk⟩:=x.done
 have noA:∀b:Addr,b∉(cxOf CX P w K mg base N qual scope f cd A outer s H E).ex:=fun b z=>absurd (show b∈([]:List Addr)from z) (by simp)
 refine⟨⟨e0.mod,S.kind,rfl,rfl,Nat.le_refl _,fun y z c h1 h2=>?_,fun y hy=>?_,fun y c _ h=>?_,fun _=>hd,Around.frames_deeper e0.frames,.inr ⟨rfl,rfl⟩,fun b z=>absurd z (noA b),e0.bs,e0.bsz,fun b _ _=>noA b,fun b z=>absurd z (noA b),e0.funs,e0.frf,e0.tbs⟩,
  rfl,e0.bare,Un.kept hk,⟨_,x.toInCall.ns,fun i y v h1 h2 h3=>?_⟩,fun y c h=>⟨_,x.cell y c h⟩,e0.hok.fresh (Nat.le_refl _),fun y c h=>?_,fun p hp=>absurd (show p∈([]:List (Addr×Obj))from hp) (by simp),e0.hok.kept hk,?_⟩
 ·
  exact name_of_addr x.apart (PySem.mem_of_lookup h1) (PySem.mem_of_lookup h2)
 ·
  have hy:scope.names.lookup y=some .cell∨scope.names.lookup y=some .free:=hy
  rcases hy with hy|hy
  ·
   exact yG hy
  ·
   exact absurd rfl (S.nofree _ (PySem.mem_of_lookup hy))
 ·
  exact Nat.le_of_lt (x.above y c (PySem.mem_of_lookup h))
 ·
  have hi:i<vs.length:=by
   unfold rW at h2
   by_cases hi:i<vs.length
   ·
    exact hi
   ·
    rw[List.getElem?_append_right (by simpa using hi)]at h2
    rw[List.getElem?_replicate]at h2
    split at h2<;>cases h2
  have ha:vs[i]?=some v:=by
   unfold rW at h2
   rw[List.getElem?_append_left (by simpa using hi),List.getElem?_map]at h2
   cases e:vs[i]? with
   |none=>rw[e]at h2;cases h2
   |some a=>rw[e]at h2;cases h2;rfl
  obtain⟨u,hu,rv⟩:=r.get ha
  have hp:ps[i]?=some y:=by
   rw[← S.pre,List.getElem?_take_of_lt (by omega)];exact h1
  have ndP:ps.Nodup:=by rw[← S.pre];exact S.nd.sublist (List.take_sublist _ _)
  refine⟨u,rv,?_⟩
  rcases S.par y (List.mem_of_getElem? hp)with k|k
  ·
   exact .inl ⟨k,uN ndP hp hu k⟩
  ·
   obtain⟨c,e⟩:=yG (n:=s.heap.objs.size+1) k
   refine .inr ⟨.inl k,c,e,?_⟩
   have q:=x.cell y c e
   rw[uO ndP hp hu (by show scope.names.lookup y≠_;rw[k];decide)]at q
   exact q
 ·
  exact .inl (e0.hok.fresh (Nat.le_of_lt (x.above y c (PySem.mem_of_lookup h))))
 ·
  unfold rW
  show _=N.length
  rw[List.length_append,List.length_map,List.length_replicate]
  omega
theorem JI{CX:CXT}{P:Program}{w:World}{K:PySem.W.Frag}{mg:Str→Option Value}{base:Heap}{k:Nat}{f:Addr}{name qual:Str}{params:Arguments}{body:List Stmt}{scope:Scope}{dV kV doc pm cdv ct oc:Value}{an od:Option Addr}
  {osl:Array (Option Value)} {N ps:List Str} {sp:Sp} (lk:K.lookup f=some ⟨oc,od,.func (PySem.W.fnOf name qual params body scope dV kV doc pm an cdv ct),osl⟩) (hcd:PySem.W.codeIn K cdv qual=true) (S:av N ps scope)
  (len:∀vs H Q E,sp vs H Q E→vs.length=ps.length)
  (hbody:∀(A:Around)(outer:List Env)(s:Shared)(H:Hp)(vs:List V)(Q:VK)(E:XK),Room k (A.deeper (envOfC qual scope s.heap.objs.size f cdv))→sp vs H Q E →
   ∃t,PSs (cxOf CX P w K mg base N qual scope f cdv A outer s H E) body t∧t {nx:=fun _ H'=>Q .non H',rt:=Q} (rW N vs) H) :
  FnOk P w K mg base CX (k+1) f (PySem.W.fnOf name qual params body scope dV kV doc pm an cdv ct) ps sp:=by
 refine⟨len,fun A outer s H args us vs Q E hr e0 hb r hsp=>?_⟩
 have hl:=len _ _ _ _ hsp
 have KX:K.In s.heap:=e0.mod.kin.keeps fun b o e=>(e0.bs b o e).1
 have lim:s.heap.NoLimit:=e0.mod.nolimit.keeps fun b o e=>(e0.bs b o e).1
 have hkind:∀y∈ps.zip us,scope.names.lookup y.1=some .local∨(scope.names.lookup y.1=some .cell∧((cellsFrom (s.heap.objs.size+1) scope.names []).lookup y.1).isSome=true):=fun⟨n,v⟩ hy=>by
  rcases S.par n (List.of_mem_zip hy).1 with q|q
  ·
   exact .inl q
  ·
   exact .inr ⟨q,PySem.W.cellsFrom_some _ _ _ (.inl q)⟩
 refine codeAny_call_function hr.depth (KX _ _ lk) rfl S.co S.gen rfl (PySem.W.codeRec_of KX hcd) (hb _ _ _ _ ?_)
 refine wpAny_newFunctionEnv_cells S.kind hkind fun env he s1 x=>?_
 subst he
 refine⟨lim.keeps x.toInCall.keep,codeAny_func ?_⟩
 obtain⟨t,ht,hq⟩:=hbody A outer s H vs Q E (hr.deeper _) hsp
 have I:Inv (cxOf CX P w K mg base N qual scope f cdv A outer s H E) [] (rW N vs) H s1:=AZ S hr.hd e0 hl r x
 refine wpAny_mono (ht [] s1 (rW N vs) H _ I hq) (fun fl s' hs=>?_) fun e s' hs=>hs
 have fin:∀{σ':St}{H':Hp}{v:V}{u:Value},Inv (cxOf CX P w K mg base N qual scope f cdv A outer s H E) [] σ' H' s'→RelV v u→Q v H'→CE outer P w H s Q u s' :=
  fun {σ' H' v u} J rv q=>⟨v,H',J.os,J.bare,J.base,J.hok,rv,q⟩
 cases fl with
 | ret u =>
  obtain⟨v,σ',H',J,rv,q⟩:=hs
  exact fin J rv q
 | next =>
  obtain⟨σ',H',J,q⟩:=hs
  exact fin (v:=V.non) (u:=Value.none) J rfl q
 | brk =>
  obtain⟨_,_,_,q⟩:=hs
  exact False.elim q
 | cont =>
  obtain⟨_,_,_,q⟩:=hs
  exact False.elim q
section
variable{X:Cx}{x:Str}{p pos:Pos}{e:Expr}{es:List Expr}{t:TA}{id:String}{r:List V→Hp→VK→Prop}
def tCB(r:List V→Hp→VK→Prop)(t:TA):TE:=fun σ H Q=>t σ H fun vs H1=>r vs H1 Q
theorem yH(hc:iu X (.builtin id) r)(hg:Gl X x)(hm:X.mg x=none)(hv:bootBuiltins x=some (.builtin id))(ha:PA X (e::es) t) (hn:x≠"__name__":=by decide) (hdb:(x == ("__debug__" : Str))=false:=by decide)
  (he:starEach (e::es) X.env=(false,eval e X.env)::starEach es X.env:=by rfl) (hpl:(backTo pos (starEach es X.env)).any (·.1)=false:=by rfl):PE X (.Call (.Name x p) (e::es) [] pos) (tCB r t):=by
 intro pins s σ H Q I h
 refine wpAny_Call_Name_kw (nF I hg hm hv ?_ hn hdb)
 exact PyProof.Rows.callWith_builtin1 (thn (ha pos pins s σ H _ I h) fun us s1 ⟨vs,H1,I1,r1,q1⟩=>hc pins s1 σ H1 vs us Q I1 r1 q1) he hpl
end
end L2
namespace HT
open PySem PyProof.Rows
section
variable{prog:Program}{w:World}{A:Around}{E:Value→Shared→Prop}{s:Shared}
def sIx(n d:Nat):Option Int→Nat
 |none=>d
 |some v=>if v<0 then(v+(n:Int)).toNat else min v.toNat n
theorem HV(n d:Nat)(hd:d≤n)(o:Option Int):sIx n d o≤n:=by
 cases o with
 |none=>exact hd
 | some v =>
  show(if v<0 then(v+(n:Int)).toNat else min v.toNat n)≤n
  by_cases hv:v<0
  ·
   rw[if_pos hv];omega
  ·
   rw[if_neg hv];exact Nat.min_le_right _ _
theorem A0(v:Int)(n d:Nat):(if v<0 then max (v+(n:Int)) 0 else min v (n:Int))=((sIx n d (some v):Nat):Int):=by
 show(if v<0 then max (v+(n:Int)) 0 else min v (n:Int))=(((if v<0 then(v+(n:Int)).toNat else min v.toNat n):Nat):Int)
 by_cases hv:v<0
 ·
  simp only[if_pos hv];omega
 ·
  simp only[if_neg hv];omega
theorem zK(lo hi:Option Int)(n:Nat):Builtin.Slice.sliceAdjust lo hi 1 (n:Int)=(((sIx n 0 lo:Nat):Int),((sIx n n hi:Nat):Int)):=by
 have h1:¬((1:Int)<0):=by omega
 unfold Builtin.Slice.sliceAdjust
 simp only[h1,if_false]
 refine Prod.ext ?_ ?_
 ·
  cases lo with
  |none=>rfl
  |some v=>exact A0 v n 0
 ·
  cases hi with
  |none=>rfl
  |some v=>exact A0 v n n
theorem zL(i j:Nat):Builtin.Slice.slicePlaces (i:Int) (j:Int) 1=j-i:=by
 unfold Builtin.Slice.slicePlaces
 have h1:(1:Int) > 0:=by omega
 simp only[h1,if_true,Int.ediv_one]
 split<;>omega
theorem rn{v:Value}{o:Option Int}{Q:Option Int→Shared→Prop}(p:IsPart v o)(h:Q o s):wpAny (model prog w) A (Builtin.Slice.slicePartIndex v) Q E s:=by
 cases p with
 |none=>exact slicePart_none h
 |int i t=>exact slicePart_int h
theorem oa{sl:Addr}{vl vu:Value}{lo hi:Option Int}{n:Nat}{Q:Int×Int×Nat→Shared→Prop}(hs:s.heap.IsSliceOf sl vl vu .none)(pl:IsPart vl lo)(pu:IsPart vu hi)
  (h:Q (((sIx n 0 lo:Nat):Int),1,sIx n n hi-sIx n 0 lo) s):wpAny (model prog w) A (Builtin.Slice.sliceApplied (.ref sl) (pure (n:Int))) Q E s:=by
 obtain⟨os,hos,hcs,hds⟩:=id hs
 unfold Builtin.Slice.sliceApplied Builtin.Slice.sliceFields
 refine wpAny_bind (wpAny_bind (wpAny_field hos hds (x:=vl) rfl (wpAny_bind (wpAny_field hos hds (x:=vu) rfl (wpAny_bind (wpAny_field hos hds (x:=.none) rfl (wpAny_pure ?_)))))))
 refine wpAny_bind (slicePart_none ?_)
 show wpAny _ _ (if((1:Int) == 0)=true then _ else _) _ _ s
 rw[if_neg (by decide)]
 refine wpAny_bind (rn pl (wpAny_bind (rn pu (wpAny_bind (wpAny_pure ?_)))))
 show wpAny _ _ (match Builtin.Slice.sliceAdjust lo hi 1 (n:Int)with|(lo,hi)=>pure (lo,(1:Int),Builtin.Slice.slicePlaces lo hi 1)) _ _ s
 rw[zK lo hi n]
 show wpAny _ _ (pure (((sIx n 0 lo:Nat):Int),(1:Int),Builtin.Slice.slicePlaces ((sIx n 0 lo:Nat):Int) ((sIx n n hi:Nat):Int) 1)) _ _ s
 rw[zL]
 exact wpAny_pure h
theorem Do(xs:Array Value)(i k:Nat):((List.range k).filterMap fun (m:Nat)=>xs[((i:Int)+(m:Int)*1).toNat]?).toArray=((xs.toList.drop i).take k).toArray:=by
 have e:(fun (m:Nat)=>xs[((i:Int)+(m:Int)*1).toNat]?)=fun m=>xs[i+m]?:=by
  funext m
  have:((i:Int)+(m:Int)*1).toNat=i+m:=by omega
  rw[this]
 rw[e]
 have:=pick_run xs i k
 rw[List.filterMap_map]at this
 have e2:((fun x=>xs[x]?) ∘ fun x=>i+x)=fun m=>xs[i+m]?:=rfl
 rw[e2]at this
 rw[this]
theorem getItem_tuple_cut{t sl:Addr}{items:Array Value}{vl vu:Value}{lo hi:Option Int}{Q:Value→Shared→Prop}(ht:IsTup s.heap t items)(hs:s.heap.IsSliceOf sl vl vu .none)(pl:IsPart vl lo)(pu:IsPart vu hi)
  (hw:¬(sIx items.size 0 lo=0∧sIx items.size items.size hi=items.size))
  (h:Q (.ref s.heap.objs.size) {s with heap:=s.heap.push {cls:=.type "tuple",data:=.seq ((items.toList.drop (sIx items.size 0 lo)).take (sIx items.size items.size hi-sIx items.size 0 lo)).toArray} })
  (hsz:items.size≤sizeLine):wpAny (model prog w) A (getItem (.ref t) (.ref sl)) Q E s:=by
 have htake:sizeOk (.seq ((items.toList.drop (sIx items.size 0 lo)).take (sIx items.size items.size hi-sIx items.size 0 lo)).toArray):=by
  show((items.toList.drop (sIx items.size 0 lo)).take (sIx items.size items.size hi-sIx items.size 0 lo)).toArray.size≤sizeLine
  rw[List.size_toArray,List.length_take,List.length_drop,Array.length_toList]
  omega
 have hj:sIx items.size items.size hi≤items.size:=HV _ _ (Nat.le_refl _) hi
 obtain⟨os,hos,hcs,hds⟩:=id hs
 have hTs:s.TypeIs (.ref sl) "slice":=⟨os,hos,hcs⟩
 unfold getItem
 try with_reducible refine wpAny_holding ?_
 first|refine wpAny_bind (wpAny_pure ?_)|skip
 refine wpAny_bind (wpAny_sequenceKey ht.typeIs (by decide) ?_)
 refine wpAny_bind (wpAny_callSpecial?_slot (name:=Str.ofString "__getitem__") ht.typeIs PyProof.Rows.slot_tuple_getitem
  (wpAny_call_entry PyProof.Rows.slot_tuple_getitem ht.typeIs entry_tuple_getitem ?_ (args_tuple_getitem _ _)))
 show wpAny _ _ (Builtin.Tuple.tupleItemsOf (.ref t) >>= _) _ _ s
 refine wpAny_bind (tupleItemsOf_ ht ?_)
 refine wpAny_bind (wpAny_typeOf hTs ?_)
 rw[if_pos (by decide)]
 refine wpAny_bind (oa hs pl pu ?_)
 have hno:¬((((sIx items.size 0 lo:Nat):Int) == 0 && (1:Int) == 1 && (sIx items.size items.size hi-sIx items.size 0 lo) == items.size)=true):=by
  intro q
  rw[Bool.and_eq_true,Bool.and_eq_true]at q
  have q1:((sIx items.size 0 lo:Nat):Int)=0:=eq_of_beq q.1.1
  have q2:sIx items.size items.size hi-sIx items.size 0 lo=items.size:=eq_of_beq q.2
  exact hw ⟨by omega,by omega⟩
 show wpAny _ _ (if(((sIx items.size 0 lo:Nat):Int) == 0 && (1:Int) == 1 && (sIx items.size items.size hi-sIx items.size 0 lo) == items.size)=true then _ else _) _ _ s
 rw[if_neg hno,Do]
 first
  |exact wpAny_bind (m:=Builtin.Tuple.tupleExact _) (wpAny_newObj_type (wpAny_pure ⟨_,rfl,wpAny_pure h⟩) htake)
  |exact wpAny_bind (m:=Builtin.Tuple.tupleExact _) (wpAny_newObj_type (wpAny_bind (wpAny_pure (wpAny_pure ⟨_,rfl,wpAny_pure h⟩))) htake)
  |exact wpAny_bind (wpAny_bind (m:=Builtin.Tuple.tupleExact _) (wpAny_newObj_type (wpAny_pure (wpAny_pure ⟨_,rfl,wpAny_pure h⟩)) htake))
  |exact wpAny_bind (wpAny_bind (m:=Builtin.Tuple.tupleExact _) (wpAny_newObj_type (wpAny_pure ⟨_,rfl,wpAny_pure h⟩) htake))
end
end HT
namespace L2
open PySem PySem.Spec PyProof.Rows
abbrev TO:=St→Hp→(Option Int→Hp→Prop)→Prop
def PO(X:Cx)(e:Option Expr)(t:TO):Prop :=
 ∀(pins:List (Addr×Obj))(s:Shared)(σ:St)(H:Hp)(Q:Option Int→Hp→Prop),Inv X pins σ H s→t σ H Q →
  wpAny (model X.prog X.w) X.A (evalPart e X.env) (fun u s'=>∃o H',Inv X pins σ H' s'∧IsPart u o∧Q o H') X.xe s
def FO:TO:=fun _ H Q=>Q none H
def JJ(t:TE):TO:=fun σ H Q=>t σ H fun x H1=>∃i,x=.int i∧Q (some i) H1
section
variable{X:Cx}{e:Expr}{te:TE}{lo hi:Option Expr}{tl th:TO}{pos p2:Pos}
theorem FP:PO X none FO:=by
 intro pins s σ H Q I h
 rw[evalPart_none]
 exact wpAny_pure ⟨none,H,I,.none,h⟩
theorem FQ(h:PE X e te):PO X (some e) (JJ te):=by
 intro pins s σ H Q I hw
 rw[evalPart_some]
 refine thn (h pins s σ H _ I hw) fun u s1 ⟨x,H1,I1,r1,q1⟩=>?_
 obtain⟨i,rfl,q⟩:=q1
 obtain⟨t,rfl⟩:=r1
 exact⟨some i,H1,I1,.int i t,q⟩
def SlR(X:Cx)(r:V→Option Int→Option Int→Hp→VK→Prop):Prop :=
 ∀(pins:List (Addr×Obj))(s:Shared)(σ:St)(H:Hp)(x:V)(v vl vu:Value)(lo hi:Option Int)(sl:Addr)(Q:VK),Inv X pins σ H s→RelV x v→s.heap.IsSliceOf sl vl vu .none→IsPart vl lo→IsPart vu hi→r x lo hi H Q →
  ∃ T id,typeLookup (.type T) "__getitem__"=pure (some (.builtin id))∧s.TypeIs v T∧wpAny (model X.prog X.w) X.A (getItem v (.ref sl)) (EP X pins σ Q) X.xe s
theorem SlR.or{r r':V→Option Int→Option Int→Hp→VK→Prop}(h:SlR X r)(h':SlR X r'):SlR X (fun x lo hi H Q=>r x lo hi H Q∨r' x lo hi H Q):=by
 intro pins s σ H x v vl vu lo hi sl Q I rx hs pl pu q
 rcases q with q|q
 ·
  exact h pins s σ H x v vl vu lo hi sl Q I rx hs pl pu q
 ·
  exact h' pins s σ H x v vl vu lo hi sl Q I rx hs pl pu q
def tSl(r:V→Option Int→Option Int→Hp→VK→Prop)(te:TE)(tl th:TO):TE:=fun σ H Q=>te σ H fun x H1=>tl σ H1 fun l H2=>th σ H2 fun u H3=>r x l u H3 Q
theorem Dp{r:V→Option Int→Option Int→Hp→VK→Prop}(hr:SlR X r)(he:PE X e te)(hl:PO X lo tl)(hu:PO X hi th):PE X (.Subscript e (.Slice lo hi none p2) pos) (tSl r te tl th):=by
 intro pins s σ H Q I h
 refine Subscript_ (thn (he pins s σ H _ I h) fun v s1 ⟨x,H1,I1,r1,q1⟩=>?_)
 refine wpAny_Slice (thn (hl pins s1 σ H1 _ I1 q1) fun vl s2 ⟨l,H2,I2,pl,q2⟩=>thn (hu pins s2 σ H2 _ I2 q2) fun vu s3 ⟨u,H3,I3,pu,q3⟩=>?_)
 rw[evalPart_none]
 refine wpAny_pure ?_
 have I4:Inv X pins σ H3 {s3 with heap:=s3.heap.push {cls:=.type "slice",data:=.fields #[vl,vu,.none] } }:=I3.kept (t':=s3.toks) fun b ob q=>Heap.get?_push_of_some _ q
 obtain⟨T,id,hT,ht,hg⟩:=hr pins {s3 with heap:=s3.heap.push {cls:=.type "slice",data:=.fields #[vl,vu,.none] } } σ H3 x v vl vu l u s3.heap.objs.size Q I4 r1 (Heap.IsSliceOf.new ..) pl pu q3
 show wpAny (model X.prog X.w) X.A (subscriptTail e (.Slice lo hi none p2) v (.ref s3.heap.objs.size)) (EP X pins σ Q) X.xe {s3 with heap:=s3.heap.push {cls:=.type "slice",data:=.fields #[vl,vu,.none] } }
 exact tail_any (ops:=[.ref s3.heap.objs.size,v]) ht hT hg (by with_unfolding_all rfl)
def cutV(xs:List V)(lo hi:Option Int):List V:=(xs.drop (HT.sIx xs.length 0 lo)).take (HT.sIx xs.length xs.length hi-HT.sIx xs.length 0 lo)
theorem oP(xs:List V)(lo hi:Option Int):(cutV xs lo hi).length≤xs.length:=by
 unfold cutV
 rw[List.length_take,List.length_drop]
 omega
def rSlT(K:PySem.W.Frag):V→Option Int→Option Int→Hp→VK→Prop:=fun x lo hi H Q=>∃a xs,x=.ref a∧SqT K H a xs ∧
 ¬(HT.sIx xs.length 0 lo=0∧HT.sIx xs.length xs.length hi=xs.length)∧∀p,H p=none→Q (.ref p) (upd H p (.tup (cutV xs lo hi)))
theorem HW:SlR X (rSlT X.K):=by
 intro pins s σ H x v vl vu lo hi sl Q I rx hs pl pu h
 obtain⟨a,xs,rfl,hx,hw,q⟩:=h
 cases rx
 obtain⟨its,r,ht,hz⟩:=I.tuple hx
 have hlen:its.toArray.size=xs.length:=by rw[List.size_toArray];exact r.length.symm
 refine⟨"tuple",_,PyProof.Rows.slot_tuple_getitem.lookup,ht.typeIs,?_⟩
 refine HT.getItem_tuple_cut ht hs pl pu (by rw[hlen];exact hw) ?_ (by rw[hlen];exact hz)
 rw[hlen]
 refine⟨.ref s.heap.objs.size,_,I.laid (t':=s.toks) (o:=.tup (cutV xs lo hi)) (fun b ob q=>Heap.get?_push_of_some _ q) (Nat.le_refl _) ?_,rfl,q _ (I.hok.fresh (Nat.le_refl _))⟩
 exact⟨Nat.le_trans (oP xs lo hi) hz,_,(r.drop (HT.sIx xs.length 0 lo)).take (HT.sIx xs.length xs.length hi-HT.sIx xs.length 0 lo),IsTup.new _ _⟩
end
def ixN(n:Nat)(i:Int):Option Nat:=if 0≤i then(if i<n then some i.toNat else none)else if -(n:Int)≤i then some (i+n).toNat else none
def atI{α:Type}(xs:List α)(i:Int):Option α:=(ixN xs.length i).bind fun j=>xs[j]?
theorem A1{n:Nat}{i:Int}{j:Nat}(h:ixN n i=some j):seqIndex? i n=some j∧j<n∧-(n:Int)≤i∧i<n:=by
 unfold ixN at h
 by_cases h0:0≤i
 ·
  rw[if_pos h0]at h
  by_cases h1:i<n
  ·
   rw[if_pos h1]at h
   have e:i.toNat=j:=Option.some.inj h
   exact⟨by rw[seqIndex_of h0 h1,e],by omega,by omega,h1⟩
  ·
   rw[if_neg h1]at h;cases h
 ·
  rw[if_neg h0]at h
  by_cases h1 : -(n:Int)≤i
  ·
   rw[if_pos h1]at h
   have e:(i+n).toNat=j:=Option.some.inj h
   exact⟨by rw[seqIndex_neg (by omega) h1,e],by omega,h1,by omega⟩
  ·
   rw[if_neg h1]at h;cases h
theorem wK{α:Type}{xs:List α}{i:Int}{v:α}(h:atI xs i=some v):∃j,seqIndex? i xs.length=some j∧xs[j]?=some v∧j<xs.length∧-(xs.length:Int)≤i∧i<xs.length:=by
 unfold atI at h
 cases e:ixN xs.length i with
 |none=>rw[e]at h;cases h
 | some j =>
  rw[e]at h
  obtain⟨h1,h2,h3,h4⟩:=A1 e
  exact⟨j,h1,h,h2,h3,h4⟩
theorem gp{α:Type}{xs:List α}{j:Nat}{v:α}(h:xs[j]?=some v):atI xs (j:Int)=some v:=by
 have hj:j<xs.length:=(List.getElem?_eq_some_iff.mp h).1
 have e:ixN xs.length (j:Int)=some j:=by
  unfold ixN
  rw[if_pos (by omega),if_pos (by omega)];simp
 unfold atI;rw[e];exact h
def wL(b:Expr):Prop:=∀o i,subscripted b false o i=operate [o,i] (getItem o i)
def IxR(X:Cx)(r:R2):Prop :=
 ∀(value slice:Expr)(pins:List (Addr×Obj))(s:Shared)(σ:St)(H:Hp)(x y:V)(v u:Value)(Q:VK),Inv X pins σ H s→RelV x v→RelV y u→r x y H Q →
  subscripted slice false v u=operate [v,u] (getItem v u)→wpAny (model X.prog X.w) X.A (subscriptTail value slice v u) (EP X pins σ Q) X.xe s
def MtR(X:Cx)(id:String)(r:V→List V→Hp→VK→Prop):Prop :=
 ∀(pins:List (Addr×Obj))(s:Shared)(σ:St)(H:Hp)(x:V)(xs:List V)(v:Value)(us:List Value)(Q:VK),Inv X pins σ H s→RelV x v→Vals xs us→r x xs H Q →
  wpAny (model X.prog X.w) X.A (call (.builtin id) (v::us)) (EP X pins σ Q) X.xe s
section
variable{X:Cx}{a b:Expr}{ta tb:TE}{pos:Pos}
theorem JK{r:R2}(hr:IxR X r)(ha:PE X a ta)(hb:PE X b tb)(hs:wL b):PE X (.Subscript a b pos) (tOp r ta tb):=by
 intro pins s σ H Q I h
 exact Subscript_ (binT ha hb I h fun v u s2 x y H2 I2 rx ry q=>hr a b pins s2 σ H2 x y v u Q I2 rx ry q (hs _ _))
def rIxL(K:PySem.W.Frag):R2:=fun x y H Q=>∃p xs i v,x=.ref p∧y=.int i∧SqL K H p xs∧atI xs i=some v∧Q v H
def rIxT(K:PySem.W.Frag):R2:=fun x y H Q=>∃p xs i v,x=.ref p∧y=.int i∧SqT K H p xs∧atI xs i=some v∧Q v H
def rIxS:R2:=fun x y H Q=>∃z i c,x=.str z∧y=.int i∧z.length≤sizeLine∧atI z.cps.toList i=some c∧Q (.str ⟨#[c]⟩) H
theorem A2:IxR X (rIxL X.K):=by
 intro value slice pins s σ H x y v u Q I rx ry h hs
 obtain⟨p,xs,i,z,rfl,rfl,hq,he,q⟩:=h
 cases rx
 obtain⟨t,rfl⟩:=ry
 obtain⟨its,r,pl,hz⟩:=I.list hq
 obtain⟨j,h1,h2,h3,h4,h5⟩:=wK he
 obtain⟨w,ew,rw'⟩:=r.get h2
 have hl:=r.length
 have hn:=rm
 have fin:EP X pins σ Q w s:=⟨z,H,I,rw',q⟩
 by_cases h0:0≤i
 ·
  have hj:i.toNat=j:=by
   rw[seqIndex_of h0 h5]at h1
   exact Option.some.inj h1
  exact item_listR pl.isList h0 (by omega) (by rw[hj];simpa using ew) fin hs
 ·
  have hj:(i+(its.toArray.size:Int)).toNat=j:=by
   rw[seqIndex_neg (by omega) h4]at h1
   rw[List.size_toArray,← hl]
   exact Option.some.inj h1
  exact subscriptTail_builtinR (x:=w) pl.isList.typeIs slot_list_getitem.lookup
   (wpAny_getItem_list_neg (Q:=fun r s'=>r=w∧EP X pins σ Q r s') pl.isList (by omega) (by rw[List.size_toArray]<;>omega) (by omega) (by rw[hj];simpa using ew) ⟨rfl,fin⟩) hs
theorem HX:IxR X (rIxT X.K):=by
 intro value slice pins s σ H x y v u Q I rx ry h hs
 obtain⟨p,xs,i,z,rfl,rfl,hq,he,q⟩:=h
 cases rx
 obtain⟨t,rfl⟩:=ry
 obtain⟨its,r,pl,hz⟩:=I.tuple hq
 obtain⟨j,h1,h2,h3,h4,h5⟩:=wK he
 obtain⟨w,ew,rw'⟩:=r.get h2
 have hl:=r.length
 have hn:=rm
 have fin:EP X pins σ Q w s:=⟨z,H,I,rw',q⟩
 exact subscriptTail_builtinR (x:=w) pl.typeIs slot_tuple_getitem.lookup
  (getItem_tuple (j:=j) (Q:=fun r s'=>r=w∧EP X pins σ Q r s') pl (by omega) (by omega) (by rw[List.size_toArray,← hl];exact h1) (by simpa using ew) ⟨rfl,fin⟩) hs
theorem HY:IxR X rIxS:=by
 intro value slice pins s σ H x y v u Q I rx ry h hs
 obtain⟨z,i,c,rfl,rfl,hz,he,q⟩:=h
 obtain⟨t,rfl⟩:=rx
 obtain⟨t',rfl⟩:=ry
 obtain⟨j,h1,h2,h3,h4,h5⟩:=wK he
 have hl:z.cps.toList.length=z.length:=by simp[Str.length]
 rw[hl]at h1 h4 h5
 have hn:=rm
 exact tail_any (typeIs_str s z t) slot_str_getitem.lookup (getItem_str (c:=c) (by
  have e1:decide (i < -(2^63:Int))=false:=decide_eq_false (by omega)
  have e2:decide (i≥2^63)=false:=decide_eq_false (by omega)
  rw[e1,e2,Bool.or_false]) (by rw[h1];simpa using h2) ⟨.str ⟨#[c]⟩,H,I.tok _,⟨_,rfl⟩,q⟩) hs
theorem zM(its:List Value)(n j:Nat)(u:Value):Obj.mapSeq (·.setIfInBounds j u) {cls:=.type "list",data:=.seq its.toArray n}={cls:=.type "list",data:=.seq (its.set j u).toArray n}:=by
 simp[Obj.mapSeq]
theorem Inv.lst{pins:List (Addr×Obj)}{σ:St}{H:Hp}{s:Shared}{p:Addr}{xs:List V}(I:Inv X pins σ H s)(h:H p=some (.lst xs)) :
  ∃(its:List Value)(n:Nat),Vals xs its∧s.heap.get? p=some {cls:=.type "list",data:=.seq its.toArray n}∧xs.length≤sizeLine:=by
 obtain⟨z,its,n,r,e⟩:=I.hok p _ h
 exact⟨its,n,r,e,z⟩
theorem Inv.lstUpd{pins:List (Addr×Obj)}{σ:St}{H:Hp}{s:Shared}{p:Addr}{xs ys:List V}{its its':List Value}{n n':Nat}{f:Obj→Obj}(I:Inv X pins σ H s)(h:H p=some (.lst xs))
  (ho:s.heap.get? p=some {cls:=.type "list",data:=.seq its.toArray n}) (hf:f {cls:=.type "list",data:=.seq its.toArray n}={cls:=.type "list",data:=.seq its'.toArray n' }) (r:Vals ys its') (hz:ys.length≤sizeLine) (t:Nat) :
  Inv X pins σ (upd H p (.lst ys)) {s with heap:=s.heap.update p f,toks:=t}:=by
 have e:(s.heap.update p f).get? p=some {cls:=.type "list",data:=.seq its'.toArray n' }:=by
  rw[Heap.get?_update_self f ho (by rw[hf]<;>rfl),hf]
 refine I.write (x:=p) (e:=p) (by rw[h];trivial) (.inl rfl) (fun b u hb q=>(Heap.get?_update_other _ _ (Ne.symm hb)).trans q) ⟨_,e⟩ ?_
 exact⟨hz,its',n',r,e⟩
def JL:V→V→V→Hp→(Hp→Prop)→Prop:=fun o i v H Q=>∃p xs k j,o=.ref p∧i=.int k∧H p=some (.lst xs)∧ixN xs.length k=some j∧Q (upd H p (.lst (xs.set j v)))
theorem Dq:PSet X JL:=by
 intro pins s σ H o i v ov iv u Q I ro ri rv h
 obtain⟨p,xs,k,j,rfl,rfl,hp,hj,q⟩:=h
 cases ro
 obtain⟨t,rfl⟩:=ri
 obtain⟨its,n,r,ho,hz⟩:=I.lst hp
 obtain⟨h1,h2,h3,h4⟩:=A1 hj
 have hl:=r.length
 have hn:=rm
 have I':Inv X pins σ (upd H p (.lst (xs.set j v))) {s with heap:=s.heap.update p (Obj.mapSeq (·.setIfInBounds j u)) } :=
  I.lstUpd hp ho (zM its n j u) (r.set rv j) (by rw[List.length_set];exact hz) s.toks
 by_cases h0:0≤k
 ·
  have hk:k.toNat=j:=by
   rw[seqIndex_of h0 h4]at h1
   exact Option.some.inj h1
  exact PySem.W.ki_setAt ho h0 (by omega) (by rw[List.size_toArray,← hl];exact h4) (by rw[hk];exact⟨_,I',q⟩)
 ·
  have hk:(k+(its.toArray.size:Int)).toNat=j:=by
   rw[seqIndex_neg (by omega) h3]at h1
   rw[List.size_toArray,← hl]
   exact Option.some.inj h1
  exact PySem.W.ki_setBack ho (by omega) (by rw[List.size_toArray,← hl];exact h3) (by omega) (by rw[hk];exact⟨_,I',q⟩)
theorem uP(lo hi:Option Int)(n:Nat):(sliceBounds lo hi none n).1=((HT.sIx n 0 lo:Nat):Int)∧(sliceBounds lo hi none n).2.1=((HT.sIx n n hi:Nat):Int)∧(sliceBounds lo hi none n).2.2=1:=by
 refine⟨?_,?_,rfl⟩
 ·
  cases lo with
  |none=>simp[sliceBounds,HT.sIx]
  | some i =>
   simp only[sliceBounds,HT.sIx,Option.getD_none,show(1:Int) > 0 by decide,if_true]
   by_cases h:i<0
   ·
    simp only[h,if_true]<;>omega
   ·
    simp only[h,if_false]<;>omega
 ·
  cases hi with
  |none=>simp[sliceBounds,HT.sIx]
  | some i =>
   simp only[sliceBounds,HT.sIx,Option.getD_none,show(1:Int) > 0 by decide,if_true]
   by_cases h:i<0
   ·
    simp only[h,if_true]<;>omega
   ·
    simp only[h,if_false]<;>omega
theorem rX(its:List Value)(lo hi:Option Int):slicePick its.toArray lo hi none=((its.drop (HT.sIx its.length 0 lo)).take (HT.sIx its.length its.length hi-HT.sIx its.length 0 lo)).toArray:=by
 obtain⟨h1,h2,h3⟩:=uP lo hi its.toArray.size
 unfold slicePick
 rw[h1,h2,h3]
 simp only[sliceRange_one,pick_run,List.size_toArray]<;>rfl
def rSlL(K:PySem.W.Frag):V→Option Int→Option Int→Hp→VK→Prop:=fun x lo hi H Q=>∃a xs,x=.ref a∧SqL K H a xs∧∀p,H p=none→Q (.ref p) (upd H p (.lst (cutV xs lo hi)))
theorem FR:SlR X (rSlL X.K):=by
 intro pins s σ H x v vl vu lo hi sl Q I rx hs pl pu h
 obtain⟨a,xs,rfl,hx,q⟩:=h
 cases rx
 obtain⟨its,r,ht,hz⟩:=I.list hx
 have hlen:=r.length
 refine⟨"list",_,slot_list_getitem.lookup,ht.isList.typeIs,?_⟩
 refine wpAny_getItem_list_slice ht.isList hs pl pu .none (by simp) ?_ (by rw[List.size_toArray]<;>omega)
 rw[rX,← hlen]
 refine⟨.ref s.heap.objs.size,_,I.laid (t':=s.toks) (o:=.lst (cutV xs lo hi)) (fun b ob q=>Heap.get?_push_of_some _ q) (Nat.le_refl _) ?_,rfl,q _ (I.hok.fresh (Nat.le_refl _))⟩
 exact⟨Nat.le_trans (oP xs lo hi) hz,_,0,(r.drop (HT.sIx xs.length 0 lo)).take (HT.sIx xs.length xs.length hi-HT.sIx xs.length 0 lo),Heap.get?_push_size _ rfl⟩
def qI:V→Bool
 |.non=>true
 |.bl _=>true
 |.int _=>true
 |.str _=>true
 |_=>false
def eqV:V→V→Bool
 |.non,.non=>true
 |.bl a,.bl b=>a == b
 |.bl a,.int b=>(if a then 1 else 0) == b
 |.int a,.bl b=>a == (if b then 1 else 0)
 |.int a,.int b=>a == b
 |.str a,.str b=>a == b
 |_,_=>false
theorem H0{A:Around}{s:Shared}{y x:V}{u v:Value}(ry:RelV y u)(rx:RelV x v)(fy:qI y=true)(fx:qI x=true):SeqAt.EqAt A s u v (eqV y x):=by
 cases y with
 | non =>
  cases ry
  cases x with
  |non=>cases rx;exact SeqAt.EqAt.same _
  |bl b=>cases rx;exact SeqAt.EqAt.none_bool b
  |int b=>obtain⟨t,rfl⟩:=rx;exact SeqAt.EqAt.none_int b t
  |str b=>obtain⟨t,rfl⟩:=rx;exact SeqAt.EqAt.none_str b t
  |_=>exact absurd (show false=true from fx) Bool.false_ne_true
 | bl a =>
  cases ry
  cases x with
  |non=>cases rx;exact SeqAt.EqAt.bool_none a
  |bl b=>cases rx;exact SeqAt.EqAt.bool_bool a b
  |int b=>obtain⟨t,rfl⟩:=rx;exact SeqAt.EqAt.bool_int a b t
  |str b=>obtain⟨t,rfl⟩:=rx;exact SeqAt.EqAt.bool_str a b t
  |_=>exact absurd (show false=true from fx) Bool.false_ne_true
 | int a =>
  obtain⟨t',rfl⟩:=ry
  cases x with
  |non=>cases rx;exact SeqAt.EqAt.int_none a t'
  |bl b=>cases rx;exact SeqAt.EqAt.int_bool a t' b
  |int b=>obtain⟨t,rfl⟩:=rx;exact SeqAt.EqAt.int_int a t' b t
  |str b=>obtain⟨t,rfl⟩:=rx;exact SeqAt.EqAt.int_str a t' b t
  |_=>exact absurd (show false=true from fx) Bool.false_ne_true
 | str a =>
  obtain⟨t',rfl⟩:=ry
  cases x with
  |non=>cases rx;exact SeqAt.EqAt.str_none a t'
  |bl b=>cases rx;exact SeqAt.EqAt.str_bool a t' b
  |int b=>obtain⟨t,rfl⟩:=rx;exact SeqAt.EqAt.str_int a t' b t
  |str b=>obtain⟨t,rfl⟩:=rx;exact SeqAt.EqAt.str_str a t' b t
  |_=>exact absurd (show false=true from fx) Bool.false_ne_true
 |_=>exact absurd (show false=true from fy) Bool.false_ne_true
def eqU(x:V)(u:Value):Bool:=match u with
 |.none=>eqV .non x
 |.bool b=>eqV (.bl b) x
 |.int i _=>eqV (.int i) x
 |.str z _=>eqV (.str z) x
 |_=>false
theorem Fn{x y:V}{u:Value}(r:RelV y u)(f:qI y=true):eqU x u=eqV y x:=by
 cases y with
 |non=>cases r;rfl
 |bl b=>cases r;rfl
 |int i=>obtain⟨t,rfl⟩:=r;rfl
 |str z=>obtain⟨t,rfl⟩:=r;rfl
 |_=>exact absurd (show false=true from f) Bool.false_ne_true
theorem wM{x:V}:∀{xs:List V}{us:List Value},Vals xs us→xs.all qI=true→us.any (eqU x)=xs.any fun y=>eqV y x
 |_,_,.nil,_=>rfl
 | y::xs,u::us,.cons r t,f=>by
  rw[List.all_cons,Bool.and_eq_true]at f
  rw[List.any_cons,List.any_cons,Fn r f.1,wM t f.2]
theorem rY{A:Around}{s:Shared}{x:V}{v:Value}(rx:RelV x v)(fx:qI x=true):∀{xs:List V}{us:List Value},Vals xs us→xs.all qI=true→∀u∈us,SeqAt.EqAt A s u v (eqU x u)
 |_,_,.nil,_=>fun u hu=>by cases hu
 | y::xs,u::us,.cons r t,f=>fun u' hu=>by
  rw[List.all_cons,Bool.and_eq_true]at f
  rcases List.mem_cons.mp hu with rfl|hu
  ·
   rw[Fn r f.1];exact H0 r rx f.1 fx
  ·
   exact rY rx fx t f.2 u' hu
def inV(x:V)(xs:List V):Bool:=xs.any fun y=>eqV y x
def rIn(K:PySem.W.Frag)(neg:Bool):R2:=fun x y H Q=>∃p xs,y=.ref p∧(SqL K H p xs∨SqT K H p xs)∧qI x=true∧xs.all qI=true∧Q (.bl (if neg then !inV x xs else inV x xs)) H
theorem A3:OpR X (compareOp .In) (rIn X.K false):=by
 intro pins s σ H x y v u Q I rx ry h
 obtain⟨p,xs,rfl,hq,fx,fs,q⟩:=h
 cases ry
 rcases hq with hq|hq
 ·
  obtain⟨its,r,pl,hz⟩:=I.list hq
  refine SeqAt.in_listAt (eqU x) pl.isList (fun w hw=>rY rx fx r fs w (by simpa using hw)) ⟨.bl _,H,I,rfl,?_⟩
  rw[show its.toArray.any (eqU x)=its.any (eqU x) by simp,wM r fs]
  exact q
 ·
  obtain⟨its,r,pl,hz⟩:=I.tuple hq
  refine SeqAt.in_tupleAt (eqU x) pl (fun w hw=>rY rx fx r fs w (by simpa using hw)) ⟨.bl _,H,I,rfl,?_⟩
  rw[show its.toArray.any (eqU x)=its.any (eqU x) by simp,wM r fs]
  exact q
theorem nH:iu X (.builtin "len") (fun xs H Q=>∃ p ys,xs=[.ref p]∧(SqL X.K H p ys∨SqT X.K H p ys)∧Q (.int ys.length) H):=by
 intro pins s σ H xs us Q I r h
 obtain⟨p,ys,rfl,hq,q⟩:=h
 obtain⟨u,rfl,rx⟩:=oO r
 cases rx
 have hn:=rm
 rcases hq with hq|hq
 ·
  obtain⟨its,r',pl,hz⟩:=I.list hq
  have hlen:=r'.length
  exact Calls.call_len_list pl.isList (by simp only[List.size_toArray]<;>omega) ⟨.int ys.length,H,I.tok _,⟨s.toks+1,by rw[List.size_toArray,hlen]⟩,q⟩
 ·
  obtain⟨its,r',pl,hz⟩:=I.tuple hq
  have hlen:=r'.length
  exact len_tuple pl (by simp only[List.size_toArray]<;>omega) ⟨.int ys.length,H,I.tok _,⟨s.toks+1,by rw[List.size_toArray,hlen]⟩,q⟩
theorem uR:iu X (.builtin "len") (fun xs H Q=>∃ z,xs=[.str z]∧z.length≤sizeLine∧Q (.int z.length) H):=by
 intro pins s σ H xs us Q I r h
 obtain⟨z,rfl,hz,q⟩:=h
 obtain⟨u,rfl,t,rfl⟩:=oO r
 have hn:=rm
 exact len_str (by omega) ⟨.int z.length,H,I.tok _,⟨_,rfl⟩,q⟩
theorem iu.or{f:Value}{r r':List V→Hp→VK→Prop}(h:iu X f r)(h':iu X f r'):iu X f (fun xs H Q=>r xs H Q∨r' xs H Q):=by
 intro pins s σ H xs us Q I rs q
 rcases q with q|q
 ·
  exact h pins s σ H xs us Q I rs q
 ·
  exact h' pins s σ H xs us Q I rs q
theorem uS:iu X (.type "list") (fun xs H Q=>∃ p ys,xs=[.ref p]∧(SqL X.K H p ys∨SqT X.K H p ys)∧∀ l,H l=none→Q (.ref l) (upd H l (.lst ys))):=by
 intro pins s σ H xs us Q I r h
 obtain⟨p,ys,rfl,hq,q⟩:=h
 obtain⟨u,rfl,rx⟩:=oO r
 cases rx
 have fin:∀(its:List Value),Vals ys its→ys.length≤sizeLine→∀(h':Heap)(c':Nat),(∀b o',s.heap.get? b=some o'→h'.get? b=some o') →
   h'.get? s.heap.objs.size=some {cls:=.type "list",dict:=none,data:=.seq its.toArray c',slots:=#[] }→EP X pins σ Q (.ref s.heap.objs.size) {s with heap:=h' }:=fun its r' hz h' c' kp e =>
  ⟨.ref s.heap.objs.size,_,I.laid (t':=s.toks) kp (Nat.le_refl _) (show fU X.prog X.w _ h' _ (.lst ys)from⟨hz,its,c',r',e⟩),rfl,q _ (I.hok.fresh (Nat.le_refl _))⟩
 rcases hq with hq|hq
 ·
  obtain⟨its,r',pl,hz⟩:=I.list hq
  have hlen:=r'.length
  obtain⟨o,ho,hc,n,hd⟩:=pl.isList
  exact call_list_seq p (.inl rfl) ho hc hd (fun h' c' kp e=>fin its r' hz h' c' kp e) (by simp only[List.size_toArray]<;>omega)
 ·
  obtain⟨its,r',pl,hz⟩:=I.tuple hq
  have hlen:=r'.length
  obtain⟨o,ho,hc,n,hd⟩:=pl
  exact call_list_seq p (.inr rfl) ho hc hd (fun h' c' kp e=>fin its r' hz h' c' kp e) (by simp only[List.size_toArray]<;>omega)
theorem rZ:iu X (.type "tuple") (fun xs H Q=>∃ p ys,xs=[.ref p]∧((SqL X.K H p ys∧∀ l,H l=none→Q (.ref l) (upd H l (.tup ys)))∨(SqT X.K H p ys∧Q (.ref p) H))):=by
 intro pins s σ H xs us Q I r h
 obtain⟨p,ys,rfl,h⟩:=h
 obtain⟨u,rfl,rx⟩:=oO r
 cases rx
 rcases h with⟨hq,q⟩|⟨hq,q⟩
 ·
  obtain⟨its,r',pl,hz⟩:=I.list hq
  have hlen:=r'.length
  refine call_tuple_list pl.isList (fun h' kp=>?_) (by simp only[List.size_toArray]<;>omega)
  have I1:Inv X pins σ H {s with heap:=h' }:=I.kept (t':=s.toks) kp
  have I2:Inv X pins σ (upd H h'.objs.size (.tup ys)) {s with heap:=h'.push {cls:=.type "tuple",data:=.seq its.toArray} } :=
   I1.laid (t':=s.toks) (fun b o e=>Heap.get?_push_of_some _ e) (Nat.le_refl _) (show fU X.prog X.w _ _ _ (.tup ys)from⟨hz,its,r',IsTup.new _ _⟩)
  exact⟨.ref h'.objs.size,_,I2,rfl,q _ (I1.hok.fresh (Nat.le_refl _))⟩
 ·
  obtain⟨its,r',pl,hz⟩:=I.tuple hq
  exact call_tuple_same pl ⟨.ref p,H,I,rfl,q⟩
def tyV(K:PySem.W.Frag)(T:String)(x:V)(H:Hp):Prop:=match x with
 |.str _=>T="str"
 |.int _=>T="int"
 | .ref p=>(T="list"∧∃ xs,SqL K H p xs)∨(T="tuple"∧∃ o,K.lookup p=some o∧o.cls=.type "tuple"∧o.dict=none) ∨
   (T="dict"∧((∃ kvs,H p=some (.dK kvs))∨∃ kvs,H p=some (.dT kvs)))∨(T="set"∧∃ S n,H p=some (.set S n))
 |_=>False
theorem Ib{pins:List (Addr×Obj)}{σ:St}{H:Hp}{s:Shared}{T:String}{x:V}{v:Value}(I:Inv X pins σ H s)(r:RelV x v)(ty:tyV X.K T x H) :
  s.TypeIs v T∧∀a,v=.ref a→∃ob,s.heap.get? a=some ob∧ob.dict=none:=by
 cases x with
 | str z =>
  obtain⟨t,rfl⟩:=r
  cases(show T="str" from ty)
  exact⟨typeIs_str s z t,fun _ e=>nomatch e⟩
 | int i =>
  obtain⟨t,rfl⟩:=r
  cases(show T="int" from ty)
  exact⟨typeIs_int s i t,fun _ e=>nomatch e⟩
 | ref p =>
  cases r
  rcases ty with⟨rfl,xs,hq⟩|⟨rfl,o,hk,hc,hd⟩|⟨rfl,hk⟩|⟨rfl,S,n,hk⟩
  ·
   obtain⟨its,_,pl,_⟩:=I.list hq
   refine⟨pl.isList.typeIs,fun a e=>?_⟩
   cases e
   obtain⟨o,n,e,c,hd,_⟩:=pl
   exact⟨o,e,hd⟩
  ·
   refine⟨⟨o,I.kIn p o hk,hc⟩,fun a e=>?_⟩
   cases e
   exact⟨o,I.kIn _ o hk,hd⟩
  ·
   have z:∃o,s.heap.get? p=some o∧o.ExactDict:=by
    rcases hk with⟨kvs,hk⟩|⟨kvs,hk⟩
    ·
     obtain⟨_,_,_,_,o,_,_,e,ex,_⟩:=I.hok p _ hk
     exact⟨o,e,ex⟩
    ·
     obtain⟨_,_,_,_,o,_,_,e,ex,_⟩:=I.hok p _ hk
     exact⟨o,e,ex⟩
   obtain⟨o,e,ex⟩:=z
   refine⟨⟨o,e,ex.1⟩,fun a e2=>?_⟩
   cases e2
   exact⟨o,e,ex.2.1⟩
  ·
   obtain⟨o,_,_,_,e,ex,_⟩:=I.hok p _ hk
   refine⟨⟨o,e,ex.1⟩,fun a e2=>?_⟩
   cases e2
   exact⟨o,e,ex.2.1⟩
 |_=>exact False.elim ty
def tBM(K:PySem.W.Frag)(T:String)(r:V→List V→Hp→VK→Prop)(to:TE)(t:TA):TE:=fun σ H Q=>to σ H fun x H1=>tyV K T x H1∧t σ H1 fun xs H2=>r x xs H2 Q
variable{o e:Expr}{es:List Expr}{to:TE}{t:TA}{name:Str}{apos cpos:Pos}{T id:String}{r:V→List V→Hp→VK→Prop}
theorem FT(pa:PlainAttrs T)(slot:Slot T name id) (hty:typeOf (.builtin id)=pure (.type "method_descriptor")) (hm:MtR X id r) (ho:PE X o to) (ha:PA X (e::es) t)
  (hbase:attributeBase o name X.env (eval o X.env)=eval o X.env:=by rfl)
  (hfew:((backTo cpos (starEach (e::es) X.env)).all (fun x=>!x.1) && (backToKw cpos (keywordEach [] X.env)).all (fun x=>x.1.isSome)
   && decide ((e::es).length+([]:List Keyword).length+(if([]:List Keyword).isEmpty then 0 else 1)<30))=true:=by rfl)
  (hline:(apos.endLine == cpos.line)=true:=by rfl) (hs:starEach (e::es) X.env=(false,eval e X.env)::starEach es X.env:=by rfl) (hplain:(backTo cpos (starEach es X.env)).any (·.1)=false:=by rfl) :
  PE X (.Call (.Attribute o name apos) (e::es) [] cpos) (tBM X.K T r to t):=by
 intro pins s σ H Q I h
 refine wpAny_Call_method_late hbase hfew hline rfl (thn (ho pins s σ H _ I h) fun v s1 ⟨x,H1,I1,r1,ty,q1⟩=>?_)
 obtain⟨h1,h2⟩:=Ib I1 r1 ty
 refine⟨T,id,pa,slot,hty,h1,h2,?_⟩
 have hA:=ha cpos pins s1 σ H1 _ I1 q1
 rw[hs]at hA ⊢
 refine Calls.callWith_builtin (by show(false ||(backTo cpos (starEach es X.env)).any (·.1))=false;rw[hplain]<;>rfl) (Calls.evalArgs_plain ?_)
 exact thn hA fun us s2 ⟨vs,H2,I2,r2,q2⟩=>hm pins s2 σ H2 x vs v us Q I2 r1 r2 q2
/- xs.append(e),list.index on a module's tuple .. are MtR facts of 06m -/
end
def MtM(X:Cx)(id:String)(r:V→List V→Hp→VK→Prop):Prop :=
 ∀(pins:List (Addr×Obj))(s:Shared)(σ:St)(H:Hp)(x:V)(xs:List V)(v:Value)(us:List Value)(Q:VK),Inv X pins σ H s→RelV x v→Vals xs us→r x xs H Q →
  wpAny (model X.prog X.w) X.A (call (.builtin id) (v::us)) (EP X pins σ Q) X.xe s
theorem Vals.one:∀{x:V}{us:List Value},Vals [x] us→∃u,us=[u]∧RelV x u
 |_,_,.cons r .nil=>⟨_,rfl,r⟩
theorem Vals.two:∀{x y:V}{us:List Value},Vals [x,y] us→∃u v,us=[u,v]∧RelV x u∧RelV y v
 |_,_,_,.cons r (.cons q .nil)=>⟨_,_,rfl,r,q⟩
theorem Vals.reverse{xs:List V}{us:List Value}(h:Vals xs us):Vals xs.reverse us.reverse:=by
 induction h with
 |nil=>exact .nil
 |cons r t ih=>rw[List.reverse_cons,List.reverse_cons];exact Vals.append ih (.cons r .nil)
section
variable{X:Cx}{pins:List (Addr×Obj)}{σ:St}{H:Hp}{s:Shared}{l:Addr}{xs ys:List V}
theorem Inv.lset{its its':List Value}{n:Nat}{f:Array Value→Array Value}{t':Nat}(I:Inv X pins σ H s)(hH:H l=some (.lst xs))
  (e:s.heap.get? l=some {cls:=.type "list",data:=.seq its.toArray n}) (hf:f its.toArray=its'.toArray) (hv:Vals ys its') (hz:ys.length≤sizeLine) :
  Inv X pins σ (upd H l (.lst ys)) {s with heap:=s.heap.update l (Obj.mapSeq f),toks:=t' }:=by
 have q:=PySem.IsL.update e f
 rw[hf]at q
 refine I.write (x:=l) (e:=l) (by rw[hH];exact trivial) (.inl rfl) (fun b' u hb hu=>(Heap.get?_update_other s.heap (Obj.mapSeq f) (Ne.symm hb)).trans hu) ⟨_,q⟩ ?_
 exact⟨hz,its',_,hv,q⟩
theorem Inv.lnew{its:List Value}{t':Nat}(I:Inv X pins σ H s)(hv:Vals ys its)(hz:ys.length≤sizeLine) :
  Inv X pins σ (upd H s.heap.objs.size (.lst ys)) {s with heap:=s.heap.push {cls:=.type "list",data:=.seq its.toArray},toks:=t' } :=
 I.laid (fun _ _ q=>Heap.get?_push_of_some _ q) (Nat.le_refl _) ⟨hz,its,0,hv,Heap.get?_push_size _ rfl⟩
theorem Inv.fresh(I:Inv X pins σ H s):H s.heap.objs.size=none:=I.hok.fresh (Nat.le_refl _)
theorem Inv.lstM(I:Inv X pins σ H s)(hH:H l=some (.lst xs)):xs.length≤sizeLine∧∃(its:List Value)(n:Nat),Vals xs its∧xs.length=its.length∧s.heap.get? l=some {cls:=.type "list",data:=.seq its.toArray n}:=by
 obtain⟨z,its,n,r,e⟩:=I.hok l _ hH
 exact⟨z,its,n,r,r.length,e⟩
theorem Dr{n:Nat}(h:n≤sizeLine):Builtin.List.listTooLong n=false:=by
 unfold Builtin.List.listTooLong
 exact decide_eq_false (by omega)
end
section
variable{X:Cx}
def FU:V→List V→Hp→VK→Prop:=fun x vs H Q=>∃l xs y,x=.ref l∧vs=[y]∧H l=some (.lst xs)∧xs.length<sizeLine∧Q .non (upd H l (.lst (xs++[y])))
theorem uT:MtM X "list.append" FU:=by
 intro pins s σ H x vs v us Q I rx rv h
 obtain⟨l,xs,y,rfl,rfl,hH,hz,q⟩:=h
 cases rx
 obtain⟨u,rfl,ru⟩:=rv.one
 obtain⟨z,its,n,r,hl,e⟩:=I.lstM hH
 refine call_meets F.slot_list_append ⟨_,e,rfl⟩ F.entry_list_append (F.args_list_append_2 _ _) (PySem.list_append l its.toArray n u (by rw[List.size_toArray];omega)) ⟨e,?_⟩
 refine⟨.non,_,I.lset (its':=its++[u]) hH e (by simp) (r.append (.cons ru .nil)) ?_,rfl,q⟩
 rw[List.length_append,List.length_singleton]
 omega
def FV:V→List V→Hp→VK→Prop:=fun x vs H Q=>∃l b xs zs,x=.ref l∧vs=[.ref b]∧H l=some (.lst xs)∧H b=some (.lst zs)∧xs.length+zs.length≤sizeLine∧Q .non (upd H l (.lst (xs++zs)))
theorem A4:MtM X "list.extend" FV:=by
 intro pins s σ H x vs v us Q I rx rv h
 obtain⟨l,b,xs,zs,rfl,rfl,hH,hB,hz,q⟩:=h
 cases rx
 obtain⟨u,rfl,ru⟩:=rv.one
 cases ru
 obtain⟨z,its,n,r,hl,e⟩:=I.lstM hH
 obtain⟨z2,its2,n2,r2,hl2,e2⟩:=I.lstM hB
 have hsz:its.toArray.size+its2.toArray.size≤sizeLine:=by rw[List.size_toArray,List.size_toArray];omega
 have hlong:¬(!its.toArray.isEmpty && Builtin.List.listTooLong (its.toArray.size+its2.toArray.size))=true:=by
  rw[Dr hsz,Bool.and_false]
  exact Bool.false_ne_true
 refine call_meets F.slot_list_extend ⟨_,e,rfl⟩ F.entry_list_extend (F.args_list_extend_2 _ _)
  (AutoSeq1.list_extend_list_list_0 l its.toArray n b its2.toArray n2 hlong (by rw[List.size_toArray];omega) (by omega)) ⟨e,e2,?_⟩
 refine⟨.non,_,I.lset (its':=its++its2) hH e (by simp) (r.append r2) ?_,rfl,q⟩
 rw[List.length_append]
 omega
end
end L2
namespace Att
open PySem PySem.W PySem.Calls PyProof.Rows
theorem oQ{P:Params}{h:Heap}:∀(ns:List Int)(vs:List Value),WellAll P h vs (ns.map WData.int)→IntsAre vs ns:=by
 intro ns
 induction ns with
 | nil =>
  intro vs w
  rw[List.map_nil]at w
  cases w
  exact .nil
 | cons n ns ih =>
  intro vs w
  rw[List.map_cons]at w
  cases w with
  | cons a b =>
   cases a
   exact .cons _ _ (ih _ b)
theorem A5{l:OpenLaw}{n:Nat}(hn:l.most=some n){P:Params}{h:Heap}{args:List WData}{vals:List Value}
  (hpre:l.row.toRowW.claim.pre args=true) (hwl:WellAll P h vals args) :
  ∃ a vs ns,vals=[Value.ref a]∧args=[WData.list (ns.map WData.int)]∧h.get? a=some {cls:=.type "list",data:=.seq vs.toArray}∧IntsAre vs ns∧ns.length≤n:=by
 have hsh:WShape.hasAll [] args [.list .int]=true:=(pre_splitW hpre).1
 have hc:l.pre.holds [] {args:=args}=true:=(pre_splitW hpre).2
 obtain⟨d,r,rfl,h1,h2⟩:=hasAllW_cons hsh
 obtain rfl:=hasAllW_nil h2
 obtain⟨xs,rfl,h3⟩:=hasW_list h1
 obtain⟨ns,rfl⟩:=items_int h3
 have hlen:ns.length≤n:=by
  unfold OpenLaw.pre at hc
  have h4:(WTm.not (.lt (.lit (.int (n:Int))) (.len (.arg 0)))).holds [] {args:=[.list (ns.map .int)] }=true:=by
   have h4:=(holds_andW hc).1
   rw[hn]at h4
   exact h4
  have h5:=condW_of h4 (w_not (w_lt w_lit (w_len_list (w_arg rfl))))
  rw[List.length_map]at h5
  refine Nat.le_of_not_lt fun q=>?_
  have q':(n:Int)<((ns.length:Nat):Int):=by omega
  first
   |(rw[decide_eq_true q']at h5;exact absurd h5 (by decide))
   |(simp at h5;omega)
 cases hwl with
 | cons w1 w2 =>
  cases w2
  cases w1 with
  |list ho hall=>exact⟨_,_,ns,rfl,rfl,ho,oQ ns _ hall,hlen⟩
theorem A6(l:OpenLaw)(args:List WData):l.row.toRowW.claim.post args (.bool true) args=true :=
 postW_of (r:=l.row.toRowW) (X:=(true == true))
  (show WShape.has [] (.bool true) .bool=true by first|rfl|decide|simp[WShape.has,WShape.arms,WShape.armsAll])
  (show(WTm.eq .res (.lit (.bool true))).value [] {args:=args,res:=some (.bool true),after:=args}=some (.bool (true == true))from w_eq_bool (w_res rfl) w_lit) rfl
theorem attach_call{l:OpenLaw}{n:Nat}{q:Program}{loose:List Str}{XP:(Str→Option Value)→Heap→Prop}{YP:World→Heap→Prop}{d:DefRec}
  (hn:l.most=some n) (hdf:d.params.defaults=[])
  (call:∀(w:World)(s₀ s₁:Shared)(mg mb:Str→Option Value)(fa:Addr)(o:Obj)(pm cd doc:Value)(a:Addr)(vs:List Value)(ns:List Int),
   Ground q loose [] XP w s₀ mg mb s₁.heap→YP w s₁.heap →
   s₁.heap.get? fa=some o→o.data=.func (docDef d.name d.params d.body d.scope pm cd doc)→s₁.heap.CodeRec cd d.name→mg d.name=some (.ref fa) →
   s₁.heap.get? a=some {cls:=.type "list",data:=.seq vs.toArray}→IntsAre vs ns→ns.length≤n→s₁.gens=#[] →
   codeAny (model l.prog w) callerA (.call (.ref fa) ⟨[.ref a],[]⟩) (fun r s'=>r=.ok (.ret (.bool true))∧OldK s₁.heap s'.heap∧s'.os=s₁.os∧AllBare s'.gens) s₁) :
  WalkO q loose XP YP l.row.toRowW d [] (fun f vs=>PySem.call f vs):=by
 intro w s₀ s₁ mg mb G Y fa o pm cd doc dV kV ho hd hcd hD hmg hg args vals as hpre hlay hrd hwl hlo
 obtain rfl:dV=.none:=Dflts.none hD hdf
 obtain rfl:kV=.none:=Dflts.noKw hD
 obtain⟨a,vs,ns,rfl,rfl,hobj,hints,hlen⟩:=A5 hn hpre hwl
 refine enter_call (codeAny_mono (call w s₀ s₁ mg mb fa o pm cd doc a vs ns G Y ho (fd_plain hd) hcd hmg hobj hints hlen hg) fun r s' hq=>?_)
 obtain⟨rfl,h2,h3,h4⟩:=hq
 exact⟨.inl ⟨.bool true,.bool true,[],rfl,fun _=>rfl,.bool true,A6 l _,fun _=>⟨List.Pairwise.nil,fun _ hm=>(nomatch hm)⟩⟩,h2,h3,h4⟩
section
def Kn(h:Heap)(L d:Addr):List (Addr×Obj):=(List.range h.objs.size).filterMap fun a=>if a=L∨a=d then none else(h.get? a).map fun o=>(a,o)
end
end Att
namespace L2
open PySem PySem.Spec PyProof.Rows
theorem uU:∀{vs:List Value}{ns:List Int},IntsAre vs ns→Vals (ns.map V.int) vs
 |_,_,.nil=>.nil
 |_,_,.cons n t h=>.cons ⟨t,rfl⟩ (uU h)
def Only(H:Hp):Prop:=∀b,H b=none∨(∃o xs,H b=some (.frz o (.lst xs)))∨∃q,H b=some (.tbl q)
def dP(K:PySem.W.Frag):List (Addr×Str):=lamNames.filterMap fun x=>(PySem.W.tabIn K x).map fun p=>(p.2,lamQ x)
def tabsOk(K:PySem.W.Frag):Bool:=decide ((dP K).map (·.1)).Nodup && (dP K).all fun p=>(K.lookup p.1).isNone
theorem A7{K:PySem.W.Frag}{P:Addr}{q:Str}(h:(P,q)∈dP K):∃x∈lamNames,∃c,PySem.W.tabIn K x=some (c,P)∧q=lamQ x:=by
 obtain⟨x,hx,e⟩:=List.mem_filterMap.mp h
 cases z:PySem.W.tabIn K x with
 |none=>rw[z]at e;cases e
 |some p=>rw[z]at e;cases e;exact⟨x,hx,p.1,z,rfl⟩
theorem jX{α β:Type}[BEq α][LawfulBEq α]:∀{l:List (α×β)}{a:α}{b:β},l.lookup a=some b→(a,b)∈l
 |[],_,_,h=>nomatch h
 | (x,y)::r,a,b,h=>by
  rw[List.lookup_cons]at h
  cases hb:a == x with
  |true=>rw[hb]at h;cases h;rw[eq_of_beq hb];exact .head _
  |false=>rw[hb]at h;exact .tail _ (jX h)
theorem iw{α β:Type}[BEq α][LawfulBEq α]:∀{l:List (α×β)}{a:α}{b:β},(l.map (·.1)).Nodup→(a,b)∈l→l.lookup a=some b
 |[],_,_,_,h=>nomatch h
 | (x,y)::r,a,b,nd,h=>by
  rw[List.map_cons,List.nodup_cons]at nd
  rw[List.lookup_cons]
  rcases List.mem_cons.mp h with e|h
  ·
   cases e;simp
  ·
   have:a≠x:=fun z=>nd.1 (z ▸ List.mem_map_of_mem (f:=(·.1)) h)
   rw[show(a == x)=false from beq_false_of_ne this]
   exact iw nd.2 h
theorem zN{K:PySem.W.Frag}{x:Str}{c P:Addr}(h:PySem.W.tabIn K x=some (c,P)):K.lookup c≠none:=by
 unfold PySem.W.tabIn at h
 split at h
 ·
  split at h
  ·
   split at h
   ·
    split at h
    ·
     rename_i hco
     split at h
     ·
      cases h;intro z;rw[hco]at z;cases z
     ·
      cases h
    ·
     cases h
   ·
    cases h
  ·
   cases h
 ·
  cases h
theorem Ds{P:Program}{w:World}{K:PySem.W.Frag}{mg mb:Str→Option Value}{CX:CXT}{k:Nat}{fa a:Addr}{fd:FuncData}{x:Str}{sp:Sp}{s₁:Shared}{vs:List Value}{ns:List Int}
  (KX:K.In s₁.heap) (hns:s₁.heap.Ns mainGlobals mg) (hb:s₁.heap.Ns builtinsNs mb) (hbb:∀ x:Str,x≠"__name__"→mb x=bootBuiltins x) (hlim:s₁.heap.NoLimit) (hsys:∃ mm,s₁.heap.Ns sysModules mm) (hbm:HE mg s₁.heap) (hto:tabsOk K=true)
  (htb:∀x∈lamNames,∀c P,PySem.W.tabIn K x=some (c,P)→PySem.W.CodeHd s₁.heap c P∧s₁.heap.get? P=some (PySem.W.tabObj #[])) (hg:s₁.gens=#[])
  (ha:s₁.heap.get? a=some {cls:=.type "list",data:=.seq vs.toArray}) (hi:IntsAre vs ns) (hl:ns.length≤sizeLine) (hr:Room k callerA)
  (F:∀base:Heap,K.In base→base.Ns mainGlobals mg→FnOk P w K mg base CX k fa fd [x] sp) (hbind:∀(s:Shared)(u:Value),BindsTo s fd ⟨[u],[]⟩ [(x,u)])
  (hsp:∀H:Hp,Only H→SqL K H a (ns.map V.int)→sp [.ref a] H (fun v _=>v=.bl true) fun _ _ _=>False)
  (hCX:∀H e s',CX [] H s₁ (fun _ _ _=>False) e s'→False) :
  codeAny (model P w) callerA (.call (.ref fa) ⟨[.ref a],[]⟩) (fun r s'=>r=.ok (.ret (.bool true))∧OldK s₁.heap s'.heap∧s'.os=s₁.os∧AllBare s'.gens) s₁:=by
 have rv:=uU hi
 have lenV:=hi.length
 obtain⟨nd,kn⟩:=Bool.and_eq_true_iff.mp hto
 have nd:=of_decide_eq_true nd
 have tabAt:∀{b:Addr}{q:Str},(dP K).lookup b=some q→PySem.isCodeTable s₁.heap b∧s₁.heap.get? b=some (PySem.W.tabObj #[])∧K.lookup b=none:=fun {b q} e=>by
  have hm:(b,q)∈dP K:=jX e
  obtain⟨x,hx,c,e1,_⟩:=A7 hm
  obtain⟨h1,h2⟩:=htb x hx c b e1
  refine⟨(h1.tab h2).isCodeTable,h2,?_⟩
  have:=List.all_eq_true.mp kn (b,q) hm
  simpa using this
 have core:∀H:Hp,Only H→SqL K H a (ns.map V.int)→HOk P w H s₁.heap→(∀b,H b≠none→b=a∨∃q,H b=some (.tbl q)∧(dP K).lookup b=some q)→(∀b,H b≠none→K.lookup b=none)→Tbs K H →
   codeAny (model P w) callerA (.call (.ref fa) ⟨[.ref a],[]⟩) (fun r s'=>r=.ok (.ret (.bool true))∧OldK s₁.heap s'.heap∧s'.os=s₁.os∧AllBare s'.gens) s₁:=by
  intro H hO hS hok hA hK hT
  have base_of:∀{b:Addr}{o:Obj},s₁.heap.get? b=some o→H b=none→(hidT s₁.heap H).get? b=some o:=fun e n=>Dj e n
  have noB:∀{b:Addr}{o:Obj},s₁.heap.get? b=some o→(∀us n,o.data≠.seq us n)→(∀us,o.data≠.fields us)→H b=none:=fun {b o} e d1 d2=>by
   cases q:H b with
   |none=>rfl
   | some u =>
    rcases hA b (by rw[q];simp)with e' | ⟨z,_,e'⟩
    ·
     subst e'
     rw[ha]at e;cases e
     exact absurd rfl (d1 _ _)
    ·
     rw[(tabAt e').2.1]at e;cases e
     exact absurd rfl (d2 _)
  have noA:∀{b:Addr}{o:Obj}{es:Array DictEntry}{ep:Nat},s₁.heap.get? b=some o→o.data=.dict es ep→H b=none:=fun {b o es ep} e d =>
   noB e (fun us n z=>by rw[d]at z;cases z) fun us z=>by rw[d]at z;cases z
  have nsK:∀{b:Addr}{m:Str→Option Value},s₁.heap.Ns b m→(hidT s₁.heap H).Ns b m:=fun {b m} ⟨o,es,ep,e,d,r⟩=>⟨o,es,ep,base_of e (noA e d),d,r⟩
  have hKb:K.In (hidT s₁.heap H):=fun b o e=>base_of (KX b o e) (by
   cases q:H b with
   |none=>rfl
   |some u=>rw[hK b (by rw[q];simp)]at e;cases e)
  have hM:Mod K mg (hidT s₁.heap H):=⟨hKb,nsK hns,⟨mb,nsK hb,hbb⟩,let ⟨mc,h1,h2⟩:=hlim;⟨mc,nsK h1,h2⟩,let ⟨mm,h1⟩:=hsys;⟨mm,nsK h1⟩,by
   obtain⟨bm,ob,b1,b2,b3,b4,b5,b6⟩:=hbm
   exact⟨bm,ob,b1,b2,base_of b3 (noB b3 (fun us n z=>by rw[b6]at z;cases z) fun us z=>by rw[b6]at z;cases z),b4,b5,b6⟩,fun x hx c P e=>by
   obtain⟨⟨o,vs,file,tf,flags,tg,inF,text,tt,e1,r⟩,_⟩:=htb x hx c P e
   exact⟨o,vs,file,tf,flags,tg,inF,text,tt,base_of e1 (by
    cases q:H c with
    |none=>rfl
    |some u=>exact absurd (hK c (by rw[q];simp)) (zN e)),r⟩⟩
  have e0:Env0 P w K mg (hidT s₁.heap H) callerA [] s₁ H:=⟨rfl,hM,fun b o e=>FG e,Nat.le_of_eq (AK _ _),trivial,fun b hb=>absurd (show b∈([]:List Addr)from hb) (by simp),hok,.of_eq hg,hT⟩
  refine codeAny_mono ((F _ hKb (nsK hns)).run callerA [] s₁ H ⟨[.ref a],[]⟩ [.ref a] [.ref a] _ _ hr e0 (hbind s₁ (.ref a)) (.cons rfl .nil) (hsp H hO hS)) fun r s' h=>?_
  cases r with
  |error e=>exact(hCX H e s' h).elim
  | ok fl =>
   cases fl with
   |next=>exact False.elim h
   |brk=>exact False.elim h
   |cont=>exact False.elim h
   | ret u =>
    obtain⟨v,H',os,bare,un,hok',r',q⟩:=h
    have q':v=.bl true:=q
    subst q'
    obtain rfl:u=Value.bool true:=r'
    have fin:∀b o,s₁.heap.get? b=some o→s'.heap.get? b=some o∨(PySem.isCodeTable s₁.heap b∧o=PySem.W.tabObj #[]∧∃ps,s'.heap.get? b=some (PySem.W.tabObj ps)):=fun b o e=>by
     cases q:H b with
     |none=>exact .inl (un.keep b o e q (by intro z;exact absurd (show b∈([]:List Addr)from z) (by simp)) (by simp))
     | some u =>
      rcases hO b with z|⟨ob,xs,z⟩|⟨t,z⟩
      ·
       rw[q]at z;cases z
      ·
       have z2:=un.frzs b ob _ z
       obtain⟨e1,_⟩:=hok b _ z
       obtain⟨e2,_⟩:=hok' b _ z2
       rw[e]at e1;cases e1
       exact .inl e2
      ·
       rcases hA b (by rw[q];simp)with e' | ⟨t2,_,e'⟩
       ·
        subst e'
        obtain⟨ps,e1,_⟩:=hok b _ z
        rw[ha]at e1;cases e1
       ·
        obtain⟨ps,e2,_⟩:=hok' b _ (un.tbls b _ z)
        obtain⟨t1,t2,_⟩:=tabAt e'
        rw[e]at t2;cases t2
        exact .inr ⟨t1,rfl,ps,e2⟩
    refine⟨rfl,⟨fun b o e=>?_,fun b o e=>?_⟩,os,bare⟩
    ·
     rcases fin b o e with z|⟨t,rfl,ps,z⟩
     ·
      exact .inl z
     ·
      exact .inr (.inl ⟨t,rfl,#[],ps,rfl,by rw[Array.empty_append];exact z⟩)
    ·
     rcases fin b o e with z|⟨t,_,ps,z⟩
     ·
      exact⟨o,z⟩
     ·
      exact⟨_,z⟩
 have tbsOf:∀{H:Hp},(∀b q,(dP K).lookup b=some q→H b=some (.tbl q))→Tbs K H:=fun {H} h x hx c P e=>h P _ (iw nd (List.mem_filterMap.mpr ⟨x,hx,by rw[e];rfl⟩))
 have okT:∀{H:Hp}{b:Addr}{q:Str},(dP K).lookup b=some q→fU P w H s₁.heap b (.tbl q):=fun {H b q} e=>⟨#[],(tabAt e).2.1,trivial,fun pos cv z=>by simp[codeAmong]at z⟩
 have na:∀q,(dP K).lookup a≠some q:=fun q z=>by
  have:=(tabAt z).2.1
  rw[ha]at this;cases this
 cases hk:K.lookup a with
 | some o =>
  have e:=KX a o hk
  rw[ha]at e
  cases e
  refine core (fun b=>((dP K).lookup b).map .tbl) (fun b=>?_) (.inr ⟨_,vs.toArray,_,hk,rfl,rfl,rfl,by rw[List.size_toArray,lenV];exact hl,by simpa using rv⟩) (fun b u z=>?_) (fun b z=>?_) (fun b z=>?_) (tbsOf fun b q e=>by show Option.map _ _=_;rw[e];rfl)
  ·
   show Option.map HO.tbl ((dP K).lookup b)=none∨_
   cases q:(dP K).lookup b with
   |none=>exact .inl rfl
   |some t=>exact .inr (.inr ⟨t,by show Option.map _ _=_;rw[q];rfl⟩)
  ·
   have z':Option.map HO.tbl ((dP K).lookup b)=some u:=z
   cases q:(dP K).lookup b with
   |none=>rw[q]at z';cases z'
   |some t=>rw[q]at z';cases z';exact okT q
  ·
   have z':Option.map HO.tbl ((dP K).lookup b)≠none:=z
   cases q:(dP K).lookup b with
   |none=>rw[q]at z';exact absurd rfl z'
   |some t=>exact .inr ⟨t,rfl,rfl⟩
  ·
   have z':Option.map HO.tbl ((dP K).lookup b)≠none:=z
   cases q:(dP K).lookup b with
   |none=>rw[q]at z';exact absurd rfl z'
   |some t=>exact(tabAt q).2.2
 | none =>
  have at_a:∀ b,(if b=a then some (HO.frz {cls:=.type "list",data:=.seq vs.toArray} (.lst (ns.map V.int)))else((dP K).lookup b).map .tbl)≠none→b=a∨∃ q,(dP K).lookup b=some q:=fun b z=>by
   by_cases hb:b=a
   ·
    exact .inl hb
   ·
    rw[if_neg hb]at z
    cases q:(dP K).lookup b with
    |none=>rw[q]at z;exact absurd rfl z
    |some t=>exact .inr ⟨t,rfl⟩
  have tabA:∀ b q,(dP K).lookup b=some q→(if b=a then some (HO.frz {cls:=.type "list",data:=.seq vs.toArray} (.lst (ns.map V.int)))else((dP K).lookup b).map .tbl)=some (.tbl q):=fun b q e=>by
   rw[if_neg (fun (z:b=a)=>na q (by rw[← z];exact e)),e];rfl
  refine core (fun b=>if b=a then some (.frz {cls:=.type "list",data:=.seq vs.toArray} (.lst (ns.map V.int)))else((dP K).lookup b).map .tbl) (fun b=>?_) (.inl (.inr ⟨{cls:=.type "list",data:=.seq vs.toArray},if_pos rfl⟩)) (fun b u z=>?_) (fun b z=>?_) (fun b z=>?_) (tbsOf fun b q e=>tabA b q e)
  ·
   by_cases hb:b=a
   ·
    exact .inr (.inl ⟨_,_,if_pos hb⟩)
   ·
    cases q:(dP K).lookup b with
    |none=>exact .inl (by show ite _ _ _=_;rw[if_neg hb,q];rfl)
    |some t=>exact .inr (.inr ⟨t,tabA b t q⟩)
  ·
   by_cases hb:b=a
   ·
    have z':=(if_pos hb).symm.trans z
    cases z'
    subst hb
    exact⟨ha,by rw[List.length_map];exact hl,vs,_,rv,ha⟩
   ·
    have z':=(if_neg hb).symm.trans z
    cases q:(dP K).lookup b with
    |none=>rw[q]at z';cases z'
    |some t=>rw[q]at z';cases z';exact okT q
  ·
   rcases at_a b z with e|⟨q,e⟩
   ·
    exact .inl e
   ·
    exact .inr ⟨q,tabA b q e,e⟩
  ·
   rcases at_a b z with e|⟨q,e⟩
   ·
    rw[e];exact hk
   ·
    exact(tabAt e).2.2
theorem walk_of{l:PySem.W.OpenLaw}{n k:Nat}{q:Program}{loose:List Str}{XP:(Str→Option Value)→Heap→Prop}{YP:World→Heap→Prop}{d:DefRec}{K:Params→PySem.W.Frag}{CX:World→CXT}{sp:World→Sp}{x:Str}
  (hn:l.most=some n) (hq:importsNone q=true) (hn2:n≤sizeLine) (hdf:d.params.defaults=[]) (hr:Room k callerA)
  (hY:∀(w:World)(h:Heap),YP w h→(K w.params).In h) (hto:∀w:World,tabsOk (K w.params)=true) (hrc:∀(w:World),∀x∈lamNames,PySem.W.tabIn (K w.params) x=none∨((recsOf q).find? fun e=>e.name == x).isSome=true)
  (F:∀(w:World)(mg:Str→Option Value)(fa:Addr)(h:Heap),(K w.params).In h→h.Ns mainGlobals mg→mg d.name=some (.ref fa) →
   ∃fd:FuncData,(∀(s:Shared)(u:Value),BindsTo s fd ⟨[u],[]⟩ [(x,u)]) ∧
    ∀base:Heap,(K w.params).In base→base.Ns mainGlobals mg→FnOk l.prog w (K w.params) mg base (CX w) k fa fd [x] (sp w))
  (hsp:∀(w:World)(H:Hp)(a:Addr)(ns:List Int),ns.length≤n→Only H→SqL (K w.params) H a (ns.map V.int)→sp w [.ref a] H (fun v _=>v=.bl true) fun _ _ _=>False)
  (hCX:∀(w:World)(H:Hp)(s:Shared)(e:Value)(s':Shared),CX w [] H s (fun _ _ _=>False) e s'→False) :
  PySem.W.WalkO q loose XP YP l.row.toRowW d [] (fun f vs=>PySem.call f vs):=by
 refine Att.attach_call hn hdf fun w s₀ s₁ mg mb fa o pm cd doc a vs ns G Y ho hd hcd hmg hobj hints hlen hg=>?_
 have KX:=hY w _ Y
 obtain⟨fd,hb,hF⟩:=F w mg fa _ KX G.T.g hmg
 exact Ds KX G.T.g G.T.b G.T.builtins G.T.nolimit (let ⟨mm,h1,_⟩:=(G.T.seer hq).mods;⟨mm,h1⟩) (let ⟨bm,ob,b1,b2,b3,b4,b5,b6⟩:=G.T.bmain;⟨bm,ob,b1,b2,b3,b4,b5,b6⟩) (hto w) (fun y hy c P e=>by
  rcases hrc w y hy with z|z
  ·
   rw[z]at e;cases e
  ·
   obtain⟨d',hd'⟩:=Option.isSome_iff_exists.mp z
   exact PySem.W.tab_of G.T KX hd' e) hg hobj hints (Nat.le_trans hlen hn2) hr hF hb (fun H hO hS=>hsp w H a ns hlen hO hS) fun H e s'=>hCX w H s₁ e s'
def mJ(s:Stmt):Arguments:=match s with
 |.FunctionDef _ a _ _ _ _ _ _ _ _=>a
 |_=>{posonlyargs:=[],args:=[],vararg:=none,kwonlyargs:=[],kw_defaults:=[],kwarg:=none,defaults:=[] }
def ix(s:Stmt):List Stmt:=match s with
 |.FunctionDef _ _ b _ _ _ _ _ _ _=>b
 |_=>[]
def ao(s:Stmt):Scope:=match s with
 |.FunctionDef _ _ _ _ _ _ sc _ _ _=>sc
 |_=>{kind:=.function,names:=[],isGenerator:=false,isCoroutine:=false}
abbrev CX0:CXT:=fun _ _ _ _ _ _=>False
abbrev E0:XK:=fun _ _ _=>False
theorem Ic{X:Cx}:yF CX0 X E0:=fun _ _ _ _ _ _ _ h=>h.elim
structure Fun (K:PySem.W.Frag) (x qual:Str) (st:Stmt) (f:Addr) (fd:FuncData):Prop where
 ex:∃(oc:Value)(od:Option Addr)(kV doc pm:Value)(an:Option Addr)(cdv ct:Value)(osl:Array (Option Value)),
  fd=PySem.W.fnOf x qual (mJ st) (ix st) (ao st) .none kV doc pm an cdv ct∧K.lookup f=some ⟨oc,od,.func fd,osl⟩∧PySem.W.codeIn K cdv qual=true
 kp:PySem.W.keepIn K (.ref f)=true
section
variable{P:Program}{w:World}{K:PySem.W.Frag}{mg:Str→Option Value}{base:Heap}
theorem Fun.ok{x qual:Str}{st:Stmt}{f:Addr}{fd:FuncData}{N ps:List Str}{k:Nat}{sp:Sp}(F:Fun K x qual st f fd)(S:av N ps (ao st))(len:∀vs H Q E,sp vs H Q E→vs.length=ps.length)
  (hbody:∀(cdv:Value)(A:Around)(outer:List Env)(s:Shared)(H:Hp)(vs:List V)(Q:VK)(E:XK),Room k (A.deeper (envOfC qual (ao st) s.heap.objs.size f cdv))→sp vs H Q E →
   ∃t,PSs (cxOf CX0 P w K mg base N qual (ao st) f cdv A outer s H E).nox (ix st) t∧t {nx:=fun _ H'=>Q .non H',rt:=Q} (rW N vs) H):FnOk P w K mg base CX0 (k+1) f fd ps sp:=by
 obtain⟨oc,od,kV,doc,pm,an,cdv,ct,osl,rfl,lk,hcd⟩:=F.ex
 refine JI lk hcd S len fun A outer s H vs Q E hr hsp=>?_
 obtain⟨t,h,q⟩:=hbody cdv A outer s H vs Q E hr hsp
 exact⟨t,h.nox,q⟩
theorem Fun.binds{x qual:Str}{st:Stmt}{f:Addr}{fd:FuncData}{ps:List Str}(F:Fun K x qual st f fd)
  (h:∀(kV doc pm:Value)(an:Option Addr)(cdv ct:Value)(us:List Value),us.length=ps.length→bindArgs (PySem.W.fnOf x qual (mJ st) (ix st) (ao st) .none kV doc pm an cdv ct) ⟨us,[]⟩=pure (ps.zip us)):wJ K fd ps []:=by
 obtain⟨oc,od,kV,doc,pm,an,cdv,ct,osl,rfl,lk,hcd⟩:=F.ex
 exact .all (h kV doc pm an cdv ct)
theorem Fo{x qual:Str}{st:Stmt}{f:Addr}{oc:Value}{od an:Option Addr}{osl:Array (Option Value)}{kV doc pm cdv ct:Value}(l:K.lookup f=some ⟨oc,od,.func (PySem.W.fnOf x qual (mJ st) (ix st) (ao st) .none kV doc pm an cdv ct),osl⟩)
  (c:PySem.W.codeIn K cdv qual=true) (k:PySem.W.keepIn K (.ref f)=true):Fun K x qual st f (PySem.W.fnOf x qual (mJ st) (ix st) (ao st) .none kV doc pm an cdv ct):=⟨⟨oc,od,kV,doc,pm,an,cdv,ct,osl,rfl,l,c⟩,k⟩
end
def Same(H H':Hp):Prop:=∀b o,H b=some o→H' b=some o
theorem Same.trans{H H1 H2:Hp}(a:Same H H1)(b:Same H1 H2):Same H H2:=fun c o h=>b c o (a c o h)
theorem Same.free{H H':Hp}(e:Same H H'){l:Addr}(h:H' l=Option.none):H l=Option.none:=by
 cases q:H l with
 |none=>rfl
 | some o =>
  rw[e l o q]at h
  cases h
end L2
set_option maxHeartbeats 0
namespace L2
open PySem PySem.Spec
open Sem (wp)
theorem jA:Slot "function" "__getattribute__" "object.__getattribute__" :=
 .of (owner:="object") (n:="__getattribute__") (by rw[typeLookup_type,builtinLookup_eq_fast]; kernel_rfl) (by decide +kernel) (by decide +kernel) (by decide +kernel)
  (by first|exact .inl (by decide +kernel)|exact .inr (by decide +kernel)) (by rw[isSubtype_type];kernel_rfl)
theorem wN:entryFor table "object.__getattribute__"=some Builtin.«object.__getattribute__»:=by
 first | exact F.entry_object_getattribute | exact entryFor_alias (id':="object.__getattribute__") (by kernel_rfl) (by first | rfl | decide +kernel) (by decide +kernel) (by kernel_rfl) | kernel_rfl
theorem zO(a b:Value):argsOk "object.__getattribute__" ⟨[a,b],[]⟩:=by
 first|exact F.args_object_getattribute_2 a b|(unfold argsOk;kernel_rfl)
theorem wO:typeLookup (.type "function") "__class__"=pure (some (.builtin "object.__class__")):=by rw[typeLookup_type,builtinLookup_eq_fast]; kernel_rfl
theorem lC:isSubtype (.type "function") (.type (".".intercalate ("object.__class__".cutAt '.').dropLast))=pure true:=by
 rw[F.owner_object_class,isSubtype_type];kernel_rfl
section
variable{prog:Program}{w:World}{A:Around}{E:Value→Shared→Prop}{h:Heap}{g:Array GenState}{d:Drawn}{t:Nat}{os:OsState}{a:Addr}{o:Obj}
theorem uV{R:Result→Shared→Prop}(hx:h.get? a=some o) (hc:o.cls=.type "function") (hq:R (.ok (.ret (.type "function"))) ⟨h,g,d,t,os⟩) :
  codeAny (model prog w) A (.call (.builtin "getset_descriptor.__get__") ⟨[.builtin "object.__class__",.ref a,.type "function"],[]⟩) R ⟨h,g,d,t,os⟩:=by
 have hT:(⟨h,g,d,t,os⟩:Shared).TypeIs (.ref a) "function":=⟨_,hx,hc⟩
 have hT5:(⟨h,g,d,t,os⟩:Shared).TypeIs (.builtin "object.__class__") "getset_descriptor":=F.typeOf_object_class
 have f8:=lC
 refine codeAny_call_builtin F.slot_gs_get.plain F.entry_gs_get (F.slot_gs_get.check _ _ _ _ _ _ _ _ hT5 (F.args_gs_get _ _ _) ?_)
 repeat (any_goals (first|assumption|wp_step))
 refine⟨Code.quiet_builtin _ (by decide +kernel),codeAny_builtin F.entry_object_class ?_⟩
 repeat (any_goals (first|assumption|wp_step))
theorem qJ{tk:Tok}{Q:PySem.Fin→Shared→Prop}(hx:h.get? a=some o) (hc:o.cls=.type "function") (hq:Q (.done (.ret (.type "function"))) ⟨h,g,d,t,os⟩) :
  wpAny (model prog w) A (Builtin.«object.__getattribute__» ⟨[.ref a,.str "__class__" tk],[]⟩) Q E ⟨h,g,d,t,os⟩:=by
 have hT:(⟨h,g,d,t,os⟩:Shared).TypeIs (.ref a) "function":=⟨_,hx,hc⟩
 have hT5:(⟨h,g,d,t,os⟩:Shared).TypeIs (.builtin "object.__class__") "getset_descriptor":=F.typeOf_object_class
 have f4:=wO
 have f5:=F.typeOf_object_class
 have f6:=F.slot_gs_get.lookup
 have f7:=F.slot_gs_set.lookup
 repeat (any_goals (first|assumption|wp_step))
 refine uV hx hc ?_
 repeat (any_goals (first|assumption|wp_step))
theorem r6{tk:Tok}{R:Result→Shared→Prop}(hx:h.get? a=some o) (hc:o.cls=.type "function") (hq:R (.ok (.ret (.type "function"))) ⟨h,g,d,t,os⟩) :
  codeAny (model prog w) A (.call (.builtin "object.__getattribute__") ⟨[.ref a,.str "__class__" tk],[]⟩) R ⟨h,g,d,t,os⟩ :=
 codeAny_call_builtin jA.plain wN (jA.check _ _ _ _ _ _ _ _ (show(⟨h,g,d,t,os⟩:Shared).TypeIs (.ref a) "function" from⟨_,hx,hc⟩) (zO _ _) (qJ hx hc hq))
theorem wQ{tk:Tok}{Q:Value→Shared→Prop}(hx:h.get? a=some o) (hc:o.cls=.type "function") (hq:Q (.type "function") ⟨h,g,d,t,os⟩):wpAny (model prog w) A (getAttrBy (.ref a) (.str "__class__" tk) false) Q E ⟨h,g,d,t,os⟩:=by
 have hT:(⟨h,g,d,t,os⟩:Shared).TypeIs (.ref a) "function":=⟨_,hx,hc⟩
 have f2:=jA.lookup
 have f3:=jA.bind (.ref a)
 repeat (any_goals (first|assumption|wp_step))
 refine r6 hx hc ?_
 repeat (any_goals (first|assumption|wp_step))
theorem r9{Q:Option Value→Shared→Prop}(hx:h.get? a=some o) (hc:o.cls=.type "function") (hq:Q (some (.type "function")) ⟨h,g,d,t+1,os⟩):wpAny (model prog w) A (getAttr? (.ref a) "__class__") Q E ⟨h,g,d,t,os⟩:=by
 unfold getAttr? getAttrBy?
 repeat (any_goals (first|assumption|with_reducible apply wQ hx hc|wp_step))
end
theorem FW{K:PySem.W.Frag}{a:Addr}:PySem.W.KitX K (.ref a) (.type "function") (PySem.W.KitAt a "function"):=PySem.W.kitx_of PySem.W.kitAt_ty (fun {_ _ _ _ _ s} p k=>by obtain⟨h,g,d,t,os⟩:=s; obtain⟨o,h1,h2⟩:=p; exact r9 h1 h2 k)
end L2
namespace L2
open PySem PySem.Spec PyProof.Rows
inductive D where
 |non|bl (b:Bool)|int (i:Int)|str (x:Str)|tup (xs:List D)|lst (xs:List D)|dct (n:Nat)|exc (c:Str) (ns:List Str) (xs:List D)|fn (x:Str) (d:D)
def SqZ(K:PySem.W.Frag)(H:Hp)(a:Addr)(xs:List V):Prop :=
 (∃o,H a=some (.frz o (.lst xs))) ∨
  ∃(o:Obj)(its:Array Value)(n:Nat),K.lookup a=some o∧o.cls=.type "list"∧o.dict=none∧o.data=.seq its n∧its.size≤sizeLine∧Vals xs its.toList
theorem SqZ.l{K:PySem.W.Frag}{H:Hp}{a:Addr}{xs:List V}(h:SqZ K H a xs):SqL K H a xs:=by
 rcases h with⟨o,h⟩|h
 ·
  exact .inl (.inr ⟨o,h⟩)
 ·
  exact .inr h
def Ie:HO→Prop
 |.frz _ u=>Ie u
 |.ins _ _ _=>False
 |_=>True
def oR(K:PySem.W.Frag)(c:Str)(C:Addr):Bool:=match PySem.W.clsIn K C,PySem.W.nsIn K mainGlobals "LoadError" with
 | some cd,some (some (.ref L))=>cd.name == c && cd.hasDict && cd.mro == [.ref C,.ref L,.type "ValueError",.type "Exception",.type "BaseException",.type "object"] && (PySem.W.clsIn K L).any (fun k=>k.name == ("LoadError" : Str)) &&
  PySem.W.findIn K (.ref C) "__getattribute__" == some (some (.builtin "BaseException.__getattribute__")) && PySem.W.findIn K (.ref C) "__getattr__" == some none && PySem.W.findIn K (.ref C) "__class__" == some (some (.builtin "object.__class__")) &&
  PySem.W.findIn K (.ref C) "__setattr__" == some (some (.builtin "object.__setattr__")) && PySem.W.typeIn K (.ref C) == some (.type "type") && PySem.W.nsIn K mainGlobals c == some (some (.ref C))
 |_,_=>false
def Ig:List Stmt→Option (Arguments×Expr×Scope×Pos)
 |[]=>none
 | st::r=>match Ig r with
  |some l=>some l
  | none=>match st with
   | .Expr (.Call _ args _ _) _=>(match args.getLast? with
    |some (.Lambda p b sc pos)=>some (p,b,sc,pos)
    |_=>none)
   | .Return (some (.Call _ _ kws _)) _=>(match kws.getLast? with
    |some ⟨_,.Lambda p b sc pos,_⟩=>some (p,b,sc,pos)
    |_=>none)
   |_=>none
def JM(K:PySem.W.Frag)(x:Str):Option (Arguments×Expr×Scope×Pos):=match PySem.W.nsIn K mainGlobals x with
 | some (some (.ref f))=>(match K.lookup f with
  | some ⟨_,_,.func fd,_⟩=>(match fd.body with
   |.stmts b=>Ig b
   |_=>none)
  |_=>none)
 |_=>none
def XF(H:Hp)(dx:Option Addr)(ns:List Str)(vs:List V):Prop:=(ns=[]∧vs=[]∧dx=none)∨∃d od,dx=some d∧H d=some (.frz od (.xd (ns.zip vs)))∧ns.length=vs.length
mutual
inductive Rep (K:PySem.W.Frag) (H:Hp):V→D→Prop where
 |non:Rep K H .non .non
 |bl (b:Bool):Rep K H (.bl b) (.bl b)
 |int (i:Int):Rep K H (.int i) (.int i)
 |str (x:Str):Rep K H (.str x) (.str x)
 |tup {a:Addr} {vs:List V} {ds:List D} (h:SqT K H a vs) (r:Reps K H vs ds):Rep K H (.ref a) (.tup ds)
 |lst {a:Addr} {vs:List V} {ds:List D} (h:SqZ K H a vs) (r:Reps K H vs ds):Rep K H (.ref a) (.lst ds)
 |dct {a:Addr} {o:Obj} {kvs:List (Key×V)} (h:H a=some (.frz o (.dK kvs))):Rep K H (.ref a) (.dct kvs.length)
 |exc {a:Addr} {o:Obj} {u:HO} {c:Str} {C:Addr} {ns:List Str} {vs:List V} {ds:List D} (h:H a=some (.frz o u)) (hv:Ie u) (hc:o.cls=.ref C) (hn:PySem.W.notCls o=true) (hs:oR K c C=true) (hq:∀f∈ns,PySem.W.findIn K (.ref C) f=some none) (hf:XF H o.dict ns vs) (r:Reps K H vs ds):Rep K H (.ref a) (.exc c ns ds)
 | fn {f c c':Addr} {oc oq:Obj} {x y:Str} {pr:Arguments} {bd:Expr} {sc:Scope} {pos:Pos} {pm ctv u:Value} {v:V} {d:D} (hl:JM K x=some (pr,bd,sc,pos)) (hf:H f=some (.frz (PySem.W.kla_obj "<lambda>" (lamQ x) pr bd sc [(y,c)] pm c' ctv) (.own f)))
  (hq:H c'=some (.frz oq (.own c'))) (hc:yB oq (lamQ x)) (hz:H c=some (.frz oc (.own c))) (hd:oc.data=.cell (some u)) (hv:RelV v u) (hm:(y,NameKind.free)∈sc.names) (r:Rep K H v d):Rep K H (.ref f) (.fn x d)
inductive Reps (K:PySem.W.Frag) (H:Hp):List V→List D→Prop where
 |nil:Reps K H [] []
 |cons {v:V} {d:D} {vs:List V} {ds:List D} (h:Rep K H v d) (t:Reps K H vs ds):Reps K H (v::vs) (d::ds)
end
def Pers:HO→Prop
 |.tup _=>True
 |.frz _ _=>True
 |.tbl _=>True
 |_=>False
def Pres(H H':Hp):Prop:=∀b o,Pers o→H b=some o→H' b=some o
theorem SqT.pres{K:PySem.W.Frag}{H H':Hp}{a:Addr}{xs:List V}(p:Pres H H')(h:SqT K H a xs):SqT K H' a xs:=by
 rcases h with(h|⟨o,h⟩)|h
 ·
  exact .inl (.inl (p _ _ True.intro h))
 ·
  exact .inl (.inr ⟨o,p _ _ True.intro h⟩)
 ·
  exact .inr h
theorem SqZ.pres{K:PySem.W.Frag}{H H':Hp}{a:Addr}{xs:List V}(p:Pres H H')(h:SqZ K H a xs):SqZ K H' a xs:=by
 rcases h with⟨o,h⟩|h
 ·
  exact .inl ⟨o,p _ _ True.intro h⟩
 ·
  exact .inr h
theorem XF.pres{H H':Hp}(p:Pres H H'){dx:Option Addr}{ns:List Str}{vs:List V}(h:XF H dx ns vs):XF H' dx ns vs:=by
 rcases h with h|⟨d,od,e,h,l⟩
 ·
  exact .inl h
 ·
  exact .inr ⟨d,od,e,p _ _ True.intro h,l⟩
mutual
theorem Rep.pres{K:PySem.W.Frag}{H H':Hp}(p:Pres H H'):∀{v:V}{d:D},Rep K H v d→Rep K H' v d
 |_,_,.non=>.non
 |_,_,.bl b=>.bl b
 |_,_,.int i=>.int i
 |_,_,.str x=>.str x
 |_,_,.tup h r=>.tup (h.pres p) (Reps.pres p r)
 |_,_,.lst h r=>.lst (h.pres p) (Reps.pres p r)
 |_,_,.dct h=>.dct (p _ _ True.intro h)
 |_,_,.exc h hv hc hn hs hq hf r=>.exc (p _ _ True.intro h) hv hc hn hs hq (hf.pres p) (Reps.pres p r)
 |_,_,.fn hl hf hq hc hz hd hv hm r=>.fn hl (p _ _ True.intro hf) (p _ _ True.intro hq) hc (p _ _ True.intro hz) hd hv hm (Rep.pres p r)
theorem Reps.pres{K:PySem.W.Frag}{H H':Hp}(p:Pres H H'):∀{vs:List V}{ds:List D},Reps K H vs ds→Reps K H' vs ds
 |_,_,.nil=>.nil
 |_,_,.cons h t=>.cons (Rep.pres p h) (Reps.pres p t)
end
theorem Reps.length{K:PySem.W.Frag}{H:Hp}:∀{vs:List V}{ds:List D},Reps K H vs ds→vs.length=ds.length
 |_,_,.nil=>rfl
 |_,_,.cons _ t=>by simp[Reps.length t]
theorem Reps.get{K:PySem.W.Frag}{H:Hp}:∀{vs:List V}{ds:List D}{i:Nat}{d:D},Reps K H vs ds→ds[i]?=some d→∃v,vs[i]?=some v∧Rep K H v d
 |_,_,_,_,.nil,e=>by simp at e
 |_,_,0,_,.cons h _,e=>by simp at e;subst e;exact⟨_,rfl,h⟩
 | _,_,i+1,d,.cons _ t,e=>by
  obtain⟨v,h1,h2⟩:=Reps.get (i:=i) (d:=d) t (by simpa using e)
  exact⟨v,by simpa using h1,h2⟩
theorem Reps.set{K:PySem.W.Frag}{H:Hp}{v:V}{d:D}(r:Rep K H v d):∀{vs:List V}{ds:List D}(i:Nat),Reps K H vs ds→Reps K H (vs.set i v) (ds.set i d)
 |_,_,_,.nil=>.nil
 |_,_,0,.cons _ t=>.cons r t
 |_,_,i+1,.cons h t=>.cons h (Reps.set r i t)
theorem Reps.append{K:PySem.W.Frag}{H:Hp}:∀{vs us:List V}{ds es:List D},Reps K H vs ds→Reps K H us es→Reps K H (vs++us) (ds++es)
 |_,_,_,_,.nil,s=>s
 |_,_,_,_,.cons h t,s=>.cons h (Reps.append t s)
theorem Reps.take{K:PySem.W.Frag}{H:Hp}:∀{vs:List V}{ds:List D}(n:Nat),Reps K H vs ds→Reps K H (vs.take n) (ds.take n)
 |_,_,0,_=>.nil
 |_,_,_+1,.nil=>.nil
 |_,_,n+1,.cons h t=>.cons h (Reps.take n t)
theorem Reps.drop{K:PySem.W.Frag}{H:Hp}:∀{vs:List V}{ds:List D}(n:Nat),Reps K H vs ds→Reps K H (vs.drop n) (ds.drop n)
 |_,_,0,r=>r
 |_,_,_+1,.nil=>.nil
 |_,_,n+1,.cons _ t=>Reps.drop n t
theorem Reps.reverse{K:PySem.W.Frag}{H:Hp}:∀{vs:List V}{ds:List D},Reps K H vs ds→Reps K H vs.reverse ds.reverse
 |_,_,.nil=>.nil
 | _,_,.cons h t=>by
  rw[List.reverse_cons,List.reverse_cons]
  exact(Reps.reverse t).append (.cons h .nil)
inductive L where
 |un|d (x:D)|own (a:Addr) (xs:List D)|bx (k:Option Addr) (ls:List L)|dic (a:Addr) (kvs:List (Key×D))
abbrev Ev:=List L
mutual
def bH:L→List Addr
 |.un=>[]
 |.d _=>[]
 |.own a _=>[a]
 |.bx k ls=>k.toList++ig ls
 |.dic a _=>[a]
def ig:List L→List Addr
 |[]=>[]
 |l::ls=>bH l++ig ls
end
def owns(ρ:Ev):List Addr:=ρ.flatMap bH
theorem dQ:∀ls:List L,ig ls=owns ls
 |[]=>rfl
 |l::ls=>by rw[ig,dQ ls];rfl
mutual
def bI(K:PySem.W.Frag)(H:Hp)(s:Option V):L→Prop
 |.un=>True
 |.d x=>∃v,s=some v∧Rep K H v x
 |.own a xs=>s=some (.ref a)∧∃vs,H a=some (.lst vs)∧Reps K H vs xs
 |.bx none ls=>∃a vs,s=some (.ref a)∧SqT K H a vs∧d8 K H vs ls
 |.bx (some a) ls=>s=some (.ref a)∧∃vs,H a=some (.lst vs)∧d8 K H vs ls
 |.dic a kvs=>s=some (.ref a)∧∃vs,H a=some (.dK vs)∧Paired (fun (p:Key×V) (q:Key×D)=>p.1=q.1∧Rep K H p.2 q.2) vs kvs
def d8(K:PySem.W.Frag)(H:Hp)(vs:List V):List L→Prop
 |[]=>vs=[]
 |l::ls=>∃v us,vs=v::us∧bI K H (some v) l∧d8 K H us ls
end
mutual
theorem bI.pres{K:PySem.W.Frag}{H H':Hp}(p:Pres H H'):∀{s:Option V}(l:L),(∀a∈bH l,H' a=H a)→bI K H s l→bI K H' s l
 |_,.un,_,_=>by simp only[bI]
 | _,.d x,_,h=>by
  simp only[bI]at h ⊢
  obtain⟨v,e,r⟩:=h
  exact⟨v,e,r.pres p⟩
 | _,.own a xs,q,h=>by
  simp only[bI]at h ⊢
  obtain⟨e,vs,ha,r⟩:=h
  exact⟨e,vs,(q a (by simp[bH])).trans ha,r.pres p⟩
 | _,.bx none ls,q,h=>by
  simp only[bI]at h ⊢
  obtain⟨a,vs,e,ha,r⟩:=h
  exact⟨a,vs,e,ha.pres p,d8.pres p ls (fun b hb=>q b (by simp[bH,hb])) r⟩
 | _,.bx (some a) ls,q,h=>by
  simp only[bI]at h ⊢
  obtain⟨e,vs,ha,r⟩:=h
  exact⟨e,vs,(q a (by simp[bH])).trans ha,d8.pres p ls (fun b hb=>q b (by simp[bH,hb])) r⟩
 | _,.dic a kvs,q,h=>by
  simp only[bI]at h ⊢
  obtain⟨e,vs,ha,r⟩:=h
  exact⟨e,vs,(q a (by simp[bH])).trans ha,Paired.mapP r fun _ _ z=>⟨z.1,z.2.pres p⟩⟩
theorem d8.pres{K:PySem.W.Frag}{H H':Hp}(p:Pres H H'):∀{vs:List V}(ls:List L),(∀a∈ig ls,H' a=H a)→d8 K H vs ls→d8 K H' vs ls
 |_,[],_,h=>by simpa only[d8]using h
 | _,l::ls,q,h=>by
  simp only[d8]at h ⊢
  obtain⟨v,us,e,h1,h2⟩:=h
  exact⟨v,us,e,bI.pres p l (fun b hb=>q b (by simp[ig,hb])) h1,d8.pres p ls (fun b hb=>q b (by simp[ig,hb])) h2⟩
end
def OMut:HO→Prop
 |.lst _=>True
 |.dK _=>True
 |_=>False
theorem OMut.no{o:HO}(h:OMut o)(p:Pers o):False:=by cases o<;>first|exact h|exact p
mutual
theorem bI.lstAt{K:PySem.W.Frag}{H:Hp}:∀{s:Option V}(l:L),bI K H s l→∀a∈bH l,∃o,H a=some o∧OMut o
 |_,.un,_,a,ha=>by simp[bH]at ha
 |_,.d x,_,a,ha=>by simp[bH]at ha
 | _,.own b xs,h,a,ha=>by
  simp only[bI]at h
  have e:a=b:=by simpa[bH]using ha
  subst e
  obtain⟨_,vs,q,_⟩:=h
  exact⟨_,q,True.intro⟩
 | _,.bx none ls,h,a,ha=>by
  simp only[bI]at h
  obtain⟨b,vs,e,_,r⟩:=h
  exact d8.lstAt ls r a (by simpa[bH]using ha)
 | _,.bx (some b) ls,h,a,ha=>by
  simp only[bI]at h
  obtain⟨e,vs,q,r⟩:=h
  rcases(by simpa[bH]using ha:a=b∨a∈ig ls)with z|z
  ·
   subst z;exact⟨_,q,True.intro⟩
  ·
   exact d8.lstAt ls r a z
 | _,.dic b xs,h,a,ha=>by
  simp only[bI]at h
  have e:a=b:=by simpa[bH]using ha
  subst e
  obtain⟨_,vs,q,_⟩:=h
  exact⟨_,q,True.intro⟩
theorem d8.lstAt{K:PySem.W.Frag}{H:Hp}:∀{vs:List V}(ls:List L),d8 K H vs ls→∀a∈ig ls,∃o,H a=some o∧OMut o
 |_,[],_,a,ha=>by simp[ig]at ha
 | _,l::ls,h,a,ha=>by
  simp only[d8]at h
  obtain⟨v,us,e,h1,h2⟩:=h
  rcases(by simpa[ig]using ha:a∈bH l∨a∈ig ls)with z|z
  ·
   exact bI.lstAt l h1 a z
  ·
   exact d8.lstAt ls h2 a z
end
structure REnv (K:PySem.W.Frag) (Pr H:Hp) (σ:St) (ρ:Ev):Prop where
 sub:∀b o,Pr b=some o→H b=some o
 nd:(owns ρ).Nodup
 off:∀a∈owns ρ,Pr a=none
 sl:Paired (bI K H) σ ρ
theorem jB{ρ:Ev}{a:Addr}:a∈owns ρ↔∃l∈ρ,a∈bH l:=by
 unfold owns
 rw[List.mem_flatMap]
theorem FY{ρ:Ev}{a:Addr}{xs:List D}(h:L.own a xs∈ρ):a∈owns ρ:=jB.mpr ⟨_,h,by simp[bH]⟩
theorem aE(a b:Ev):owns (a++b)=owns a++owns b:=List.flatMap_append
theorem Paired.mem2{α β:Type}{F:α→β→Prop}:∀{l1:List α}{l2:List β}{b:β},Paired F l1 l2→b∈l2→∃a,a∈l1∧F a b
 |_,_,_,.nil,h=>by simp at h
 | _,_,_,.cons r t,h=>by
  rcases List.mem_cons.mp h with rfl|h
  ·
   exact⟨_,List.mem_cons_self,r⟩
  ·
   obtain⟨a,h1,h2⟩:=Paired.mem2 t h
   exact⟨a,List.mem_cons_of_mem _ h1,h2⟩
theorem Paired.app{α β:Type}{F:α→β→Prop}:∀{a c:List α}{b d:List β},Paired F a b→Paired F c d→Paired F (a++c) (b++d)
 |_,_,_,_,.nil,s=>s
 |_,_,_,_,.cons r t,s=>.cons r (Paired.app t s)
theorem Paired.unapp{α β:Type}{F:α→β→Prop}:∀{a c:List α}{b d:List β},a.length=b.length→Paired F (a++c) (b++d)→Paired F a b∧Paired F c d
 |[],_,[],_,_,s=>⟨.nil,s⟩
 | x::a,_,y::b,_,hl,.cons r t=>by
  obtain⟨p,q⟩:=Paired.unapp (a:=a) (b:=b) (by simpa using hl) t
  exact⟨.cons r p,q⟩
 |[],_,_::_,_,hl,_=>by simp at hl
 |_::_,_,[],_,hl,_=>by simp at hl
theorem Paired.get2{α β:Type}{F:α→β→Prop}:∀{l1:List α}{l2:List β}{i:Nat}{b:β},Paired F l1 l2→l2[i]?=some b→∃a,l1[i]?=some a∧F a b
 |_,_,_,_,.nil,e=>by simp at e
 |_,_,0,_,.cons h _,e=>by simp at e;subst e;exact⟨_,rfl,h⟩
 | _,_,i+1,d,.cons _ t,e=>by
  obtain⟨v,h1,h2⟩:=Paired.get2 (i:=i) (b:=d) t (by simpa using e)
  exact⟨v,by simpa using h1,h2⟩
theorem Paired.set2{α β:Type}{F:α→β→Prop}{a:α}{b:β}(r:F a b):∀{l1:List α}{l2:List β}(i:Nat),Paired F l1 l2→Paired F (l1.set i a) (l2.set i b)
 |_,_,_,.nil=>.nil
 |_,_,0,.cons _ t=>.cons r t
 |_,_,i+1,.cons h t=>.cons h (Paired.set2 r i t)
theorem Paired.impMem{α β:Type}{F G:α→β→Prop}:∀{l1:List α}{l2:List β},Paired F l1 l2→(∀b∈l2,∀a,F a b→G a b)→Paired G l1 l2
 |_,_,.nil,_=>.nil
 |_,_,.cons r t,h=>.cons (h _ List.mem_cons_self _ r) (Paired.impMem t fun b hb=>h b (List.mem_cons_of_mem _ hb))
theorem Paired.set_r{α β:Type}{F:α→β→Prop}{b:β}:∀{l1:List α}{l2:List β}(i:Nat),Paired F l1 l2→(∀a,l1[i]?=some a→F a b)→Paired F l1 (l2.set i b)
 |_,_,_,.nil,_=>.nil
 |_,_,0,.cons _ t,h=>.cons (h _ rfl) t
 |_,_,i+1,.cons q t,h=>.cons q (Paired.set_r i t fun a e=>h a (by simpa using e))
section
variable{K:PySem.W.Frag}{Pr H H':Hp}{σ τ w σ':St}{ρ μ lam ρ':Ev}
theorem REnv.len(E:REnv K Pr H σ ρ):σ.length=ρ.length:=Paired.length E.sl
def bp(H:Hp)(ρ:Ev):Hp:=fun b=>if b∈owns ρ then none else H b
theorem REnv.at_own(E:REnv K Pr H σ ρ){a:Addr}(h:a∈owns ρ):∃o,H a=some o∧OMut o:=by
 obtain⟨l,hx,ha⟩:=jB.mp h
 obtain⟨s,_,q⟩:=Paired.mem2 E.sl hx
 exact q.lstAt l a ha
theorem REnv.wide(E:REnv K Pr H σ ρ):REnv K (bp H ρ) H σ ρ :=
 ⟨fun b o e=>by unfold bp at e;split at e;cases e;exact e,E.nd,fun a h=>by unfold bp;rw[if_pos h],E.sl⟩
theorem REnv.drop(E:REnv K Pr H (τ++σ) (lam++ρ))(hl:τ.length=lam.length):REnv K Pr H σ ρ :=
 ⟨E.sub,(List.nodup_append.mp (aE lam ρ ▸ E.nd)).2.1,fun a h=>E.off a (by rw[aE];exact List.mem_append_right _ h),(Paired.unapp hl E.sl).2⟩
theorem REnv.left(E:REnv K Pr H (τ++σ) (lam++ρ))(hl:τ.length=lam.length):REnv K Pr H τ lam :=
 ⟨E.sub,(List.nodup_append.mp (aE lam ρ ▸ E.nd)).1,fun a h=>E.off a (by rw[aE];exact List.mem_append_left _ h),(Paired.unapp hl E.sl).1⟩
theorem se{H H':Hp}{ρ:Ev}{σ:St}{Pr:Hp}(E:REnv K Pr H σ ρ)(h:∀b o,bp H ρ b=some o→H' b=some o):Pres H H':=fun b o p e=>by
 refine h b o ?_
 unfold bp
 rw[if_neg,e]
 intro hm
 obtain⟨u,e',m⟩:=E.at_own hm
 rw[e]at e'
 cases e'
 exact m.no p
theorem REnv.step(E:REnv K Pr H (τ++σ) (lam++ρ))(hl:τ.length=lam.length)(E':REnv K (bp H ρ) H' (w++σ') (μ++ρ'))(hw:w.length=μ.length):REnv K Pr H' (w++(τ++σ')) (μ++(lam++ρ')):=by
 have Eσ:=E.drop hl
 have p:Pres H H':=se Eσ E'.sub
 have dis:∀a∈owns lam,a∉owns ρ:=fun a h1 h2=>(List.nodup_append.mp (aE lam ρ ▸ E.nd)).2.2 a h1 a h2 rfl
 have at':∀a∈owns lam,bp H ρ a=H a:=fun a h=>by unfold bp;rw[if_neg (dis a h)]
 have some':∀a∈owns lam,∃o,H a=some o∧OMut o:=fun a h=>E.at_own (by rw[aE];exact List.mem_append_left _ h)
 have out:∀a∈owns lam,a∉owns (μ++ρ'):=fun a h h2=>by
  have z:=E'.off a h2
  rw[at' a h]at z
  obtain⟨vs,e,_⟩:=some' a h
  rw[e]at z
  cases z
 have s1:=(Paired.unapp hw E'.sl)
 have s2:=(Paired.unapp hl E.sl).1
 refine⟨fun b o e=>?_,?_,fun a ha=>?_,Paired.app s1.1 (Paired.app ?_ s1.2)⟩
 ·
  refine E'.sub b o ?_
  unfold bp
  rw[if_neg,E.sub b o e]
  intro hm
  have z:=Eσ.off b hm
  rw[e]at z
  cases z
 ·
  have n1:=E'.nd
  rw[aE]at n1
  rw[aE,aE]
  obtain⟨q1,q2,q3⟩:=List.nodup_append.mp n1
  refine List.nodup_append.mpr ⟨q1,List.nodup_append.mpr ⟨(List.nodup_append.mp (aE lam ρ ▸ E.nd)).1,q2,fun a ha b hb=>?_⟩,fun a ha b hb=>?_⟩
  ·
   rintro rfl
   exact out a ha (by rw[aE];exact List.mem_append_right _ hb)
  ·
   rcases List.mem_append.mp hb with hb|hb
   ·
    rintro rfl
    exact out a hb (by rw[aE];exact List.mem_append_left _ ha)
   ·
    exact q3 a ha b hb
 ·
  rw[aE,aE]at ha
  have key:a∈owns (μ++ρ')→Pr a=none:=fun h=>by
   have z:=E'.off a h
   unfold bp at z
   by_cases hm:a∈owns ρ
   ·
    exact Eσ.off a hm
   ·
    rw[if_neg hm]at z
    cases q:Pr a with
    |none=>rfl
    |some o=>rw[E.sub a o q]at z;cases z
  rcases List.mem_append.mp ha with h|h
  ·
   exact key (by rw[aE];exact List.mem_append_left _ h)
  ·
   rcases List.mem_append.mp h with h|h
   ·
    exact E.off a (by rw[aE];exact List.mem_append_left _ h)
   ·
    exact key (by rw[aE];exact List.mem_append_right _ h)
 ·
  have:∀l∈lam,∀s,bI K H s l→bI K H' s l:=fun l hlm s h=>h.pres p l fun a e=>by
   have ha:a∈owns lam:=jB.mpr ⟨l,hlm,e⟩
   obtain⟨vs,e,_⟩:=some' a ha
   rw[E'.sub a _ ((at' a ha).trans e),e]
  exact Paired.impMem s2 this
end
end L2
namespace L2
open PySem PySem.Spec PyProof.Rows PySem.W
structure XStd (K:Frag) (c:Str) (C L:Addr) (cd:ClassData):Prop where
 cls:clsIn K C=some cd
 load:nsIn K mainGlobals "LoadError"=some (some (.ref L))
 name:cd.name=c
 dct:cd.hasDict=true
 mro:cd.mro=[.ref C,.ref L,.type "ValueError",.type "Exception",.type "BaseException",.type "object"]
 lname:∃ k,clsIn K L=some k∧k.name=("LoadError" : Str)
 ga:findIn K (.ref C) "__getattribute__"=some (some (.builtin "BaseException.__getattribute__"))
 gx:findIn K (.ref C) "__getattr__"=some none
 gc:findIn K (.ref C) "__class__"=some (some (.builtin "object.__class__"))
 sa:findIn K (.ref C) "__setattr__"=some (some (.builtin "object.__setattr__"))
 ty:typeIn K (.ref C)=some (.type "type")
 own:nsIn K mainGlobals c=some (some (.ref C))
theorem oS{K:Frag}{c:Str}{C:Addr}(h:oR K c C=true):∃L cd,XStd K c C L cd:=by
 unfold oR at h
 split at h
 ·
  rename_i cd L e1 e2
  simp only[Bool.and_eq_true,beq_iff_eq]at h
  obtain⟨⟨⟨⟨⟨⟨⟨⟨⟨h1,h2⟩,h3⟩,h4⟩,h5⟩,h6⟩,h7⟩,h8⟩,h9⟩,h10⟩:=h
  obtain⟨k,hk,hn⟩:=any_some h4
  exact⟨L,cd,e1,e2,h1,h2,h3,⟨k,hk,beq_iff_eq.mp hn⟩,h5,h6,h7,h8,h9,h10⟩
 ·
  cases h
section
variable{K:Frag}{c:Str}{C L:Addr}{cd:ClassData}
theorem XStd.mroIn(S:XStd K c C L cd)(b:Value):PySem.W.mroIn K C b=some (([.ref C,.ref L,.type "ValueError",.type "Exception",.type "BaseException",.type "object"]:List Value).contains b):=by
 unfold PySem.W.mroIn
 rw[S.cls,Option.bind_some,S.mro]
 rfl
theorem oT(C L:Addr)(T:String):(([.ref C,.ref L,.type "ValueError",.type "Exception",.type "BaseException",.type "object"]:List Value).contains (.type T))=(["ValueError","Exception","BaseException","object"]:List String).contains T:=by
 simp only[List.contains_cons,List.contains_nil,Bool.or_false]
 have e:∀a:Addr,(Value.type T == Value.ref a)=false:=fun _=>rfl
 have f:∀U:String,(Value.type T == Value.type U)=(T == U):=fun U=>by
  by_cases q:T=U
  ·
   subst q;simp
  ·
   rw[beq_eq_false_iff_ne.mpr q,beq_eq_false_iff_ne]
   intro z;injection z with z;exact q z
 rw[e,e,f,f,f,f];rfl
theorem Dt(C L D:Addr):(([.ref C,.ref L,.type "ValueError",.type "Exception",.type "BaseException",.type "object"]:List Value).contains (.ref D))=(D == C ||D == L):=by
 simp only[List.contains_cons,List.contains_nil,Bool.or_false]
 have e:∀T:String,(Value.ref D == Value.type T)=false:=fun _=>rfl
 have f:∀a:Addr,(Value.ref D == Value.ref a)=(D == a):=fun U=>by
  by_cases q:D=U
  ·
   subst q;simp
  ·
   rw[beq_eq_false_iff_ne.mpr q,beq_eq_false_iff_ne]
   intro z;injection z with z;exact q z
 rw[e,e,e,e,f,f,Bool.or_false,Bool.or_false,Bool.or_false,Bool.or_false]
theorem XStd.has(S:XStd K c C L cd){T:String} (h:(["ValueError","Exception","BaseException","object"]:List String).contains T=true):PySem.W.mroIn K C (.type T)=some true:=by
 rw[S.mroIn,oT,h]
theorem XStd.isT(S:XStd K c C L cd){M:Model}{h:Heap}(X:K.In h)(T:String):Looks M h (isSubtype (.ref C) (.type T)) ((["ValueError","Exception","BaseException","object"]:List String).contains T):=looks_mroIn X (by rw[S.mroIn,oT])
theorem XStd.sub(S:XStd K c C L cd){M:Model}{h:Heap}(X:K.In h)(b:Value):Looks M h (isSubtype (.ref C) b) (([.ref C,.ref L,.type "ValueError",.type "Exception",.type "BaseException",.type "object"]:List Value).contains b):=looks_mroIn X (S.mroIn b)
end
section
variable{prog:Program}{w:World}{A:Around}{E:Value→Shared→Prop}{s:Shared}{K:Frag}{c:Str}{x C L:Addr}{cd:ClassData}{ox:Obj}{od:Option Obj}{name:Str}
theorem uW{tk:Tok}{Q:Fin→Shared→Prop}(S:XStd K c C L cd)(X:K.In s.heap)(I:InstAt s.heap x ox C od) (hf:findObj K C od "__class__"=some (.bind (.builtin "getset_descriptor.__get__") (.builtin "object.__class__"))) (hq:Q (.done (.ret (.ref C))) s) :
  wpAny (model prog w) A (Builtin.«object.__getattribute__» ⟨[.ref x,.str "__class__" tk],[]⟩) Q E s:=by
 obtain⟨hh,g,d,t,os⟩:=s
 have L0:=I.type (M:=model prog w)
 have L1:=looks_find (M:=model prog w) X I hf
 unfold Builtin.«object.__getattribute__»
 refine wpAny_bind (wpAny_pure (wpAny_bind (wpAny_pure ?_)))
 refine wpAny_bind (L0.at (wpAny_bind (L1.at ?_)))
 show wpAny _ _ (holding [Value.builtin "object.__class__"] (call (.builtin "getset_descriptor.__get__") [.builtin "object.__class__",.ref x,.ref C]) >>= ret) _ _ _
 refine wpAny_bind (wpAny_holding (wpAny_call ?_))
 exact class_get (s:=⟨hh,g,d,t,os⟩) (ox:=ox) (od:=od) X I (S.has (by decide)) (wpAny_pure hq)
theorem FZ{tk:Tok}{v:Value}{fill expr:Bool}{Q:Value→Shared→Prop}(S:XStd K c C L cd)(X:K.In s.heap)(I:InstAt s.heap x ox C od)
  (he:∀(A':Around)(Q':Fin→Shared→Prop),Q' (.done (.ret v)) s→wpAny (model prog w) A' (Builtin.«object.__getattribute__» ⟨[.ref x,.str name tk],[]⟩) Q' (fun _ _=>False) s) (hh:handedIn v=true) (hq:Q v s) :
  wpAny (model prog w) A (getAttrBy (.ref x) (.str name tk) fill expr) Q E s:=by
 have FB:=F.excAttr_ValueError
 have L0:=I.type (M:=model prog w)
 have L1:=looks_findIn (M:=model prog w) X S.ga
 have L2:=looks_findIn (M:=model prog w) X S.gx
 unfold getAttrBy
 refine wpAny_holding (wpAny_bind (L0.here (wpAny_bind (L1.here ?_))))
 have hx2:(Value.builtin "BaseException.__getattribute__" == Value.builtin "object.__getattribute__")=false:=by decide +kernel
 dsimp only
 rw[hx2,Bool.and_false,if_neg (by decide)]
 unfold getAttrByItsOwn
 refine wpAny_bind ((looks_hook (mc:=.ref C) X (r:=none) S.gx).here ?_)
 refine wpAny_bind (wpAny_attempt (wpAny_holding ?_))
 have hx0:(expr && onTheHeap (Value.builtin "BaseException.__getattribute__"))=false:=by cases expr <;> rfl
 unfold callGetattribute boundAndCalled
 rw[hx0,if_neg (by decide),FB.ga.bind]
 refine wpAny_bind (wpAny_pure (wpAny_call ?_))
 have hi:Looks (model prog w) s.heap (isInstance (.ref x) (.type "BaseException")) true:=L0.andThen (S.isT X _)
 have hkd:builtinKind "BaseException.__getattribute__"=some .slot:=by decide +kernel
 have hsp:splitId "BaseException.__getattribute__"=some ("BaseException","__getattribute__"):=by decide +kernel
 refine codeAny_call_builtin FB.ga.plain F.entry_bexc_ga (@check_slot (model prog w) _ _ s "BaseException.__getattribute__" "BaseException" "__getattribute__" (.ref x) [.str name tk] [] _ hkd hsp hi (F.args_bexc_ga (.ref x) (.str name tk)) ?_)
 refine wpAny_mono (he _ _ ?_) (fun _ _ z=>z) fun _ _ z=>z.elim
 show wpAny _ _ (handedOut v) _ _ _
 rw[handedOut_of hh]
 exact wpAny_pure hq
end
theorem F0(K:Frag):specialIn K (.builtin "object.__class__") "__get__"=some (some (.builtin "getset_descriptor.__get__")):=(by decide +kernel:specialIn [] (.builtin "object.__class__") "__get__"=some (some (.builtin "getset_descriptor.__get__")))
theorem A8(K:Frag):takesIn K (.builtin "object.__class__")=some true:=(by decide +kernel:takesIn [] (.builtin "object.__class__")=some true)
section
variable{prog:Program}{w:World}{A:Around}{E:Value→Shared→Prop}{s:Shared}{K:Frag}{c:Str}{x C L:Addr}{cd:ClassData}{ox:Obj}{od:Option Obj}
theorem XStd.fclass(S:XStd K c C L cd)(od:Option Obj):findObj K C od "__class__"=some (.bind (.builtin "getset_descriptor.__get__") (.builtin "object.__class__")):=by
 unfold findObj
 rw[S.cls,Option.bind_some,S.gc,Option.bind_some]
 simp[F0,A8]
theorem wR{Q:Option Value→Shared→Prop}(S:XStd K c C L cd)(X:K.In s.heap)(I:InstAt s.heap x ox C od)(hq:Q (some (.ref C)) {s with toks:=s.toks+1}) :
  wpAny (model prog w) A (getAttr? (.ref x) "__class__") Q E s:=by
 obtain⟨hh,g,d,t,os⟩:=s
 unfold getAttr? getAttrBy?
 refine wpAny_bind (wpAny_mkText (wpAny_bind (wpAny_attempt ?_)))
 exact FZ (s:=⟨hh,g,d,t+1,os⟩) (ox:=ox) (od:=od) S X I (fun A' Q' q=>uW (s:=⟨hh,g,d,t+1,os⟩) S X I (S.fclass od) q) rfl (wpAny_pure hq)
theorem Du(S:XStd K c C L cd):KitX K (.ref x) (.ref C) (fun h=>∃ox od,InstAt h x ox C od) where
 ty:=fun _ _ _ ⟨_,_,I⟩=>I.type
 it:=fun _ _ X _=>by
  have hc:=S.cls
  unfold clsIn at hc
  split at hc
  ·
   rename_i ho
   intro A' Q' E' s' k q
   unfold isType loadHead
   exact wpAny_bind (wpAny_loadPart (k _ _ (X _ _ ho)) (wpAny_pure q))
  ·
   cases hc
 ne:=fun h tp dd its n sl X htp=>by
  refine Bool.eq_false_iff.mpr fun q=>?_
  have e:C=tp:=Value.ref.inj (beq_iff_eq.mp q)
  subst e
  have hc:=S.cls
  unfold clsIn at hc
  split at hc
  ·
   rename_i ho
   have z:=(X _ _ ho).symm.trans htp
   cases z
  ·
   cases hc
 ca:=fun X ⟨_,_,I⟩ k=>wR S X I k
end
end L2
namespace L2
open PySem PySem.Spec PyProof.Rows
section
variable{X:Cx}{pins:List (Addr×Obj)}{σ:St}{H:Hp}{s:Shared}
theorem Inv.reword{a:Addr}{u w:HO}(I:Inv X pins σ H s)(h:H a=some u)(hu:¬Pers u)(hw:∀y,u≠.own y)(nw:fU X.prog X.w H s.heap a w)(hw2:∀C dx fs,w≠.ins C dx fs):Inv X pins σ (upd H a w) s:=by
 have ne:∀b,H b=none→b≠a:=fun b n e=>by subst e;rw[h]at n;cases n
 have nt:∀b xs,H b=some (.tup xs)→b≠a:=fun b xs n e=>by subst e;rw[h]at n;cases n;exact hu True.intro
 have nf:∀b o z,H b=some (.frz o z)→b≠a:=fun b o z n e=>by subst e;rw[h]at n;cases n;exact hu True.intro
 have no:∀b z,H b=some (.own z)→b≠a:=fun b z n e=>by subst e;rw[h]at n;cases n;exact hw _ rfl
 refine⟨I.ok,I.os,I.bare,⟨I.base.keep,I.base.slot,fun b ob e n hx=>?_,I.base.there,fun b xs e=>?_,fun b ob z e=>?_,fun b ps e=>?_⟩,I.loc,I.cell,?_,fun x c e=>?_,fun p hp=>?_,fun b z e=>?_,I.len⟩
 ·
  have q:=I.base.free b ob e n hx
  rw[aL (ne b q)];exact q
 ·
  have q:=I.base.tups b xs e
  rw[aL (nt b xs q)];exact q
 ·
  have q:=I.base.frzs b ob z e
  rw[aL (nf b ob z q)];exact q
 ·
  have q:=I.base.tbls b ps e
  rw[aL (fun z=>by subst z;rw[h]at q;cases q;exact hu True.intro)];exact q
 ·
  rw[aL (ne _ I.free)];exact I.free
 ·
  rcases I.freeC x c e with z|⟨hf,o,z⟩
  ·
   exact .inl (by rw[aL (ne _ z)];exact z)
  ·
   exact .inr ⟨hf,o,by rw[aL (nf _ _ _ z)];exact z⟩
 ·
  obtain⟨e,n,r⟩:=I.pin p hp
  exact⟨e,by rw[aL (ne _ n)];exact n,r⟩
 ·
  by_cases hb:b=a
  ·
   subst hb
   rw[bO]at e
   cases e
   exact nw.stay (fun c v _ q=>q) (fun c q=>by rw[aL (no c _ q)];exact q) (fun c xs q=>by rw[aL (nt c xs q)];exact q) fun c ob _ _ q=>by rw[aL (nf c ob _ q)];exact q
  ·
   rw[aL hb]at e
   exact(I.hok b z e).stay (fun c v _ q=>q) (fun c q=>by rw[aL (no c _ q)];exact q) (fun c xs q=>by rw[aL (nt c xs q)];exact q) fun c ob _ _ q=>by rw[aL (nf c ob _ q)];exact q
theorem Inv.freezeL{a:Addr}{xs:List V}(I:Inv X pins σ H s)(h:H a=some (.lst xs)):∃o,Inv X pins σ (upd H a (.frz o (.lst xs))) s:=by
 obtain⟨z,its,n,r,e⟩:=id (I.hok a _ h)
 exact⟨_,I.reword h (fun q=>q) (fun _ q=>nomatch q) ⟨e,z,its,n,r,e⟩ (fun _ _ _ q=>nomatch q)⟩
theorem Inv.freezeD{a:Addr}{xs:List (Key×V)}(I:Inv X pins σ H s)(h:H a=some (.dK xs)):∃o,Inv X pins σ (upd H a (.frz o (.dK xs))) s:=by
 obtain⟨z,y,vs,r,o,es,ep,e,c⟩:=id (I.hok a _ h)
 exact⟨_,I.reword h (fun q=>q) (fun _ q=>nomatch q) ⟨e,z,y,vs,r,o,es,ep,e,c⟩ (fun _ _ _ q=>nomatch q)⟩
end
section
variable{K:PySem.W.Frag}{Pr H:Hp}{σ:St}{ρ:Ev}
theorem REnv.new(E:REnv K Pr H σ ρ){p:Addr}{o:HO}(h:H p=none):REnv K Pr (upd H p o) σ ρ:=by
 have k:∀b u,H b=some u→upd H p o b=some u:=fun b u e=>by rw[aL (bt e h)];exact e
 exact⟨fun b u e=>k b u (E.sub b u e),E.nd,E.off,Paired.impMem E.sl fun l hl s q=>q.pres (fun b u _ e=>k b u e) l fun a e=>by
  obtain⟨vs,e,_⟩:=E.at_own (jB.mpr ⟨l,hl,e⟩)
  rw[k _ _ e,e]⟩
theorem Reps.new{vs:List V}{ds:List D}(r:Reps K H vs ds){p:Addr}{o:HO}(h:H p=none):Reps K (upd H p o) vs ds:=r.pres fun b u _ e=>by rw[aL (bt e h)];exact e
theorem Rep.new{v:V}{d:D}(r:Rep K H v d){p:Addr}{o:HO}(h:H p=none):Rep K (upd H p o) v d:=r.pres fun b u _ e=>by rw[aL (bt e h)];exact e
theorem nI:owns (.un::ρ)=owns ρ:=rfl
theorem aV{a:Addr}{xs:List D}:owns (.own a xs::ρ)=a::owns ρ:=rfl
theorem REnv.cons_d(E:REnv K Pr H σ ρ){v:V}{x:D}(r:Rep K H v x):REnv K Pr H (some v::σ) (.d x::ρ):=⟨E.sub,E.nd,E.off,.cons ⟨v,rfl,r⟩ E.sl⟩
theorem REnv.cons_un(E:REnv K Pr H σ ρ){v:Option V}:REnv K Pr H (v::σ) (.un::ρ):=⟨E.sub,E.nd,E.off,.cons True.intro E.sl⟩
theorem REnv.cons_own(E:REnv K Pr H σ ρ){p:Addr}{vs:List V}{xs:List D}(h:H p=none)(r:Reps K H vs xs):REnv K Pr (upd H p (.lst vs)) (some (.ref p)::σ) (.own p xs::ρ):=by
 have E':=E.new (o:=.lst vs) h
 refine⟨E'.sub,?_,fun a ha=>?_,.cons ⟨rfl,vs,bO,r.new h⟩ E'.sl⟩
 ·
  rw[aV]
  refine List.nodup_cons.mpr ⟨fun hm=>?_,E.nd⟩
  obtain⟨us,e,_⟩:=E.at_own hm
  rw[h]at e;cases e
 ·
  rw[aV]at ha
  rcases List.mem_cons.mp ha with rfl|ha
  ·
   cases q:Pr a with
   |none=>rfl
   |some u=>rw[E.sub a u q]at h;cases h
  ·
   exact E.off a ha
theorem REnv.cons_tup(E:REnv K Pr H σ ρ){p:Addr}{vs:List V}{xs:List D}(h:H p=none)(r:Reps K H vs xs):REnv K Pr (upd H p (.tup vs)) (some (.ref p)::σ) (.d (.tup xs)::ρ) :=
 (E.new h).cons_d (.tup (SqT.of bO) (r.new h))
theorem REnv.freeze(E:REnv K Pr H σ (.own a xs::ρ)){vs:List V}(h:H a=some (.lst vs))(o:Obj):REnv K Pr (upd H a (.frz o (.lst vs))) σ (.d (.lst xs)::ρ):=by
 have pa:Pr a=none:=E.off a (by rw[aV];exact List.mem_cons_self)
 have nd:=E.nd
 rw[aV]at nd
 obtain⟨hn,nd⟩:=List.nodup_cons.mp nd
 have p:Pres H (upd H a (.frz o (.lst vs))):=fun b u pu e=>by
  rw[aL];exact e
  rintro rfl
  rw[h]at e;cases e;exact pu
 refine⟨fun b u e=>?_,nd,fun b hb=>E.off b (by rw[aV];exact List.mem_cons_of_mem _ hb),?_⟩
 ·
  rw[aL];exact E.sub b u e
  rintro rfl
  rw[pa]at e;cases e
 ·
  have sl:=E.sl
  cases sl with
  | cons q t =>
   obtain⟨e,us,e2,r⟩:=q
   rw[h]at e2;cases e2
   refine .cons ⟨.ref a,e,.lst (.inl ⟨o,bO⟩) (r.pres p)⟩ (Paired.impMem t fun l hl s z=>z.pres p l fun b hbm=>?_)
   rw[aL]
   rintro rfl
   exact hn (jB.mpr ⟨l,hl,hbm⟩)
theorem aI(l:L)(ρ:Ev):owns (l::ρ)=bH l++owns ρ:=rfl
theorem jC{k:L}:∀{ρ:Ev}{i:Nat}{l:L},ρ[i]?=some k→bH l=[]→(owns ρ).Perm (bH k++owns (ρ.set i l))
 |[],_,_,h,_=>by simp at h
 | _::ρ,0,l,h,hl=>by
  simp at h;subst h
  show(owns (_::ρ)).Perm (_++owns (l::ρ))
  rw[aI,aI,hl]
  exact List.Perm.refl _
 | m::ρ,i+1,l,h,hl=>by
  have ih:=jC (i:=i) (ρ:=ρ) (l:=l) (by simpa using h) hl
  show(owns (m::ρ)).Perm (bH k++owns (m::ρ.set i l))
  rw[aI,aI]
  refine(List.Perm.append_left _ ih).trans ?_
  rw[← List.append_assoc,← List.append_assoc]
  exact List.Perm.append_right _ List.perm_append_comm
theorem A9{a:Addr}{xs:List D}{ρ:Ev}{i:Nat}{l:L}(h:ρ[i]?=some (.own a xs))(hl:bH l=[]):(owns ρ).Perm (a::owns (ρ.set i l)):=jC h hl
theorem yI{ρ:Ev}{i:Nat}(l:L)(h:ρ[i]?=some .un):(owns (ρ.set i l)).Perm (bH l++owns ρ):=by
 have hi:i<ρ.length:=(List.getElem?_eq_some_iff.mp h).1
 have pm:=jC (ρ:=ρ.set i l) (i:=i) (k:=l) (l:=.un) (by simp[hi]) rfl
 rw[List.set_set]at pm
 have e2:ρ.set i .un=ρ:=by
  have:=List.set_getElem_self (as:=ρ) (i:=i) hi
  have e3:ρ[i]=.un:=(List.getElem?_eq_some_iff.mp h).2
  rw[e3]at this;exact this
 rw[e2]at pm
 exact pm
theorem REnv.outL(E:REnv K Pr H σ ρ){i:Nat}{k:L}{s:Option V}(h:ρ[i]?=some k)(hs:σ[i]?=some s):REnv K Pr H (s::σ) (k::ρ.set i .un):=by
 have pm:=jC (l:=.un) h rfl
 obtain⟨s',hs',q⟩:=Paired.get2 E.sl h
 rw[hs]at hs'
 cases hs'
 refine⟨E.sub,?_,fun b hb=>E.off b (pm.mem_iff.mpr (by rw[aI]at hb;exact hb)),.cons q (Paired.set_r i E.sl fun _ _=>by simp only[bI])⟩
 rw[aI];exact pm.nodup_iff.mp E.nd
theorem REnv.out(E:REnv K Pr H σ ρ){i:Nat}{a:Addr}{xs:List D}(h:ρ[i]?=some (.own a xs)):REnv K Pr H (some (.ref a)::σ) (.own a xs::ρ.set i .un):=by
 have pm:=A9 (l:=.un) h rfl
 obtain⟨s,hs,q⟩:=Paired.get2 E.sl h
 refine⟨E.sub,?_,fun b hb=>E.off b (pm.mem_iff.mpr (by rw[aV]at hb;exact hb)),.cons ?_ (Paired.set_r i E.sl fun _ _=>by simp only[bI])⟩
 ·
  rw[aV];exact pm.nodup_iff.mp E.nd
 ·
  obtain⟨_,r⟩:=q
  exact⟨rfl,r⟩
theorem REnv.back{v:Option V}{l:L}(E:REnv K Pr H (v::σ) (l::ρ)){i:Nat}(h:ρ[i]?=some .un)(hs:σ[i]?=some v):REnv K Pr H σ (ρ.set i l):=by
 have sl:=E.sl
 cases sl with
 | cons q t =>
  have e1:ρ.set i l=(ρ.set i l):=rfl
  refine⟨E.sub,?_,fun b hb=>?_,Paired.set_r i t fun a e=>by rw[hs]at e;cases e;exact q⟩
  ·
   exact(yI l h).nodup_iff.mpr E.nd
  ·
   exact E.off b ((yI l h).mem_iff.mp hb)
theorem REnv.write(E:REnv K Pr H σ (.own a xs::ρ)){vs:List V}{ys:List D}(r:Reps K H vs ys):REnv K Pr (upd H a (.lst vs)) σ (.own a ys::ρ):=by
 have pa:Pr a=none:=E.off a (by rw[aV];exact List.mem_cons_self)
 have nd:=E.nd
 rw[aV]at nd
 obtain⟨hn,nd'⟩:=List.nodup_cons.mp nd
 obtain⟨us,ha,mu⟩:=E.at_own (a:=a) (by rw[aV];exact List.mem_cons_self)
 have p:Pres H (upd H a (.lst vs)):=fun b u pu e=>by
  rw[aL];exact e
  rintro rfl
  rw[ha]at e;cases e;exact mu.no pu
 refine⟨fun b u e=>?_,nd,fun b hb=>E.off b hb,?_⟩
 ·
  rw[aL];exact E.sub b u e
  rintro rfl
  rw[pa]at e;cases e
 ·
  have sl:=E.sl
  cases sl with
  | cons q t =>
   obtain⟨e,_⟩:=q
   refine .cons ⟨e,vs,bO,r.pres p⟩ (Paired.impMem t fun l hl s z=>z.pres p l fun b hbm=>?_)
   rw[aL]
   rintro rfl
   exact hn (jB.mpr ⟨l,hl,hbm⟩)
end
abbrev W(α:Type):=Ev→(α→Ev→Prop)→Prop
inductive Fl where
 |nx|bk|ct|rt (r:L)
def EL(X:Cx)(pins:List (Addr×Obj))(σ:St)(Pr:Hp)(post:L→Ev→Prop)(u:Value)(s':Shared):Prop :=
 ∃v H' r ρ',Inv X pins σ H' s'∧RelV v u∧REnv X.K Pr H' (some v::σ) (r::ρ')∧post r ρ'
def PL(X:Cx)(e:Expr)(t:W L):Prop :=
 ∀(pins:List (Addr×Obj))(s:Shared)(σ:St)(H Pr:Hp)(ρ:Ev)(post:L→Ev→Prop),Inv X pins σ H s→REnv X.K Pr H σ ρ→t ρ post→wpAny (model X.prog X.w) X.A (eval e X.env) (EL X pins σ Pr post) X.xe s
def EB(X:Cx)(pins:List (Addr×Obj))(σ:St)(Pr:Hp)(post:Bool→Ev→Prop)(b:Bool)(s':Shared):Prop :=
 ∃H' ρ',Inv X pins σ H' s'∧REnv X.K Pr H' σ ρ'∧post b ρ'
def PB(X:Cx)(e:Expr)(t:W Bool):Prop :=
 ∀(pins:List (Addr×Obj))(s:Shared)(σ:St)(H Pr:Hp)(ρ:Ev)(post:Bool→Ev→Prop),Inv X pins σ H s→REnv X.K Pr H σ ρ→t ρ post→wpAny (model X.prog X.w) X.A (isTrue e X.env (eval e X.env)) (EB X pins σ Pr post) X.xe s
def EA(X:Cx)(pins:List (Addr×Obj))(σ:St)(Pr:Hp)(bs:List (Option Nat))(post:List L→Ev→Prop)(us:List Value)(s':Shared):Prop :=
 ∃vs H' ls ρ',Inv X pins σ H' s'∧Vals vs us∧vs.length=ls.length∧vs.length=bs.length∧REnv X.K Pr H' (vs.map some++σ) (ls++ρ')∧(∀(k i:Nat),bs[k]?=some (some i)→ls[k]?=some L.un∧∃v,vs[k]?=some v∧σ[i]?=some (some v))∧post ls ρ'
def PAL(X:Cx)(es:List Expr)(bs:List (Option Nat))(t:W (List L)):Prop :=
 ∀(pos:Pos)(pins:List (Addr×Obj))(s:Shared)(σ:St)(H Pr:Hp)(ρ:Ev)(post:List L→Ev→Prop),Inv X pins σ H s→REnv X.K Pr H σ ρ→t ρ post →
  wpAny (model X.prog X.w) X.A (spliced (backTo pos (starEach es X.env))) (EA X pins σ Pr bs post) X.xe s
def SM(X:Cx)(pins:List (Addr×Obj))(Pr:Hp)(post:Fl→Ev→Prop)(f:Flow)(s':Shared):Prop :=
 match f with
 |.next=>∃σ' H' ρ',Inv X pins σ' H' s'∧REnv X.K Pr H' σ' ρ'∧post .nx ρ'
 |.brk=>∃σ' H' ρ',Inv X pins σ' H' s'∧REnv X.K Pr H' σ' ρ'∧post .bk ρ'
 |.cont=>∃σ' H' ρ',Inv X pins σ' H' s'∧REnv X.K Pr H' σ' ρ'∧post .ct ρ'
 |.ret u=>∃v σ' H' r ρ' τ,Inv X pins σ' H' s'∧RelV v u∧REnv X.K Pr H' (some v::τ) (r::ρ')∧post (.rt r) ρ'
def PM(X:Cx)(st:Stmt)(t:W Fl):Prop :=
 ∀(pins:List (Addr×Obj))(s:Shared)(σ:St)(H Pr:Hp)(ρ:Ev)(post:Fl→Ev→Prop),Inv X pins σ H s→REnv X.K Pr H σ ρ→t ρ post→wpAny (model X.prog X.w) X.A (exec st X.env) (SM X pins Pr post) X.xe s
def PMs(X:Cx)(st:List Stmt)(t:W Fl):Prop :=
 ∀(pins:List (Addr×Obj))(s:Shared)(σ:St)(H Pr:Hp)(ρ:Ev)(post:Fl→Ev→Prop),Inv X pins σ H s→REnv X.K Pr H σ ρ→t ρ post→wpAny (model X.prog X.w) X.A (execs st X.env) (SM X pins Pr post) X.xe s
section
variable{X:Cx}{e a b:Expr}{pos:Pos}{ta tb:W L}
theorem PL.of{t:TE}{u:W L}(h:PE X e t)(q:∀σ H Pr ρ post,REnv X.K Pr H σ ρ→u ρ post→t σ H fun v H'=>∃r ρ',REnv X.K Pr H' (some v::σ) (r::ρ')∧post r ρ'):PL X e u :=
 fun pins s σ H Pr ρ post I E hu=>thn (h pins s σ H _ I (q σ H Pr ρ post E hu)) fun u s1 ⟨v,H1,I1,r1,r,ρ',E1,p⟩=>⟨v,H1,r,ρ',I1,r1,E1,p⟩
mutual
def bS:L→Option D
 |.un=>none
 |.d x=>some x
 |.own _ xs=>some (.lst xs)
 |.bx none ls=>(cF ls).map .tup
 |.bx (some _) ls=>(cF ls).map .lst
 |.dic _ _=>none
def cF:List L→Option (List D)
 |[]=>some []
 | l::ls=>match bS l,cF ls with
  |some x,some xs=>some (x::xs)
  |_,_=>none
end
def dz:Option D→(D→Prop)→Prop
 |some x,k=>k x
 |none,_=>False
theorem zP{o:Option D}{k:D→Prop}(h:dz o k):∃x,o=some x∧k x:=by
 cases o with
 |some x=>exact⟨x,rfl,h⟩
 |none=>exact h.elim
def toDB(a:Option Addr)(ls:List L)(k:D→Prop):Prop:=dz (bS (.bx a ls)) k
def toD:L→(D→Prop)→Prop
 |.un,_=>False
 |.d x,k=>k x
 |.own _ xs,k=>k (.lst xs)
 |.bx a ls,k=>toDB a ls k
 |.dic _ _,_=>False
theorem Ba{a:Option Addr}{ls:List L}{k:D→Prop}(h:toDB a ls k):∃x,bS (.bx a ls)=some x∧k x:=zP h
def eraK(ls:List L)(k:List D→Prop):Prop:=∃xs,cF ls=some xs∧k xs
theorem Ih(ls:List L)(k:D→Prop):toDB none ls k=eraK ls fun xs=>k (.tup xs):=by
 unfold toDB eraK
 simp only[bS]
 cases cF ls with
 |none=>simp[dz]
 |some xs=>simp[dz]
theorem Ii(a:Addr)(ls:List L)(k:D→Prop):toDB (some a) ls k=eraK ls fun xs=>k (.lst xs):=by
 unfold toDB eraK
 simp only[bS]
 cases cF ls with
 |none=>simp[dz]
 |some xs=>simp[dz]
theorem Dv(k:List D→Prop):eraK [] k=k []:=by
 unfold eraK
 simp[cF]
theorem F4(l:L)(k:D→Prop):toD l k=∃x,bS l=some x∧k x:=by
 cases l with
 |un=>simp[toD,bS]
 |d x=>simp[toD,bS]
 |own a xs=>simp[toD,bS]
 | bx a ls =>
  show dz _ k=_
  cases bS (.bx a ls)with
  |none=>simp[dz]
  |some x=>simp[dz]
 |dic a kvs=>simp[toD,bS]
theorem Bb(l:L)(ls:List L)(k:List D→Prop):eraK (l::ls) k=toD l fun x=>eraK ls fun xs=>k (x::xs):=by
 rw[F4]
 unfold eraK
 simp only[cF]
 cases bS l with
 |none=>simp
 | some x =>
  cases cF ls with
  |none=>simp
  |some xs=>simp
theorem cQ{K:PySem.W.Frag}{H:Hp}:∀{vs:List V}{ls:List L},d8 K H vs ls↔Paired (bI K H) (vs.map some) ls
 |[],[]=>⟨fun _=>.nil,fun _=>by simp only[d8]⟩
 | v::vs,l::ls=>by
  simp only[d8,List.map_cons]
  constructor
  ·
   rintro⟨w,us,e,h1,h2⟩
   cases e
   exact .cons h1 (cQ.mp h2)
  ·
   intro h
   cases h with
   |cons q t=>exact⟨v,vs,rfl,q,cQ.mpr t⟩
 | [],l::ls=>by
  simp only[d8,List.map_nil]
  constructor
  ·
   rintro⟨w,us,e,_⟩;cases e
  ·
   intro h;cases h
 | v::vs,[]=>by
  simp only[d8,List.map_cons]
  constructor
  ·
   intro h;cases h
  ·
   intro h;cases h
theorem wU{K:PySem.W.Frag}{H:Hp}:∀{vs:List V}{xs:List D},Paired (bI K H) (vs.map some) (xs.map .d)→Reps K H vs xs
 |[],[],_=>.nil
 | v::vs,x::xs,h=>by
  simp only[List.map_cons]at h
  cases h with
  | cons q t =>
   simp only[bI]at q
   obtain⟨w,e,r⟩:=q
   cases e
   exact .cons r (wU t)
 |[],_::_,h=>by simp only[List.map_cons,List.map_nil]at h;cases h
 |_::_,[],h=>by simp only[List.map_cons,List.map_nil]at h;cases h
theorem d8.len{K:PySem.W.Frag}{H:Hp}{vs:List V}{ls:List L}(h:d8 K H vs ls):vs.length=ls.length:=by
 have:=Paired.length (cQ.mp h)
 simpa using this
theorem gq:∀{ls:List L}{xs:List D},cF ls=some xs→xs.length=ls.length
 |[],_,h=>by simp[cF]at h;subst h;rfl
 | l::ls,xs,h=>by
  simp only[cF]at h
  split at h
  ·
   rename_i x ys h1 h2
   cases h
   simp[gq h2]
  ·
   cases h
theorem REnv.openT{K:PySem.W.Frag}{Pr H:Hp}{σ:St}{ρ:Ev}{v:Option V}{ls:List L}(E:REnv K Pr H (v::σ) (.bx none ls::ρ)):∃a vs,v=some (.ref a)∧SqT K H a vs∧vs.length=ls.length∧REnv K Pr H (vs.map some++σ) (ls++ρ):=by
 have sl:=E.sl
 cases sl with
 | cons q t =>
  simp only[bI]at q
  obtain⟨a,vs,e,h,r⟩:=q
  have ow:owns (.bx none ls::ρ)=owns (ls++ρ):=by
   rw[aI,aE]
   simp only[bH,Option.toList,List.nil_append,dQ]
  exact⟨a,vs,e,h,r.len,E.sub,by rw[← ow];exact E.nd,fun b hb=>E.off b (by rw[ow];exact hb),Paired.app (cQ.mp r) t⟩
theorem REnv.openO{K:PySem.W.Frag}{Pr H:Hp}{σ:St}{ρ:Ev}{v:Option V}{a:Addr}{ls:List L}(E:REnv K Pr H (v::σ) (.bx (some a) ls::ρ)):∃vs,v=some (.ref a)∧H a=some (.lst vs)∧vs.length=ls.length∧a∉owns (ls++ρ)∧Pr a=none∧REnv K Pr H (vs.map some++σ) (ls++ρ):=by
 have sl:=E.sl
 cases sl with
 | cons q t =>
  simp only[bI]at q
  obtain⟨e,vs,h,r⟩:=q
  have ow:owns (.bx (some a) ls::ρ)=a::owns (ls++ρ):=by
   rw[aI,aE]
   simp only[bH,Option.toList,List.cons_append,List.nil_append,dQ]
  have nd:=E.nd
  rw[ow]at nd
  obtain⟨n1,n2⟩:=List.nodup_cons.mp nd
  exact⟨vs,e,h,r.len,n1,E.off a (by rw[ow];exact List.mem_cons_self),E.sub,n2,fun b hb=>E.off b (by rw[ow];exact List.mem_cons_of_mem _ hb),Paired.app (cQ.mp r) t⟩
def rq(H H':Hp)(S:List Addr):Prop:=Pres H H'∧(∀b,b∉S→H' b=H b)∧∀a∈S,∀vs,H a=some (.lst vs)→∃o,H' a=some (.frz o (.lst vs))
theorem rq.refl(H:Hp):rq H H []:=⟨fun _ _ _ e=>e,fun _ _=>rfl,fun _ h=>by simp at h⟩
mutual
theorem frzL:∀(l:L){pins:List (Addr×Obj)}{σ0:St}{s:Shared}{Pr H:Hp}{σ:St}{ρ:Ev}{v:Option V}{x:D},Inv X pins σ0 H s→REnv X.K Pr H (v::σ) (l::ρ)→bS l=some x→∃H',Inv X pins σ0 H' s∧REnv X.K Pr H' (v::σ) (.d x::ρ)∧rq H H' (bH l)
 |.un,_,_,_,_,_,_,_,_,_,_,_,h=>by simp[bS]at h
 |.dic _ _,_,_,_,_,_,_,_,_,_,_,_,h=>by simp[bS]at h
 | .d y,_,_,_,_,_,_,_,_,_,I,E,h=>by
  simp only[bS,Option.some.injEq]at h
  subst h
  exact⟨_,I,E,rq.refl _⟩
 | .own a xs,_,_,_,_,H,σ,ρ,v,_,I,E,h=>by
  simp only[bS,Option.some.injEq]at h
  subst h
  have sl:=E.sl
  cases sl with
  | cons q t =>
   simp only[bI]at q
   obtain⟨e0,vs,ha,r⟩:=q
   obtain⟨o,I'⟩:=I.freezeL ha
   refine⟨_,I',E.freeze ha o,fun b u pu eb=>?_,fun b hb=>?_,fun b hb vs' eb=>?_⟩
   ·
    rw[aL];exact eb
    rintro rfl
    rw[ha]at eb;cases eb;exact pu
   ·
    rw[aL]
    rintro rfl
    exact hb (by simp[bH])
   ·
    have e:b=a:=by simpa[bH]using hb
    subst e
    rw[ha]at eb;cases eb
    exact⟨o,bO⟩
 | .bx none ls,_,_,_,Pr,H,σ,ρ,v,x,I,E,h=>by
  simp only[bS,Option.map_eq_some_iff]at h
  obtain⟨xs,h,rfl⟩:=h
  obtain⟨a,vs,rfl,ha,hl,E1⟩:=E.openT
  obtain⟨H',I',E',F⟩:=F5 ls hl I E1 h
  have hxl:=gq h
  obtain⟨s1,s2⟩:=Paired.unapp (by simp[hl,hxl]) E'.sl
  refine⟨H',I',(E'.drop (by simp[hl,hxl])).cons_d (.tup (ha.pres F.1) (wU s1)),F.1,fun b hb=>F.2.1 b ?_,fun b hb=>F.2.2 b ?_⟩
  ·
   simpa[bH,dQ]using hb
  ·
   simpa[bH,dQ]using hb
 | .bx (some a) ls,_,_,_,Pr,H,σ,ρ,v,x,I,E,h=>by
  simp only[bS,Option.map_eq_some_iff]at h
  obtain⟨xs,h,rfl⟩:=h
  obtain⟨vs,rfl,ha,hl,hn,hp,E1⟩:=E.openO
  obtain⟨H',I',E',F⟩:=F5 ls hl I E1 h
  have hxl:=gq h
  have hal:a∉owns ls:=fun z=>hn (by rw[aE];exact List.mem_append_left _ z)
  have haρ:a∉owns ρ:=fun z=>hn (by rw[aE];exact List.mem_append_right _ z)
  have ha':H' a=some (.lst vs):=(F.2.1 a hal).trans ha
  obtain⟨s1,s2⟩:=Paired.unapp (by simp[hl,hxl]) E'.sl
  have E2:=E'.drop (by simp[hl,hxl])
  have E3:REnv X.K Pr H' (some (.ref a)::σ) (.own a xs::ρ):=by
   refine⟨E2.sub,?_,fun b hb=>?_,.cons ?_ E2.sl⟩
   ·
    rw[aV];exact List.nodup_cons.mpr ⟨haρ,E2.nd⟩
   ·
    rw[aV]at hb
    rcases List.mem_cons.mp hb with z|z
    ·
     rw[z];exact hp
    ·
     exact E2.off b z
   ·
    unfold bI
    exact⟨rfl,vs,ha',wU s1⟩
  obtain⟨o,I2⟩:=I'.freezeL ha'
  refine⟨_,I2,E3.freeze ha' o,fun b u pu e=>?_,fun b hb=>?_,fun b hb vs' eb=>?_⟩
  ·
   rw[aL];exact F.1 b u pu e
   rintro rfl
   rw[ha]at e;cases e;exact pu
  ·
   have hb':b≠a∧b∉owns ls:=by simpa[bH,dQ,not_or]using hb
   rw[aL hb'.1]
   exact F.2.1 b hb'.2
  ·
   by_cases hba:b=a
   ·
    subst hba
    rw[ha]at eb;cases eb
    exact⟨o,bO⟩
   ·
    have hb':b∈owns ls:=by
     rcases(by simpa[bH,dQ]using hb:b=a∨b∈owns ls)with z|z
     ·
      exact absurd z hba
     ·
      exact z
    rw[aL hba]
    exact F.2.2 b hb' vs' eb
theorem F5:∀(ls:List L){pins:List (Addr×Obj)}{σ0:St}{s:Shared}{Pr H:Hp}{σ:St}{ρ:Ev}{vs:List V}{xs:List D},vs.length=ls.length→Inv X pins σ0 H s→REnv X.K Pr H (vs.map some++σ) (ls++ρ)→cF ls=some xs→∃H',Inv X pins σ0 H' s∧REnv X.K Pr H' (vs.map some++σ) (xs.map .d++ρ)∧rq H H' (owns ls)
 | [],_,_,_,_,_,_,_,vs,xs,hl,I,E,h=>by
  simp only[cF,Option.some.injEq]at h
  subst h
  cases vs with
  |nil=>exact⟨_,I,E,rq.refl _⟩
  |cons _ _=>simp at hl
 | l::ls,_,_,_,Pr,H,σ,ρ,vs,xs,hl,I,E,h=>by
  simp only[cF]at h
  split at h
  rotate_left
  ·
   cases h
  rename_i x ys h1 h2
  cases h
  cases vs with
  |nil=>simp at hl
  | cons v vs =>
   have hl':vs.length=ls.length:=by simpa using hl
   obtain⟨H1,I1,E1,F1⟩:=frzL l I E h1
   have E2:REnv X.K (bp H1 (ls++ρ)) H1 (vs.map some++σ) (ls++ρ):=(E1.drop (τ:=[some v]) (lam:=[.d x]) rfl).wide
   obtain⟨H2,I2,E3,F2⟩:=F5 ls hl' I1 E2 h2
   have hyl:=gq h2
   have E4:REnv X.K Pr H2 (some v::(vs.map some++σ)) (.d x::(ys.map .d++ρ)):=by
    have z:=REnv.step (τ:=[some v]) (lam:=[.d x]) (w:=[]) (μ:=[]) (σ':=vs.map some++σ) (ρ':=ys.map .d++ρ) E1 rfl E3 rfl
    exact z
   refine⟨H2,I2,E4,fun b u pu e=>F2.1 b u pu (F1.1 b u pu e),fun b hb=>?_,fun b hb vs' eb=>?_⟩
   ·
    rw[aI]at hb
    rw[F2.2.1 b (fun z=>hb (List.mem_append_right _ z)),F1.2.1 b (fun z=>hb (List.mem_append_left _ z))]
   ·
    rw[aI]at hb
    rcases List.mem_append.mp hb with z|z
    ·
     obtain⟨o,eo⟩:=F1.2.2 b z vs' eb
     exact⟨o,F2.1 b _ True.intro eo⟩
    ·
     have hn:b∉bH l:=fun z'=>by
      have nd:=E.nd
      rw[List.cons_append,aI,aE]at nd
      exact(List.nodup_append.mp nd).2.2 b z' b (List.mem_append_left _ z) rfl
     exact F2.2.2 b z vs' ((F1.2.1 b hn).trans eb)
end
theorem EL.frz{pins:List (Addr×Obj)}{σ:St}{Pr:Hp}{post:D→Ev→Prop}{u:Value}{s':Shared}(h:EL X pins σ Pr (fun r ρ=>toD r fun x=>post x ρ) u s') :
  ∃v H' x ρ',Inv X pins σ H' s'∧RelV v u∧REnv X.K Pr H' (some v::σ) (.d x::ρ')∧post x ρ':=by
 obtain⟨v,H',r,ρ',I,rv,E,p⟩:=h
 cases r with
 |un=>exact p.elim
 |d x=>exact⟨v,H',x,ρ',I,rv,E,p⟩
 | own a xs =>
  obtain⟨H2,I2,E2,_⟩:=frzL (.own a xs) I E rfl
  exact⟨v,H2,.lst xs,ρ',I2,rv,E2,p⟩
 | bx a ls =>
  obtain⟨x,ex,p⟩:=Ba p
  obtain⟨H2,I2,E2,_⟩:=frzL (.bx a ls) I E ex
  exact⟨v,H2,x,ρ',I2,rv,E2,p⟩
 |dic a kvs=>exact p.elim
def wFrz(t:W L):W L:=fun ρ post=>t ρ fun r ρ1=>toD r fun x=>post (.d x) ρ1
theorem au{t:W L}(h:PL X e t):PL X e (wFrz t):=fun pins s σ H Pr ρ post I E ht =>
 thn (h pins s σ H Pr ρ _ I E ht) fun u s1 q=>by
  obtain⟨v,H',x,ρ',I',rv,E',p⟩:=EL.frz (post:=fun x ρ=>post (.d x) ρ) q
  exact⟨v,H',.d x,ρ',I',rv,E',p⟩
theorem REnv.head_d{K:PySem.W.Frag}{Pr H:Hp}{v:Option V}{σ:St}{x:D}{ρ:Ev}(E:REnv K Pr H (v::σ) (.d x::ρ)):∃w,v=some w∧Rep K H w x:=by
 have sl:=E.sl
 cases sl with
 |cons q t=>exact q
theorem REnv.tail{K:PySem.W.Frag}{Pr H:Hp}{v:Option V}{σ:St}{l:L}{ρ:Ev}(E:REnv K Pr H (v::σ) (l::ρ)):REnv K Pr H σ ρ:=REnv.drop (τ:=[v]) (lam:=[l]) E rfl
theorem two{pins:List (Addr×Obj)}{s:Shared}{σ:St}{H Pr:Hp}{ρ:Ev}{R:D→D→Ev→Prop}(ha:PL X a ta)(hb:PL X b tb)(I:Inv X pins σ H s)(E:REnv X.K Pr H σ ρ)
  (h:ta ρ fun x ρ1=>toD x fun dx=>tb ρ1 fun y ρ2=>toD y fun dy=>R dx dy ρ2) {α:Type} {Q:α→Shared→Prop} {f:Value→Value→Sem α}
  (hf:∀v u s2 x y H2 dx dy ρ2,Inv X pins σ H2 s2→RelV x v→RelV y u→REnv X.K Pr H2 (some y::some x::σ) (.d dy::.d dx::ρ2)→Rep X.K H2 x dx→Rep X.K H2 y dy→R dx dy ρ2→wpAny (model X.prog X.w) X.A (f v u) Q X.xe s2) :
  wpAny (model X.prog X.w) X.A (eval a X.env) (fun v s₁=>wpAny (model X.prog X.w) X.A (eval b X.env) (fun u s₂=>wpAny (model X.prog X.w) X.A (f v u) Q X.xe s₂) X.xe s₁) X.xe s:=by
 refine thn (ha pins s σ H Pr ρ _ I E h) fun v s1 q=>?_
 obtain⟨x,H1,dx,ρ1,I1,r1,E1,q1⟩:=EL.frz (post:=fun dx ρ1=>tb ρ1 fun y ρ2=>toD y fun dy=>R dx dy ρ2) q
 refine thn (hb pins s1 σ H1 _ ρ1 _ I1 E1.tail.wide q1) fun u s2 q=>?_
 obtain⟨y,H2,dy,ρ2,I2,r2,E2,q2⟩:=EL.frz (post:=fun dy ρ2=>R dx dy ρ2) q
 have E3:REnv X.K Pr H2 (some y::some x::σ) (.d dy::.d dx::ρ2):=REnv.step (τ:=[some x]) (lam:=[.d dx]) (w:=[some y]) (μ:=[.d dy]) E1 rfl E2 rfl
 obtain⟨_,e1,p1⟩:=E3.head_d
 obtain⟨_,e2,p2⟩:=E3.tail.head_d
 cases e1
 cases e2
 exact hf v u s2 x y H2 dx dy ρ2 I2 r1 r2 E3 p2 p1 q2
abbrev Op2:=D→D→(L→Prop)→Prop
def OpD(X:Cx)(f:Value→Value→Sem Value)(op:Op2):Prop :=
 ∀(pins:List (Addr×Obj))(s:Shared)(σ:St)(H Pr:Hp)(ρ:Ev)(x y:V)(v u:Value)(dx dy:D)(post:L→Prop),Inv X pins σ H s→RelV x v→RelV y u→REnv X.K Pr H σ ρ→Rep X.K H x dx→Rep X.K H y dy→op dx dy post →
  wpAny (model X.prog X.w) X.A (f v u) (fun w s'=>∃z H' r,Inv X pins σ H' s'∧RelV z w∧REnv X.K Pr H' (some z::σ) (r::ρ)∧post r) X.xe s
theorem OpD.of{f:Value→Value→Sem Value}{r:R2}{op:Op2}(h:OpR X f r)(q:∀σ H Pr ρ x y dx dy post,REnv X.K Pr H σ ρ→Rep X.K H x dx→Rep X.K H y dy→op dx dy post→r x y H fun z H'=>∃r,REnv X.K Pr H' (some z::σ) (r::ρ)∧post r):OpD X f op :=
 fun pins s σ H Pr ρ x y v u dx dy post I rx ry E px py ho=>thn (h pins s σ H x y v u _ I rx ry (q σ H Pr ρ x y dx dy post E px py ho)) fun w s' ⟨z,H',I',rz,r,E',p⟩=>⟨z,H',r,I',rz,E',p⟩
theorem OpD.imp{f:Value→Value→Sem Value}{o1 o2:Op2}(h1:OpD X f o1)(h:∀x y p,o2 x y p→o1 x y p):OpD X f o2 :=
 fun pins s σ H Pr ρ x y v u dx dy post I rx ry E px py ho=>h1 pins s σ H Pr ρ x y v u dx dy post I rx ry E px py (h _ _ _ ho)
def wBin(op:Op2)(ta tb:W L):W L:=fun ρ post=>ta ρ fun x ρ1=>toD x fun dx=>tb ρ1 fun y ρ2=>toD y fun dy=>op dx dy fun r=>post r ρ2
theorem ar{op:Operator}{o:Op2}(ho:OpD X (binaryOp op) o)(ha:PL X a ta)(hb:PL X b tb):PL X (.BinOp a op b pos) (wBin o ta tb):=fun pins s σ H Pr ρ post I E h =>
 wpAny_BinOp (two (R:=fun dx dy ρ2=>o dx dy fun r=>post r ρ2) ha hb I E h fun v u s2 x y H2 dx dy ρ2 I2 r1 r2 E2 p1 p2 q =>
  thn (ho pins s2 σ H2 Pr ρ2 x y v u dx dy _ I2 r1 r2 E2.tail.tail p1 p2 q) fun w s3 ⟨z,H3,r,I3,rz,E3,p⟩=>⟨z,H3,r,ρ2,I3,rz,E3,p⟩)
theorem bU{op:CmpOp}{o:Op2}(ho:OpD X (compareOp op) o)(ha:PL X a ta)(hb:PL X b tb)(hm:behindInMarks op b=false):PL X (.Compare a [op] [b] pos) (wBin o ta tb):=fun pins s σ H Pr ρ post I E h =>
 wpAny_Compare1 (two (R:=fun dx dy ρ2=>o dx dy fun r=>post r ρ2) ha hb I E h fun v u s2 x y H2 dx dy ρ2 I2 r1 r2 E2 p1 p2 q =>
  thn (ho pins s2 σ H2 Pr ρ2 x y v u dx dy _ I2 r1 r2 E2.tail.tail p1 p2 q) fun w s3 ⟨z,H3,r,I3,rz,E3,p⟩=>⟨z,H3,r,ρ2,I3,rz,E3,p⟩) hm
def wC(x:D):W L:=fun ρ post=>post (.d x) ρ
theorem ag {i j pos}:PL X (.Constant (.int i) j pos) (wC (.int i)):=PL.of HF fun σ H Pr ρ post E h=>⟨_,_,E.cons_d (.int i),h⟩
theorem iy {b j pos}:PL X (.Constant (.bool b) j pos) (wC (.bl b)):=PL.of Jx fun σ H Pr ρ post E h=>⟨_,_,E.cons_d (.bl b),h⟩
theorem lD {j pos}:PL X (.Constant .none j pos) (wC .non):=PL.of HG fun σ H Pr ρ post E h=>⟨_,_,E.cons_d .non,h⟩
theorem Fp {x j pos}:PL X (.Constant (.str x) j pos) (wC (.str x)):=PL.of Fi fun σ H Pr ρ post E h=>⟨_,_,E.cons_d (.str x),h⟩
def varW(o:Option L)(i:Nat)(ρ:Ev)(post:L→Ev→Prop):Prop:=match o with
 |some (.d x)=>post (.d x) ρ
 |some (.own _ xs)=>post (.d (.lst xs)) (ρ.set i (.d (.lst xs)))
 |some (.bx a ls)=>toDB a ls fun x=>post (.d x) (ρ.set i (.d x))
 |_=>False
def wVar(i:Nat):W L:=fun ρ post=>varW ρ[i]? i ρ post
theorem Ij(x:D)(i:Nat)(ρ:Ev)(post:L→Ev→Prop):varW (some (.d x)) i ρ post=post (.d x) ρ:=(rfl)
theorem Dw(a:Addr)(xs:List D)(i:Nat)(ρ:Ev)(post:L→Ev→Prop):varW (some (.own a xs)) i ρ post=post (.d (.lst xs)) (ρ.set i (.d (.lst xs))):=(rfl)
theorem F6(a:Option Addr)(ls:List L)(i:Nat)(ρ:Ev)(post:L→Ev→Prop):varW (some (.bx a ls)) i ρ post=toDB a ls fun x=>post (.d x) (ρ.set i (.d x)):=(rfl)
theorem REnv.slot{K:PySem.W.Frag}{Pr H:Hp}{σ:St}{ρ:Ev}{i:Nat}{l:L}(E:REnv K Pr H σ ρ)(h:ρ[i]?=some l):∃s,σ[i]?=some s∧bI K H s l:=Paired.get2 E.sl h
theorem af(i:Nat){x:Str}{pos:Pos}(hN:X.N[i]?=some x:=by rfl)(hv:Vis X.env.scope x:=by first | exact Or.inl rfl | exact Or.inr (Or.inl rfl) | exact Or.inr (Or.inr rfl)) (hd:(x == ("__debug__" : Str))=false:=by decide)
  (hcd:(x == ("__classdict__" : Str))=false:=by decide):PL X (.Name x pos) (wVar i):=by
 intro pins s σ H Pr ρ post I E h
 unfold wVar varW at h
 cases q:ρ[i]? with
 |none=>rw[q]at h;exact h.elim
 | some l =>
  rw[q]at h
  obtain⟨sv,hs,sl⟩:=E.slot q
  cases l with
  |un=>exact h.elim
  |dic a kvs=>exact h.elim
  | d y =>
   obtain⟨v,rfl,r⟩:=sl
   exact thn (ie hN hv hd hcd pins s σ H (fun w H'=>w=v∧H'=H) I ⟨v,hs,rfl,rfl⟩) fun u s1 ⟨w,H1,I1,r1,e1,e2⟩=>by
    subst e1 e2
    exact⟨w,H1,_,ρ,I1,r1,E.cons_d r,h⟩
  | own a xs =>
   obtain⟨rfl,vs,ha,r⟩:=sl
   refine thn (ie hN hv hd hcd pins s σ H (fun w H'=>w=.ref a∧H'=H) I ⟨.ref a,hs,rfl,rfl⟩) fun u s1 ⟨w,H1,I1,r1,e1,e2⟩=>?_
   subst e1 e2
   obtain⟨o,I2⟩:=I1.freezeL ha
   have E2:=(E.out q).freeze ha o
   have hi:i<ρ.length:=(List.getElem?_eq_some_iff.mp q).1
   have E3:=E2.back (i:=i) (by simp[hi]) hs
   rw[List.set_set]at E3
   obtain⟨_,e,p⟩:=E2.head_d
   cases e
   exact⟨_,_,_,_,I2,r1,E3.cons_d p,h⟩
  | bx a ls =>
   obtain⟨y,ey,h⟩:=Ba h
   have hv':∃b,sv=some (.ref b):=by
    cases a with
    |none=>simp only[bI]at sl;obtain⟨b,_,e,_⟩:=sl;exact⟨b,e⟩
    |some b=>simp only[bI]at sl;exact⟨b,sl.1⟩
   obtain⟨b,rfl⟩:=hv'
   refine thn (ie hN hv hd hcd pins s σ H (fun w H'=>w=.ref b∧H'=H) I ⟨.ref b,hs,rfl,rfl⟩) fun u s1 ⟨w,H1,I1,r1,e1,e2⟩=>?_
   subst e1 e2
   obtain⟨H2,I2,E2,_⟩:=frzL (.bx a ls) I1 (E.outL q hs) ey
   have hi:i<ρ.length:=(List.getElem?_eq_some_iff.mp q).1
   have E3:=E2.back (i:=i) (by simp[hi]) hs
   rw[List.set_set]at E3
   obtain⟨_,e,p⟩:=E2.head_d
   cases e
   exact⟨_,_,_,_,I2,r1,E3.cons_d p,h⟩
def movW(o:Option L)(i:Nat)(ρ:Ev)(post:L→Ev→Prop):Prop:=match o with
 |some (.d x)=>post (.d x) ρ
 |some (.own a xs)=>post (.own a xs) (ρ.set i .un)
 |some (.bx a ls)=>post (.bx a ls) (ρ.set i .un)
 |_=>False
def jS(i:Nat):W L:=fun ρ post=>movW ρ[i]? i ρ post
theorem Ik(x:D)(i:Nat)(ρ:Ev)(post:L→Ev→Prop):movW (some (.d x)) i ρ post=post (.d x) ρ:=(rfl)
theorem Dx(a:Addr)(xs:List D)(i:Nat)(ρ:Ev)(post:L→Ev→Prop):movW (some (.own a xs)) i ρ post=post (.own a xs) (ρ.set i .un):=(rfl)
theorem F7(a:Option Addr)(ls:List L)(i:Nat)(ρ:Ev)(post:L→Ev→Prop):movW (some (.bx a ls)) i ρ post=post (.bx a ls) (ρ.set i .un):=(rfl)
theorem dA(i:Nat){x:Str}{pos:Pos}(hN:X.N[i]?=some x:=by rfl)(hv:Vis X.env.scope x:=by first | exact Or.inl rfl | exact Or.inr (Or.inl rfl) | exact Or.inr (Or.inr rfl)) (hd:(x == ("__debug__" : Str))=false:=by decide)
  (hcd:(x == ("__classdict__" : Str))=false:=by decide):PL X (.Name x pos) (jS i):=by
 intro pins s σ H Pr ρ post I E h
 unfold jS movW at h
 cases q:ρ[i]? with
 |none=>rw[q]at h;exact h.elim
 | some l =>
  rw[q]at h
  obtain⟨sv,hs,sl⟩:=E.slot q
  cases l with
  |un=>exact h.elim
  |dic a kvs=>exact h.elim
  | d y =>
   obtain⟨v,rfl,r⟩:=sl
   exact thn (ie hN hv hd hcd pins s σ H (fun w H'=>w=v∧H'=H) I ⟨v,hs,rfl,rfl⟩) fun u s1 ⟨w,H1,I1,r1,e1,e2⟩=>by
    subst e1 e2
    exact⟨w,H1,_,ρ,I1,r1,E.cons_d r,h⟩
  | own a xs =>
   obtain⟨rfl,vs,ha,r⟩:=sl
   refine thn (ie hN hv hd hcd pins s σ H (fun w H'=>w=.ref a∧H'=H) I ⟨.ref a,hs,rfl,rfl⟩) fun u s1 ⟨w,H1,I1,r1,e1,e2⟩=>?_
   subst e1 e2
   exact⟨_,_,_,_,I1,r1,E.out q,h⟩
  | bx a ls =>
   have hv':∃b,sv=some (.ref b):=by
    cases a with
    |none=>simp only[bI]at sl;obtain⟨b,_,e,_⟩:=sl;exact⟨b,e⟩
    |some b=>simp only[bI]at sl;exact⟨b,sl.1⟩
   obtain⟨b,rfl⟩:=hv'
   refine thn (ie hN hv hd hcd pins s σ H (fun w H'=>w=.ref b∧H'=H) I ⟨.ref b,hs,rfl,rfl⟩) fun u s1 ⟨w,H1,I1,r1,e1,e2⟩=>?_
   subst e1 e2
   exact⟨_,_,_,_,I1,r1,E.outL q hs,h⟩
theorem F8{x:Str}{v:V}{u:Value}{y:D}{pos:Pos}(hg:Gl X x)(hm:X.mg x=some u)(r:RelV v u)(hy:∀ H,Rep X.K H v y) (hd:(x == ("__debug__" : Str))=false:=by decide):PL X (.Name x pos) (wC y) :=
 PL.of (FJ hg hm r hd) fun σ H Pr ρ post E h=>⟨_,_,E.cons_d (hy H),h⟩
def isBl:L→(Bool→Prop)→Prop
 |.d (.bl b),k=>k b
 |_,_=>False
def aN(t:W L):W Bool:=fun ρ post=>t ρ fun r ρ1=>isBl r fun b=>post b ρ1
theorem oU{r:L}{k:Bool→Prop}(h:isBl r k):∃b,r=.d (.bl b)∧k b:=by
 cases r with
 | d x=>cases x with
  |bl b=>exact⟨b,rfl,h⟩
  |_=>exact h.elim
 |_=>exact h.elim
theorem bq{t:W L}(h:PL X e t)(he:∀whole,isTrue e X.env whole=(do let v ← whole;standAt e.pos;holding [v] (truthy v)):=by intro _;rfl):PB X e (aN t):=by
 intro pins s σ H Pr ρ post I E ht
 rw[he]
 refine wpAny_bind (thn (h pins s σ H Pr ρ _ I E ht) fun u s1 ⟨v,H1,r,ρ1,I1,rv,E1,p⟩=>wpAny_bind (wpAny_standAt (wpAny_holding ?_)))
 obtain⟨b,rfl,p⟩:=oU p
 obtain⟨_,e1,p1⟩:=E1.head_d
 cases e1
 cases p1
 cases rv
 exact wpAny_truthy_bool ⟨H1,ρ1,I1,E1.tail,p⟩
end
section
variable{X:Cx}{e a b c:Expr}{rest:List Expr}{pos:Pos}{ta tb:W L}{tA tB:W Bool}
def PBw(X:Cx)(e:Expr)(t:W Bool):Prop :=
 ∀(whole:Sem Value)(pins:List (Addr×Obj))(s:Shared)(σ:St)(H Pr:Hp)(ρ:Ev)(post:Bool→Ev→Prop),Inv X pins σ H s→REnv X.K Pr H σ ρ→t ρ post→wpAny (model X.prog X.w) X.A (isTrue e X.env whole) (EB X pins σ Pr post) X.xe s
theorem PBw.pb{t:W Bool}(h:PBw X e t):PB X e t:=h _
def wOr(t u:W Bool):W Bool:=fun ρ post=>t ρ fun c ρ1=>if c=true then post true ρ1 else u ρ1 post
def wNot(t:W Bool):W Bool:=fun ρ post=>t ρ fun c ρ1=>post (!c) ρ1
theorem cS(ha:PB X a tA):PBw X (.BoolOp .Or [a] pos) tA:=by
 intro wh pins s σ H Pr ρ post I E h
 refine isTrue_or (thn (ha pins s σ H Pr ρ post I E h) fun c s1 e=>?_)
 cases c with
 |false=>exact isTrue_or_nil e
 |true=>exact e
theorem cy(ha:PB X a tA)(hb:PBw X (.BoolOp .Or (b::rest) pos) tB):PBw X (.BoolOp .Or (a::b::rest) pos) (wOr tA tB):=by
 intro wh pins s σ H Pr ρ post I E h
 refine isTrue_or (thn (ha pins s σ H Pr ρ _ I E h) fun c s1 ⟨H1,ρ1,I1,E1,q1⟩=>?_)
 cases c with
 |true=>exact⟨H1,ρ1,I1,E1,q1⟩
 |false=>exact hb wh pins s1 σ H1 Pr ρ1 post I1 E1 q1
theorem cT(ha:PB X a tA):PB X (.UnaryOp .Not a pos) (wNot tA):=by
 intro pins s σ H Pr ρ post I E h
 exact isTrue_not (ha pins s σ H Pr ρ (fun c ρ1=>post (!c) ρ1) I E h)
theorem pbc{op:CmpOp}{o:Op2}(ho:OpD X (compareOp op) o)(ha:PL X a ta)(hb:PL X b tb)(hm:behindInMarks op b=false):PB X (.Compare a [op] [b] pos) (aN (wBin o ta tb)):=by
 intro pins s σ H Pr ρ post I E h
 refine wpAny_isTrue_Compare1 (two (R:=fun dx dy ρ2=>o dx dy fun r=>isBl r fun b=>post b ρ2) ha hb I E h fun v u s2 x y H2 dx dy ρ2 I2 r1 r2 E2 p1 p2 q=>?_) hm
 refine thn (ho pins s2 σ H2 Pr ρ2 x y v u dx dy _ I2 r1 r2 E2.tail.tail p1 p2 q) fun w s3 ⟨z,H3,r,I3,rz,E3,p⟩=>?_
 obtain⟨b,rfl,p⟩:=oU p
 obtain⟨_,e1,p1⟩:=E3.head_d
 cases e1
 cases p1
 cases rz
 exact wpAny_truthy_bool ⟨H3,ρ2,I3,E3.tail,p⟩
def jT(ta tb:W L):W L:=fun ρ post=>ta ρ fun r ρ1=>isBl r fun c=>if c=true then tb ρ1 post else post (.d (.bl false)) ρ1
def wOrV(ta tb:W L):W L:=fun ρ post=>ta ρ fun r ρ1=>isBl r fun c=>if c=true then post (.d (.bl true)) ρ1 else tb ρ1 post
def Bc(t:W Bool):W L:=fun ρ post=>t ρ fun c ρ1=>post (.d (.bl (!c))) ρ1
theorem ij {op} {t:W L} (h:PL X a t):PL X (.BoolOp op [a] pos) t:=fun pins s σ H Pr ρ post I E hw=>BoolOp_one (h pins s σ H Pr ρ post I E hw)
theorem EL.bl{pins:List (Addr×Obj)}{σ:St}{Pr:Hp}{post:Bool→Ev→Prop}{u:Value}{s':Shared}(h:EL X pins σ Pr (fun r ρ=>isBl r fun b=>post b ρ) u s') :
  ∃H' b ρ',u=.bool b∧Inv X pins σ H' s'∧REnv X.K Pr H' σ ρ'∧post b ρ':=by
 obtain⟨v,H',r,ρ',I,rv,E,p⟩:=h
 obtain⟨b,rfl,p⟩:=oU p
 obtain⟨_,e1,p1⟩:=E.head_d
 cases e1
 cases p1
 cases rv
 exact⟨H',b,ρ',rfl,I,E.tail,p⟩
theorem fo(ha:PL X a ta)(hb:PL X (.BoolOp .And (b::rest) pos) tb):PL X (.BoolOp .And (a::b::rest) pos) (jT ta tb):=by
 intro pins s σ H Pr ρ post I E h
 refine BoolOp_and (thn (ha pins s σ H Pr ρ _ I E h) fun v s1 q=>?_)
 obtain⟨H1,c,ρ1,rfl,I1,E1,q1⟩:=EL.bl (post:=fun c ρ1=>if c=true then tb ρ1 post else post (.d (.bl false)) ρ1) q
 refine wpAny_truthy_bool ?_
 cases c with
 |true=>exact hb pins s1 σ H1 Pr ρ1 post I1 E1 q1
 |false=>exact⟨.bl false,H1,_,ρ1,I1,rfl,E1.cons_d (.bl false),q1⟩
theorem JN(ha:PL X a ta)(hb:PL X (.BoolOp .Or (b::rest) pos) tb):PL X (.BoolOp .Or (a::b::rest) pos) (wOrV ta tb):=by
 intro pins s σ H Pr ρ post I E h
 refine BoolOp_or (thn (ha pins s σ H Pr ρ _ I E h) fun v s1 q=>?_)
 obtain⟨H1,c,ρ1,rfl,I1,E1,q1⟩:=EL.bl (post:=fun c ρ1=>if c=true then post (.d (.bl true)) ρ1 else tb ρ1 post) q
 refine wpAny_truthy_bool ?_
 cases c with
 |false=>exact hb pins s1 σ H1 Pr ρ1 post I1 E1 q1
 |true=>exact⟨.bl true,H1,_,ρ1,I1,rfl,E1.cons_d (.bl true),q1⟩
theorem Bd(ha:PL X a ta):PL X (.UnaryOp .Not a pos) (Bc (aN ta)):=by
 intro pins s σ H Pr ρ post I E h
 refine UnaryOp_ (thn (ha pins s σ H Pr ρ _ I E h) fun v s1 q=>?_)
 obtain⟨H1,c,ρ1,rfl,I1,E1,q1⟩:=EL.bl (post:=fun c ρ1=>post (.d (.bl (!c))) ρ1) q
 exact not_of (wpAny_truthy_bool ⟨.bl (!c),H1,_,ρ1,I1,rfl,E1.cons_d (.bl _),q1⟩)
def wIfE(t:W Bool)(ta tb:W L):W L:=fun ρ post=>t ρ fun c ρ1=>if c=true then ta ρ1 post else tb ρ1 post
theorem Il(hc:PB X c tA)(ha:PL X a ta)(hb:PL X b tb):PL X (.IfExp c a b pos) (wIfE tA ta tb):=by
 intro pins s σ H Pr ρ post I E h
 refine wpAny_IfExp (thn (hc pins s σ H Pr ρ _ I E h) fun d s1 ⟨H1,ρ1,I1,E1,q1⟩=>?_)
 cases d with
 |true=>exact ha pins s1 σ H1 Pr ρ1 post I1 E1 q1
 |false=>exact hb pins s1 σ H1 Pr ρ1 post I1 E1 q1
def wUn(op:D→(L→Prop)→Prop)(t:W L):W L:=fun ρ post=>t ρ fun x ρ1=>toD x fun dx=>op dx fun r=>post r ρ1
def zQ:D→(L→Prop)→Prop
 |.int i,k=>k (.d (.int (-i)))
 |_,_=>False
theorem yJ(ha:PL X a ta):PL X (.UnaryOp .USub a pos) (wUn zQ ta):=by
 intro pins s σ H Pr ρ post I E h
 refine UnaryOp_ (thn (ha pins s σ H Pr ρ _ I E h) fun v s1 q=>?_)
 obtain⟨x,H1,dx,ρ1,I1,r1,E1,q1⟩:=EL.frz (post:=fun dx ρ1=>zQ dx fun r=>post r ρ1) q
 obtain⟨_,e1,p1⟩:=E1.head_d
 cases e1
 cases p1 with
 | int i =>
  exact thn (HP pins s1 σ H1 _ v (fun w H'=>w=.int (-i)∧H'=H1) I1 r1 ⟨i,rfl,rfl,rfl⟩) fun u s2 ⟨w,H2,I2,r2,e1,e2⟩=>by
   subst e1 e2
   exact⟨_,_,_,ρ1,I2,r2,E1.tail.cons_d (.int _),q1⟩
 |_=>exact q1.elim
variable{st:Stmt}{sts:List Stmt}{t u:W Fl}
def bu:W Fl:=fun ρ post=>post .nx ρ
def wSeq(t u:W Fl):W Fl:=fun ρ post=>t ρ fun f ρ1=>match f with
 |.nx=>u ρ1 post
 |f=>post f ρ1
theorem aJ:PMs X [] bu:=fun _ _ σ H Pr ρ post I E h=>wpAny_execs_nil ⟨σ,H,ρ,I,E,h⟩
theorem ai(h1:PM X st t)(h2:PMs X sts u):PMs X (st::sts) (wSeq t u):=by
 intro pins s σ H Pr ρ post I E h
 refine wpAny_execs_cons (thn (h1 pins s σ H Pr ρ _ I E h) fun f s1 q=>?_)
 cases f with
 | next =>
  obtain⟨σ',H',ρ',I',E',q⟩:=q
  exact h2 pins s1 σ' H' Pr ρ' post I' E' q
 |ret v=>exact q
 |brk=>exact q
 |cont=>exact q
theorem ak(h1:PM X st t):PMs X [st] t:=by
 intro pins s σ H Pr ρ post I E h
 refine wpAny_execs_cons (thn (h1 pins s σ H Pr ρ _ I E h) fun f s1 q=>?_)
 cases f with
 |next=>exact wpAny_execs_nil q
 |ret v=>exact q
 |brk=>exact q
 |cont=>exact q
def uX(t:W L):W Fl:=fun ρ post=>t ρ fun _ ρ1=>post .nx ρ1
theorem mK{te:W L}(he:PL X e te)(hs:swapsWith e none pos.line X.env=pure false:=by rfl):PM X (.Expr e pos) (uX te):=by
 intro pins s σ H Pr ρ post I E h
 exact wpAny_Expr_any (thn (he pins s σ H Pr ρ _ I E h) fun v s1 ⟨x,H1,r,ρ1,I1,r1,E1,q1⟩=>⟨σ,H1,ρ1,I1,E1.tail,q1⟩) I.quiet hs
def wRet(t:W L):W Fl:=fun ρ post=>t ρ fun r ρ1=>post (.rt r) ρ1
theorem ax{te:W L}(he:PL X e te):PM X (.Return (some e) pos) (wRet te):=by
 intro pins s σ H Pr ρ post I E h
 exact wpAny_Return_some (thn (he pins s σ H Pr ρ _ I E h) fun v s1 ⟨x,H1,r,ρ1,I1,r1,E1,q1⟩=>⟨x,σ,H1,r,ρ1,σ,I1,r1,E1,q1⟩)
def wIf(c:W Bool)(t u:W Fl):W Fl:=fun ρ post=>c ρ fun b ρ1=>if b=true then t ρ1 post else u ρ1 post
theorem bG{sa sb:List Stmt}(hc:PB X c tA)(ha:PMs X sa t)(hb:PMs X sb u):PM X (.If c sa sb pos) (wIf tA t u):=by
 intro pins s σ H Pr ρ post I E h
 refine wpAny_If (thn (hc pins s σ H Pr ρ _ I E h) fun d s1 ⟨H1,ρ1,I1,E1,q1⟩=>?_)
 cases d with
 |true=>exact ha pins s1 σ H1 Pr ρ1 post I1 E1 q1
 |false=>exact hb pins s1 σ H1 Pr ρ1 post I1 E1 q1
def Be:W Fl:=fun _ _=>False
theorem yK:PM X st Be:=fun _ _ _ _ _ _ _ _ _ h=>h.elim
theorem REnv.forget{K:PySem.W.Frag}{Pr H:Hp}{σ:St}{ρ:Ev}(E:REnv K Pr H σ ρ)(i:Nat)(v:Option V):REnv K Pr H (σ.set i v) (ρ.set i .un):=by
 have hsub:(owns (ρ.set i .un)).Sublist (owns ρ):=by
  have:∀(ρ:Ev)(i:Nat),(owns (ρ.set i .un)).Sublist (owns ρ):=by
   intro ρ
   induction ρ with
   |nil=>intro i;exact List.Sublist.refl _
   | cons l ρ ih =>
    intro i
    cases i with
    | zero =>
     show(owns ρ).Sublist (owns (l::ρ))
     rw[aI];exact List.sublist_append_right _ _
    | succ i =>
     show(owns (l::ρ.set i .un)).Sublist (owns (l::ρ))
     rw[aI,aI]
     exact(List.Sublist.refl _).append (ih i)
  exact this ρ i
 exact⟨E.sub,E.nd.sublist hsub,fun a h=>E.off a (hsub.subset h),Paired.set2 True.intro i E.sl⟩
theorem REnv.store{K:PySem.W.Frag}{Pr H:Hp}{σ:St}{ρ:Ev}{v:Option V}{l:L}(E:REnv K Pr H (v::σ) (l::ρ)){i:Nat}(hi:i<σ.length):REnv K Pr H (σ.set i v) (ρ.set i l):=by
 have E1:=E.forget (i+1) v
 have E2:REnv K Pr H (v::σ.set i v) (l::ρ.set i .un):=E1
 have hl:=E.tail.len
 have E3:=E2.back (i:=i) (by rw[List.getElem?_set_self (by omega)]) (by rw[List.getElem?_set_self hi])
 rw[List.set_set]at E3
 exact E3
def wSet(i:Nat)(t:W L):W Fl:=fun ρ post=>t ρ fun r ρ1=>post .nx (ρ1.set i r)
theorem az{i:Nat}{x:Str}{te:W L}{pos':Pos}(hN:X.N.Nodup)(hi:X.N[i]?=some x)(hx:Loc X.env.scope x)(he:PL X e te)(hs:swapsWith e (some (.Name x pos')) pos.line X.env=pure false:=by rfl)(hf:X.fn x=true∨X.env.scope.names.lookup x=some .local:=by first|exact .inl rfl|exact .inr rfl|assumption) :
  PM X (.Assign [.Name x pos'] e pos) (wSet i te):=by
 intro pins s σ H Pr ρ post I E h
 refine wpAny_Assign_Name (thn (he pins s σ H Pr ρ _ I E h) fun v s1 ⟨y,H1,r,ρ1,I1,r1,E1,q1⟩=>?_) hs
 exact oz I1 hN hi hx r1 (fun s2 I2=>⟨_,H1,_,I2,E1.store (by rw[I1.len];exact(List.getElem?_eq_some_iff.mp hi).1),q1⟩) hf
end
theorem lE{a b:Ev}(h:a.Perm b):(owns a).Perm (owns b):=by
 induction h with
 |nil=>exact .refl _
 |cons x _ ih=>rw[aI,aI];exact ih.append_left _
 | swap x y l =>
  rw[aI,aI,aI,aI,← List.append_assoc,← List.append_assoc]
  exact List.Perm.append_right _ List.perm_append_comm
 |trans _ _ h1 h2=>exact h1.trans h2
theorem Dy{a b:Ev}(h:a.Sublist b):(owns a).Sublist (owns b):=by
 induction h with
 |slnil=>exact .refl _
 |cons x _ ih=>rw[aI];exact ih.trans (List.sublist_append_right _ _)
 |cons_cons x _ ih=>rw[aI,aI];exact(List.Sublist.refl _).append ih
def tL(K:PySem.W.Frag)(t:W L):TE:=fun σ H Q=>∃Pr ρ post,REnv K Pr H σ ρ∧t ρ post∧∀v H' r ρ',REnv K Pr H' (some v::σ) (r::ρ')→post r ρ'→Q v H'
def tW(K:PySem.W.Frag)(t:W Fl):TS:=fun D σ H=>∃Pr ρ post,REnv K Pr H σ ρ∧t ρ post∧(∀σ' H' ρ',REnv K Pr H' σ' ρ'→post .nx ρ'→D.nx σ' H')∧(∀σ' H' ρ',REnv K Pr H' σ' ρ'→post .bk ρ'→D.bk σ' H')∧(∀σ' H' ρ',REnv K Pr H' σ' ρ'→post .ct ρ'→D.ct σ' H') ∧
 ∀v τ H' r ρ',REnv K Pr H' (some v::τ) (r::ρ')→post (.rt r) ρ'→D.rt v H'
def tWb(K:PySem.W.Frag)(t:W Bool):TT:=fun σ H Q=>∃Pr ρ post,REnv K Pr H σ ρ∧t ρ post∧∀b H' ρ',REnv K Pr H' σ ρ'→post b ρ'→Q b H'
section
variable{X:Cx}{e a b:Expr}{es:List Expr}{pos:Pos}{st:Stmt}{sts:List Stmt}{t u:W Fl}
theorem PL.pe{t:W L}(h:PL X e t):PE X e (tL X.K t):=fun pins s σ H Q I ⟨Pr,ρ,post,E,ht,q⟩ =>
 thn (h pins s σ H Pr ρ post I E ht) fun u s1 ⟨v,H1,r,ρ1,I1,rv,E1,p⟩=>⟨v,H1,I1,rv,q v H1 r ρ1 E1 p⟩
theorem PB.pt{t:W Bool}(h:PB X e t):PT X e (tWb X.K t):=fun pins s σ H Q I ⟨Pr,ρ,post,E,ht,q⟩ =>
 thn (h pins s σ H Pr ρ post I E ht) fun b s1 ⟨H1,ρ1,I1,E1,p⟩=>⟨H1,I1,q b H1 ρ1 E1 p⟩
theorem PMs.pss(h:PMs X sts t):PSs X sts (tW X.K t):=fun pins s σ H D I ⟨Pr,ρ,post,E,ht,q1,q2,q3,q4⟩ =>
 thn (h pins s σ H Pr ρ post I E ht) fun f s1 q=>by
  cases f with
  |next=>obtain⟨σ',H',ρ',I',E',p⟩:=q;exact⟨σ',H',I',q1 σ' H' ρ' E' p⟩
  |brk=>obtain⟨σ',H',ρ',I',E',p⟩:=q;exact⟨σ',H',I',q2 σ' H' ρ' E' p⟩
  |cont=>obtain⟨σ',H',ρ',I',E',p⟩:=q;exact⟨σ',H',I',q3 σ' H' ρ' E' p⟩
  |ret u=>obtain⟨v,σ',H',r,ρ',τ,I',rv,E',p⟩:=q;exact⟨v,σ',H',I',rv,q4 v τ H' r ρ' E' p⟩
def Im(K:PySem.W.Frag)(Pr:Hp)(post:Fl→Ev→Prop):Ends where
 nx:=fun σ' H'=>∃ρ',REnv K Pr H' σ' ρ'∧post .nx ρ'
 rt:=fun v H'=>∃τ r ρ',REnv K Pr H' (some v::τ) (r::ρ')∧post (.rt r) ρ'
 bk:=fun σ' H'=>∃ρ',REnv K Pr H' σ' ρ'∧post .bk ρ'
 ct:=fun σ' H'=>∃ρ',REnv K Pr H' σ' ρ'∧post .ct ρ'
theorem PM.of{ts:TS}(h:PS X st ts)(q:∀σ H Pr ρ post,σ.length=X.N.length→REnv X.K Pr H σ ρ→t ρ post→ts (Im X.K Pr post) σ H):PM X st t:=fun pins s σ H Pr ρ post I E ht =>
 thn (h pins s σ H _ I (q σ H Pr ρ post I.len E ht)) fun f s1 q=>by
  cases f with
  |next=>obtain⟨σ',H',I',ρ',E',p⟩:=q;exact⟨σ',H',ρ',I',E',p⟩
  |brk=>obtain⟨σ',H',I',ρ',E',p⟩:=q;exact⟨σ',H',ρ',I',E',p⟩
  |cont=>obtain⟨σ',H',I',ρ',E',p⟩:=q;exact⟨σ',H',ρ',I',E',p⟩
  |ret u=>obtain⟨v,σ',H',I',rv,τ,r,ρ',E',p⟩:=q;exact⟨v,σ',H',r,ρ',τ,I',rv,E',p⟩
theorem REnv.narrow{K:PySem.W.Frag}{Pr H1 H:Hp}{σ1 σ:St}{ρ1 ρ:Ev}(E1:REnv K Pr H1 σ1 ρ1)(E:REnv K (bp H1 ρ1) H σ ρ):REnv K Pr H σ ρ:=by
 refine⟨fun b o e=>E.sub b o ?_,E.nd,fun a ha=>?_,E.sl⟩
 ·
  unfold bp
  rw[if_neg,E1.sub b o e]
  intro hm
  have z:=E1.off b hm
  rw[e]at z
  cases z
 ·
  have z:=E.off a ha
  unfold bp at z
  by_cases hm:a∈owns ρ1
  ·
   exact E1.off a hm
  ·
   rw[if_neg hm]at z
   cases q:Pr a with
   |none=>rfl
   |some o=>rw[E1.sub a o q]at z;cases z
def aNil:W (List L):=fun ρ post=>post [] ρ
def aVal(t:W L)(r:W (List L)):W (List L):=fun ρ post=>t ρ fun x ρ1=>r ρ1 fun xs ρ2=>post (x::xs) ρ2
def aVar(i:Nat)(r:W (List L)):W (List L):=fun ρ post=>match ρ[i]? with
 |some (.own _ _)=>r ρ fun xs ρ2=>post (.un::xs) ρ2
 |_=>False
theorem ah:PAL X [] [] aNil:=fun _ pins s σ H Pr ρ post I E h=>Calls.spliced_nil ⟨[],H,[],ρ,I,.nil,rfl,rfl,E,fun k i e=>by simp at e,h⟩
theorem ae{bs:List (Option Nat)}{r:W (List L)}{t:W L}(ha:PL X e t)(hr:PAL X es bs r)(hs:starEach (e::es) X.env=(false,eval e X.env)::starEach es X.env:=by rfl):PAL X (e::es) (none::bs) (aVal t r):=by
 intro pos pins s σ H Pr ρ post I E h
 rw[hs]
 show wpAny _ _ (spliced ((false,eval e X.env)::backTo pos (starEach es X.env))) _ _ s
 refine Calls.spliced_cons (thn (ha pins s σ H Pr ρ _ I E h) fun u s1 ⟨x,H1,l,ρ1,I1,r1,E1,q1⟩=>?_)
 refine thn (hr pos pins s1 σ H1 _ ρ1 _ I1 E1.tail.wide q1) fun us s2 ⟨vs,H2,ls,ρ2,I2,r2,hl,hb,E2,hv,q2⟩=>?_
 have E3:REnv X.K Pr H2 (vs.map some++(some x::σ)) (ls++(l::ρ2)):=REnv.step (τ:=[some x]) (lam:=[l]) E1 rfl E2 (by simp[hl])
 have E4:REnv X.K Pr H2 (some x::(vs.map some++σ)) (l::(ls++ρ2)):=by
  have pm:(owns (ls++(l::ρ2))).Perm (owns (l::(ls++ρ2))):=lE List.perm_middle
  have s1:=Paired.unapp (by simp[hl]) E3.sl
  obtain⟨s1,s2⟩:=s1
  cases s2 with
  |cons q t=>exact⟨E3.sub,pm.nodup_iff.mp E3.nd,fun a h=>E3.off a (pm.mem_iff.mpr h),.cons q (Paired.app s1 t)⟩
 refine⟨x::vs,H2,l::ls,ρ2,I2,.cons r1 r2,by simp[hl],by simp[hb],E4,fun k i e=>?_,q2⟩
 cases k with
 |zero=>simp at e
 |succ k=>simpa using hv k i (by simpa using e)
theorem aS(i:Nat){x:Str}{p:Pos}{bs:List (Option Nat)}{r:W (List L)}(hr:PAL X es bs r)(hN:X.N[i]?=some x:=by rfl)(hv:Vis X.env.scope x:=by first | exact Or.inl rfl | exact Or.inr (Or.inl rfl) | exact Or.inr (Or.inr rfl)) (hd:(x == ("__debug__" : Str))=false:=by decide)
  (hcd:(x == ("__classdict__" : Str))=false:=by decide) (hs:starEach (.Name x p::es) X.env=(false,eval (.Name x p) X.env)::starEach es X.env:=by rfl):PAL X (.Name x p::es) (some i::bs) (aVar i r):=by
 intro pos pins s σ H Pr ρ post I E h
 unfold aVar at h
 cases q:ρ[i]? with
 |none=>rw[q]at h;exact h.elim
 | some l =>
  rw[q]at h
  cases l with
  |un=>exact h.elim
  |d y=>exact h.elim
  |bx _ _=>exact h.elim
  |dic _ _=>exact h.elim
  | own a xs =>
   obtain⟨sv,hsl,sl⟩:=E.slot q
   obtain⟨rfl,_⟩:=sl
   rw[hs]
   show wpAny _ _ (spliced ((false,eval (.Name x p) X.env)::backTo pos (starEach es X.env))) _ _ s
   refine Calls.spliced_cons (thn (ie hN hv hd hcd pins s σ H (fun w H'=>w=.ref a∧H'=H) I ⟨.ref a,hsl,rfl,rfl⟩) fun u s1 ⟨w,H1,I1,r1,e1,e2⟩=>?_)
   subst e1 e2
   refine thn (hr pos pins s1 σ H1 Pr ρ _ I1 E h) fun us s2 ⟨vs,H2,ls,ρ2,I2,r2,hl,hb,E2,hv,q2⟩=>?_
   refine⟨.ref a::vs,H2,.un::ls,ρ2,I2,.cons r1 r2,by simp[hl],by simp[hb],E2.cons_un,fun k j e=>?_,q2⟩
   cases k with
   |zero=>simp at e;subst e;exact⟨rfl,.ref a,rfl,hsl⟩
   |succ k=>simpa using hv k j (by simpa using e)
def toDs:List L→(List D→Prop)→Prop
 |[],k=>k []
 |.d x::r,k=>toDs r fun xs=>k (x::xs)
 |_::_,_=>False
theorem oV:∀{ls:List L}{k:List D→Prop},toDs ls k→∃xs,ls=xs.map .d∧k xs
 |[],_,h=>⟨[],rfl,h⟩
 | .d x::r,k,h=>by
  obtain⟨xs,e,q⟩:=oV (ls:=r) h
  exact⟨x::xs,by rw[e];rfl,q⟩
 |.un::_,_,h=>h.elim
 |.own _ _::_,_,h=>h.elim
theorem oW{K:PySem.W.Frag}{Pr H:Hp}{σ:St}{ρ:Ev}:∀{vs:List V}{xs:List D},vs.length=xs.length→REnv K Pr H (vs.map some++σ) (xs.map .d++ρ)→Reps K H vs xs
 |[],[],_,_=>.nil
 | v::vs,x::xs,hl,E=>by
  obtain⟨w,e,r⟩:=REnv.head_d (v:=some v) (x:=x) E
  cases e
  exact .cons r (oW (by simpa using hl) (REnv.tail (v:=some v) (l:=.d x) E))
 |[],_::_,hl,_=>by simp at hl
 |_::_,[],hl,_=>by simp at hl
def wTup(t:W (List L)):W L:=fun ρ post=>t ρ fun ls ρ1=>toDs ls fun xs=>xs.length≤sizeLine∧post (.d (.tup xs)) ρ1
def wLst(t:W (List L)):W L:=fun ρ post=>t ρ fun ls ρ1=>toDs ls fun xs=>xs.length≤sizeLine∧∀a,post (.own a xs) ρ1
theorem a9 {x1} {bs:List (Option Nat)} {t:W (List L)} (h:PAL X es bs t):PL X (.Tuple es x1 pos) (wTup t):=by
 intro pins s σ H Pr ρ post I E hq
 refine wpAny_Tuple_spliced (thn (h pos pins s σ H Pr ρ _ I E hq) fun us s1 ⟨vs,H1,ls,ρ1,I1,r,hl,hb,E1,hv,q⟩=>?_)
 obtain⟨xs,rfl,z,q⟩:=oV q
 have hlen:vs.length=xs.length:=by simpa using hl
 refine⟨by rw[← r.length,hlen];exact z,?_⟩
 have hf:H1 s1.heap.objs.size=none:=I1.hok.fresh (Nat.le_refl _)
 refine⟨.ref s1.heap.objs.size,upd H1 s1.heap.objs.size (.tup vs),_,ρ1,I1.laid (t':=s1.toks) (fun b u e=>Heap.get?_push_of_some _ e) (Nat.le_refl _) ?_,rfl,(E1.drop (by simp[hlen])).cons_tup hf (oW hlen E1),q⟩
 exact⟨by rw[hlen];exact z,us,r,⟨_,Heap.get?_push_size _ rfl,rfl,_,rfl⟩⟩
theorem bJ{bs:List (Option Nat)}{t:W (List L)}(h:PAL X es bs t):PL X (.List es pos) (wLst t):=by
 intro pins s σ H Pr ρ post I E hq
 refine wpAny_List_spliced (thn (h pos pins s σ H Pr ρ _ I E hq) fun us s1 ⟨vs,H1,ls,ρ1,I1,r,hl,hb,E1,hv,q⟩=>?_)
 obtain⟨xs,rfl,z,q⟩:=oV q
 have hlen:vs.length=xs.length:=by simpa using hl
 refine⟨by rw[← r.length,hlen];exact z,?_⟩
 have hf:H1 s1.heap.objs.size=none:=I1.hok.fresh (Nat.le_refl _)
 refine⟨.ref s1.heap.objs.size,upd H1 s1.heap.objs.size (.lst vs),_,ρ1,I1.laid (t':=s1.toks) (fun b u e=>Heap.get?_push_of_some _ e) (Nat.le_refl _) ?_,rfl,(E1.drop (by simp[hlen])).cons_own hf (oW hlen E1),q _⟩
 exact⟨by rw[hlen];exact z,us,0,r,Heap.get?_push_size _ rfl⟩
abbrev FS:=List L→(L→List L→Prop)→Prop
def spF(K:PySem.W.Frag)(n:Nat)(fs:FS):Sp:=fun vs H Q _=>vs.length=n∧∃Pr ls post,REnv K Pr H (vs.map some) ls∧fs ls post∧∀v H' r ls',REnv K Pr H' (some v::vs.map some) (r::ls')→post r ls'→Q v H'
theorem REnv.swap{K:PySem.W.Frag}{Pr H:Hp}{σ τ:St}{ρ lam:Ev}(hl:τ.length=lam.length)(E:REnv K Pr H (τ++σ) (lam++ρ)):REnv K Pr H (σ++τ) (ρ++lam):=by
 have pm:(owns (lam++ρ)).Perm (owns (ρ++lam)):=lE List.perm_append_comm
 obtain⟨s1,s2⟩:=Paired.unapp hl E.sl
 exact⟨E.sub,pm.nodup_iff.mp E.nd,fun a h=>E.off a (pm.mem_iff.mpr h),Paired.app s2 s1⟩
theorem Fq{K:PySem.W.Frag}{Pr H H':Hp}{σ τ:St}{ρ ls ls':Ev}{v:Option V}{r:L}(hl:τ.length=ls.length)(E:REnv K Pr H (τ++σ) (ls++ρ))(E':REnv K (bp H ls) H' (v::τ) (r::ls')):REnv K Pr H' (v::(τ++σ)) (r::(ls'++ρ)):=by
 have hρ:σ.length=ρ.length:=(E.drop hl).len
 have z:=REnv.step (τ:=σ) (σ:=τ) (lam:=ρ) (ρ:=ls) (w:=[v]) (μ:=[r]) (E.swap hl) hρ E' rfl
 have hl':τ.length=ls'.length:=by have:=E'.len;simpa using this
 obtain⟨s1,s2⟩:=Paired.unapp (a:=[v]) (b:=[r]) rfl z.sl
 obtain⟨s2,s3⟩:=Paired.unapp hρ s2
 have pm:(owns ([r]++(ρ++ls'))).Perm (owns (r::(ls'++ρ))):=lE (List.Perm.cons r (List.perm_append_comm (l₁:=ρ) (l₂:=ls')))
 exact⟨z.sub,pm.nodup_iff.mp z.nd,fun a h=>z.off a (pm.mem_iff.mpr h),Paired.app s1 (Paired.app s3 s2)⟩
def aD(fs:FS)(t:W (List L)):W L:=fun ρ post=>t ρ fun ls ρ1=>fs ls fun r _=>post r ρ1
def a5(fs:FS)(k i:Nat)(t:W (List L)):W L:=fun ρ post=>t ρ fun ls ρ1=>match ρ1[i]? with
 |some (.own a xs)=>fs (ls.set k (.own a xs)) fun r ls'=>∃ys,ls'[k]?=some (.own a ys)∧post r (ρ1.set i (.own a ys))
 |_=>False
section
variable{CX:CXT}{k n:Nat}{f:Addr}{fd:FuncData}{ps:List Str}{fs:FS}{E:XK}{x:Str}{p:Pos}{bs:List (Option Nat)}{t:W (List L)}
theorem REnv.drop1{K:PySem.W.Frag}{Pr H:Hp}{σ τ:St}{ρ lam:Ev}{v:Option V}{r:L}(hl:τ.length=lam.length)(E:REnv K Pr H (v::(τ++σ)) (r::(lam++ρ))):REnv K Pr H (v::σ) (r::ρ):=by
 obtain⟨s1,s2⟩:=Paired.unapp (a:=[v]) (b:=[r]) rfl E.sl
 obtain⟨s2,s3⟩:=Paired.unapp hl s2
 have sb:(owns (r::ρ)).Sublist (owns (r::(lam++ρ))):=Dy (List.Sublist.cons_cons r (List.sublist_append_right _ _))
 exact⟨E.sub,E.nd.sublist sb,fun a h=>E.off a (sb.subset h),Paired.app s1 s3⟩
theorem Ga(F:FnOk X.prog X.w X.K X.mg X.base CX k f fd ps (spF X.K n fs))(hr:Room k X.A)(hg:Gl X x)(hm:X.mg x=some (.ref f))(hk:PySem.W.keepIn X.K (.ref f)=true)(hb:wJ X.K fd ps [])(hx:yF CX X E)
  (ha:PAL X (e::es) bs t) (hn:bs.length=n) (hdb:(x == ("__debug__" : Str))=false:=by decide) (he:starEach (e::es) X.env=(false,eval e X.env)::starEach es X.env:=by rfl) (hpl:(backTo pos (starEach es X.env)).any (·.1)=false:=by rfl) :
  PL X (.Call (.Name x p) (e::es) [] pos) (aD fs t):=by
 intro pins s σ H Pr ρ post I E0 h
 refine wpAny_Call_Name_kw (wH I hg hm ?_ hdb)
 refine PySem.W.callWith_K (h₀:=X.base) I.ok.mod.kin hk (thn (ha pos pins s σ H Pr ρ _ I E0 h) fun us s1 ⟨vs,H1,ls,ρ1,I1,r,hl,hbl,E1,hv,q⟩=>⟨I1.kIn,?_⟩) he hpl
 have hl':(vs.map some).length=ls.length:=by simp[hl]
 refine thn (Fm (Q:=fun v H'=>∃r ρ',REnv X.K Pr H' (some v::σ) (r::ρ')∧post r ρ') F hr hb .nil hx I1 r ?_) fun u s2 ⟨v,H2,I2,rv,r,ρ',E2,p⟩=>⟨v,H2,r,ρ',I2,rv,E2,p⟩
 rw[List.append_nil]
 refine⟨hbl.trans hn,bp H1 ls,ls,_,(E1.left hl').wide,q,fun v H' r ls' E2 p=>⟨r,ρ1,?_,p⟩⟩
 have z:=Fq hl' E1 E2
 have hl2:(vs.map some).length=ls'.length:=by have:=E2.len;simpa using this
 exact z.drop1 hl2
theorem Dz(F:FnOk X.prog X.w X.K X.mg X.base CX k f fd ps (spF X.K n fs))(hr:Room k X.A)(hg:Gl X x)(hm:X.mg x=some (.ref f))(hk:PySem.W.keepIn X.K (.ref f)=true)(hb:wJ X.K fd ps [])(hx:yF CX X E)
  (j i:Nat) (ha:PAL X (e::es) bs t) (hj:bs[j]?=some (some i)) (hn:bs.length=n) (hdb:(x == ("__debug__" : Str))=false:=by decide) (he:starEach (e::es) X.env=(false,eval e X.env)::starEach es X.env:=by rfl) (hpl:(backTo pos (starEach es X.env)).any (·.1)=false:=by rfl) :
  PL X (.Call (.Name x p) (e::es) [] pos) (a5 fs j i t):=by
 intro pins s σ H Pr ρ post I E0 h
 refine wpAny_Call_Name_kw (wH I hg hm ?_ hdb)
 refine PySem.W.callWith_K (h₀:=X.base) I.ok.mod.kin hk (thn (ha pos pins s σ H Pr ρ _ I E0 h) fun us s1 ⟨vs,H1,ls,ρ1,I1,r,hl,hbl,E1,hv,q⟩=>⟨I1.kIn,?_⟩) he hpl
 have hl':(vs.map some).length=ls.length:=by simp[hl]
 refine thn (Fm (Q:=fun v H'=>∃r ρ',REnv X.K Pr H' (some v::σ) (r::ρ')∧post r ρ') F hr hb .nil hx I1 r ?_) fun u s2 ⟨v,H2,I2,rv,r,ρ',E2,p⟩=>⟨v,H2,r,ρ',I2,rv,E2,p⟩
 rw[List.append_nil]
 dsimp only at q
 cases qi:ρ1[i]? with
 |none=>rw[qi]at q;exact q.elim
 | some l =>
  rw[qi]at q
  cases l with
  |un=>exact q.elim
  |d y=>exact q.elim
  |bx _ _=>exact q.elim
  |dic _ _=>exact q.elim
  | own a xs =>
   obtain⟨hun,w,hw,hσ⟩:=hv j i hj
   obtain⟨sv,hs2,rfl,_⟩:=(E1.drop hl').slot qi
   rw[hσ]at hs2
   cases hs2
   have hjl:j<ls.length:=(List.getElem?_eq_some_iff.mp hun).1
   have hjv:j<vs.length:=by omega
   have hil:i<ρ1.length:=(List.getElem?_eq_some_iff.mp qi).1
   have E2:=E1.out (i:=ls.length+i) (a:=a) (xs:=xs) (by rw[List.getElem?_append_right (by omega)];simpa using qi)
   rw[List.set_append_right _ _ (by omega),Nat.add_sub_cancel_left]at E2
   have E3:=E2.back (i:=j) (by rw[List.getElem?_append_left hjl];exact hun) (by rw[List.getElem?_append_left (by simp;omega)];simp[hw])
   rw[List.set_append_left _ _ hjl]at E3
   have hl3:(vs.map some).length=(ls.set j (.own a xs)).length:=by simp[hl]
   refine⟨hbl.trans hn,bp H1 (ls.set j (.own a xs)),_,_,(E3.left hl3).wide,q,fun v H' r ls' E4 p=>?_⟩
   obtain⟨ys,hys,p⟩:=p
   refine⟨r,ρ1.set i (.own a ys),?_,p⟩
   have z:=Fq hl3 E3 E4
   have hl4:(vs.map some).length=ls'.length:=by have:=E4.len;simpa using this
   have hjl':j<ls'.length:=by simp at hl4;omega
   have z1:=z.out (i:=1+j) (a:=a) (xs:=ys) (by rw[Nat.add_comm];simp only[List.getElem?_cons_succ];rw[List.getElem?_append_left hjl'];exact hys)
   rw[Nat.add_comm 1 j,List.set_cons_succ,List.set_append_left _ _ hjl']at z1
   have z2:=z1.back (i:=(1+ls'.length)+i) (by
    rw[Nat.add_comm 1,Nat.add_right_comm,List.getElem?_cons_succ,List.getElem?_append_right (by simp)]
    simp[hil]) (by
    rw[Nat.add_comm 1,Nat.add_right_comm,List.getElem?_cons_succ,List.getElem?_append_right (by simp at hl4 ⊢;omega)]
    simp at hl4 ⊢
    rw[← hl4,Nat.add_sub_cancel_left]
    exact hσ)
   rw[Nat.add_comm 1,Nat.add_right_comm,List.set_cons_succ,List.set_append_right _ _ (by simp)]at z2
   simp only[List.length_set,Nat.add_sub_cancel_left,List.set_set]at z2
   exact z2.drop1 (by simp at hl4 ⊢;exact hl4)
end
end
def Back(ρ:Ev):List L→List L→Prop:=Paired fun l l'=>match l with
 |.own a _=>(∃ys,l'=.own a ys∧L.own a ys∈ρ)∨l'=.un
 |.bx _ _=>l'=.un
 |.dic _ _=>l'=.un
 |l=>l'=l
def aM(ls:List L)(post:L→List L→Prop):Fl→Ev→Prop:=fun f ρ=>match f with
 |.rt r=>∃ls',Back ρ ls ls'∧post r ls'
 |.nx=>∃ls',Back ρ ls ls'∧post (.d .non) ls'
 |_=>False
theorem Back.owns{ρ:Ev}:∀{ls ls':List L},Back ρ ls ls'→(owns ls').Sublist (owns ls)
 |_,_,.nil=>.refl _
 | l::ls,l'::ls',.cons h t=>by
  have ih:=Back.owns t
  rw[aI,aI]
  cases l with
  | own a xs =>
   rcases h with⟨ys,rfl,_⟩|rfl
   ·
    exact(List.Sublist.refl _).append ih
   ·
    exact ih.trans (List.sublist_append_right _ _)
  |un=>have e:l'=.un:=h;subst e;exact(List.Sublist.refl _).append ih
  |d x=>have e:l'=.d x:=h;subst e;exact(List.Sublist.refl _).append ih
  |bx k ms=>have e:l'=.un:=h;subst e;exact ih.trans (List.sublist_append_right _ _)
  |dic k ms=>have e:l'=.un:=h;subst e;exact ih.trans (List.sublist_append_right _ _)
theorem Back.sub{ρ:Ev}:∀{ls ls':List L},Back ρ ls ls'→∀a∈L2.owns ls',a∈L2.owns ρ
 |_,_,.nil=>fun a ha=>by simp[L2.owns]at ha
 | l::ls,l'::ls',.cons h t=>fun a ha=>by
  have ih:=Back.sub t
  rw[aI]at ha
  rcases List.mem_append.mp ha with z|z
  ·
   cases l with
   | own b xs =>
    rcases h with⟨ys,rfl,hm⟩|rfl
    ·
     have e:a=b:=by simpa[bH]using z
     subst e
     exact FY hm
    ·
     simp[bH]at z
   |un=>have e:l'=.un:=h;subst e;simp[bH]at z
   |d x=>have e:l'=.d x:=h;subst e;simp[bH]at z
   |bx k ms=>have e:l'=.un:=h;subst e;simp[bH]at z
   |dic k ms=>have e:l'=.un:=h;subst e;simp[bH]at z
  ·
   exact ih a z
theorem yL{K:PySem.W.Frag}{Pr H H':Hp}{σ τ:St}{ls ls' ρ:Ev}{v:Option V}{r:L}(E:REnv K Pr H σ ls)(E':REnv K (bp H ls) H' (v::τ) (r::ρ))(B:Back ρ ls ls'):REnv K Pr H' (v::σ) (r::ls'):=by
 have E1:=E.narrow E'
 have p:Pres H H':=se E E'.sub
 have sub:=B.sub
 have nd1:(owns ls').Nodup:=E.nd.sublist B.owns
 refine⟨E1.sub,?_,fun a ha=>?_,?_⟩
 ·
  have nd:=E'.nd
  rw[aI]at nd ⊢
  obtain⟨n1,n2,n3⟩:=List.nodup_append.mp nd
  exact List.nodup_append.mpr ⟨n1,nd1,fun a ha b hb=>n3 a ha b (sub b hb)⟩
 ·
  rw[aI]at ha
  refine E1.off a ?_
  rw[aI]
  rcases List.mem_append.mp ha with z|z
  ·
   exact List.mem_append_left _ z
  ·
   exact List.mem_append_right _ (sub a z)
 ·
  have s1:=E'.sl
  cases s1 with
  | cons q t =>
   refine .cons q ?_
   have sl:=E.sl
   clear E E' E1 nd1 sub
   induction B generalizing σ with
   |nil=>cases sl;exact .nil
   | cons h u ih =>
    rename_i l l' _ _
    cases sl with
    | cons s0 s2 =>
     refine .cons ?_ (ih s2)
     cases l with
     | own a xs =>
      rcases h with⟨ys,rfl,hm⟩|rfl
      ·
       obtain⟨e,_⟩:=s0
       obtain⟨_,_,_,z⟩:=Paired.mem2 t hm
       exact⟨e,z⟩
      ·
       unfold bI;exact True.intro
     |un=>have e:l'=.un:=h;subst e;unfold bI;exact True.intro
     |bx k ms=>have e:l'=.un:=h;subst e;unfold bI;exact True.intro
     |dic k ms=>have e:l'=.un:=h;subst e;unfold bI;exact True.intro
     | d x =>
      have e:l'=.d x:=h
      subst e
      obtain⟨w,e,r⟩:=s0
      exact⟨w,e,r.pres p⟩
section
variable{P:Program}{w:World}{K:PySem.W.Frag}{mg:Str→Option Value}{base:Heap}
theorem REnv.uns{K:PySem.W.Frag}{Pr H:Hp}{σ:St}{ρ:Ev}(E:REnv K Pr H σ ρ):∀n,REnv K Pr H (σ++List.replicate n none) (ρ++List.replicate n .un):=fun n=>by
 have e:owns (ρ++List.replicate n .un)=owns ρ:=by
  rw[aE]
  have:owns (List.replicate n L.un)=[]:=by
   induction n with
   |zero=>rfl
   |succ n ih=>rw[List.replicate_succ,nI];exact ih
  rw[this,List.append_nil]
 refine⟨E.sub,by rw[e];exact E.nd,fun a h=>E.off a (by rw[e]at h;exact h),Paired.app E.sl ?_⟩
 induction n with
 |zero=>exact .nil
 | succ n ih =>
  rw[List.replicate_succ,List.replicate_succ]
  refine .cons True.intro (ih ?_)
  have:owns (List.replicate n L.un)=[]:=by
   clear ih e
   induction n with
   |zero=>rfl
   |succ n ih=>rw[List.replicate_succ,nI];exact ih
  rw[aE,this,List.append_nil]
theorem aU{x qual:Str}{st:Stmt}{f:Addr}{fd:FuncData}{N ps:List Str}{k:Nat}{fs:FS}(F:Fun K x qual st f fd)(S:av N ps (ao st))(t:W Fl)
  (hbody:∀(cdv:Value)(A:Around)(outer:List Env)(s:Shared)(H:Hp)(E:XK),Room k (A.deeper (envOfC qual (ao st) s.heap.objs.size f cdv))→PMs (cxOf CX0 P w K mg base N qual (ao st) f cdv A outer s H E).nox (ix st) t)
  (h:∀ls post,ls.length=ps.length→fs ls post→t (ls++List.replicate (N.length-ps.length) .un) (aM ls post)):FnOk P w K mg base CX0 (k+1) f fd ps (spF K ps.length fs):=by
 refine F.ok S (fun vs H Q E q=>q.1) (fun cdv A outer s H vs Q E hr q=>?_)
 obtain⟨hl,Pr,ls,post,E0,hf,q⟩:=q
 refine⟨_,(hbody cdv A outer s H E hr).pss,bp H ls,ls++List.replicate (N.length-ps.length) .un,aM ls post,?_,h ls post (by rw[← hl];have:=E0.len;simpa using this.symm) hf,fun σ' H' ρ' E' p=>?_,fun _ _ _ _ p=>p.elim,fun _ _ _ _ p=>p.elim,fun v τ H' r ρ' E' p=>?_⟩
 ·
  unfold rW
  rw[hl]
  exact E0.wide.uns _
 ·
  obtain⟨ls',B,p⟩:=p
  exact q .non H' (.d .non) ls' (yL E0 (E'.cons_d .non) B) p
 ·
  obtain⟨ls',B,p⟩:=p
  exact q v H' r ls' (yL E0 E' B) p
end
theorem aC{ρ:Ev}:Back ρ [] []:=.nil
theorem aj{ρ:Ev}{x:D}{a b:List L}(t:Back ρ a b):Back ρ (.d x::a) (.d x::b):=.cons rfl t
theorem d9{ρ:Ev}{p:Addr}{xs ys:List D}{a b:List L}(h:L.own p ys∈ρ)(t:Back ρ a b):Back ρ (.own p xs::a) (.own p ys::b):=.cons (.inl ⟨ys,rfl,h⟩) t
section
variable{X:Cx}{e a b c tg:Expr}{es:List Expr}{pos:Pos}{tA:W Bool}{t u:W Fl}
def uY(c:W Bool)(b:W Fl):W Fl:=fun ρ post=>∃J:Nat→Ev→Prop,(∃n,J n ρ)∧∀n ρ,J n ρ→c ρ fun t ρ1=>if t=true then b ρ1 fun f ρ2=>(match f with
 |.nx=>∃m,m<n∧J m ρ2
 |.ct=>∃m,m<n∧J m ρ2
 |.bk=>post .nx ρ2
 |.rt r=>post (.rt r) ρ2)else post .nx ρ1
theorem oA{body:List Stmt}(hp:PassesOwn (model X.prog X.w) X.A X.env X.xe)(hc:PB X c tA)(hb:PMs X body t):PM X (.While c body [] pos) (uY tA t):=by
 refine PM.of (Dk hp hc.pt hb.pss) fun σ H Pr ρ post hlen E h=>?_
 obtain⟨J,⟨n0,j0⟩,turn⟩:=h
 refine⟨fun n σ H=>∃ρ,REnv X.K Pr H σ ρ∧J n ρ,⟨n0,ρ,E,j0⟩,fun n σ1 H1 ⟨ρ1,E1,j1⟩=>⟨Pr,ρ1,_,E1,turn n ρ1 j1,fun b H2 ρ2 E2 q=>?_⟩⟩
 cases b with
 |false=>exact⟨ρ2,E2,q⟩
 | true =>
  refine⟨fun σ' H'=>∃ρ' m,REnv X.K Pr H' σ' ρ'∧m<n∧J m ρ',fun σ' H' ⟨ρ',m,E',hm,j⟩=>⟨m,hm,ρ',E',j⟩,Pr,ρ2,_,E2,q,fun σ' H' ρ' E' ⟨m,hm,j⟩=>⟨ρ',m,E',hm,j⟩,fun σ' H' ρ' E' p=>⟨ρ',E',p⟩,fun σ' H' ρ' E' ⟨m,hm,j⟩=>⟨ρ',m,E',hm,j⟩,fun v τ H' r ρ' E' p=>⟨τ,r,ρ',E',p⟩⟩
abbrev Tg:=D→Ev→(Ev→Prop)→Prop
def PT1(X:Cx)(tg:Expr)(g:Tg):Prop:=∃gg:TG,PG X tg gg∧∀v σ H Pr ρ x k,σ.length=X.N.length→REnv X.K Pr H σ ρ→Rep X.K H v x→g x ρ k→gg v σ H fun σ' H'=>H'=H∧σ'.length=X.N.length∧∃ρ',REnv X.K Pr H σ' ρ'∧k ρ'
def aY(i:Nat):Tg:=fun x ρ k=>k (ρ.set i (.d x))
theorem dY{i:Nat}{x:Str}(hN:X.N.Nodup)(hi:X.N[i]?=some x)(hx:Loc X.env.scope x)(hf:X.fn x=true∨X.env.scope.names.lookup x=some .local:=by first|exact .inl rfl|exact .inr rfl|assumption):PT1 X (.Name x pos) (aY i) :=
 ⟨_,rV hN hi hx hf,fun v σ H Pr ρ x k hl E r h=>⟨rfl,by simpa using hl,_,(E.cons_d r).store (by rw[hl];exact(List.getElem?_eq_some_iff.mp hi).1),h⟩⟩
def gu:List Nat→List D→Ev→(Ev→Prop)→Prop
 |[],[],ρ,k=>k ρ
 |i::is,x::xs,ρ,k=>gu is xs (ρ.set i (.d x)) k
 |_,_,_,_=>False
def PTs(X:Cx)(es:List Expr)(is:List Nat):Prop:=∃gg:TGs,PGs X es gg∧es.length=is.length∧∀vs σ H Pr ρ xs k,σ.length=X.N.length→REnv X.K Pr H σ ρ→Reps X.K H vs xs→gu is xs ρ k→gg vs σ H fun σ' H'=>H'=H∧σ'.length=X.N.length∧∃ρ',REnv X.K Pr H σ' ρ'∧k ρ'
theorem gv:PTs X [] []:=⟨_,AL,rfl,fun vs σ H Pr ρ xs k hl E r h=>by
 cases r with
 |nil=>exact⟨rfl,rfl,hl,ρ,E,h⟩
 |cons _ _=>exact h.elim⟩
theorem aW{i:Nat}{is:List Nat}{x:Str}(hN:X.N.Nodup)(hi:X.N[i]?=some x)(hx:Loc X.env.scope x)(hr:PTs X es is)(hf:X.fn x=true∨X.env.scope.names.lookup x=some .local:=by first|exact .inl rfl|exact .inr rfl|assumption)
  (hs:(assignEach (.Name x pos::es) X.env).map (·.2)=assign (.Name x pos) X.env::(assignEach es X.env).map (·.2):=by rfl):PTs X (.Name x pos::es) (i::is):=by
 obtain⟨gg,hg,hlen,q⟩:=hr
 refine⟨_,yD (rV hN hi hx hf) hg hs,by simp[hlen],fun vs σ H Pr ρ xs k hl E r h=>?_⟩
 cases r with
 |nil=>exact h.elim
 | cons r0 t =>
  refine⟨_,_,rfl,?_⟩
  exact q _ _ H Pr _ _ k (by simpa using hl) ((E.cons_d r0).store (by rw[hl];exact(List.getElem?_eq_some_iff.mp hi).1)) t h
def fF(is:List Nat):Tg:=fun x ρ k=>match x with
 |.tup xs=>gu is xs ρ k
 |_=>False
theorem ku:∀{is:List Nat}{xs:List D}{ρ:Ev}{k:Ev→Prop},gu is xs ρ k→xs.length=is.length
 |[],[],_,_,_=>rfl
 |_::is,_::xs,_,_,h=>by simp[ku (is:=is) (xs:=xs) h]
 |[],_::_,_,_,h=>h.elim
 |_::_,[],_,_,h=>h.elim
theorem lF{is:List Nat}{k:Nat}(hc:X.calm=true)(h:PTs X es is)(hn:(assignEach es X.env).length=is.length:=by rfl)(hst:(assignEach es X.env).findIdx? (·.1)=none:=by rfl):PT1 X (.Tuple es k pos) (fF is):=by
 obtain⟨gg,hg,hlen,q⟩:=h
 refine⟨_,Fj hc hg hn hst,fun v σ H Pr ρ x k hl E r h=>?_⟩
 cases r with
 |tup hs rs=>exact⟨_,_,rfl,hs,by rw[rs.length];exact ku h,q _ σ H Pr ρ _ k hl E rs h⟩
 |_=>exact h.elim
def fW(g:Tg)(b:W Fl):List D→W Fl
 |[]=>fun ρ post=>post .nx ρ
 | x::xs=>fun ρ post=>g x ρ fun ρ1=>b ρ1 fun f ρ2=>match f with
  |.nx=>fW g b xs ρ2 post
  |.ct=>fW g b xs ρ2 post
  |.bk=>post .nx ρ2
  |.rt r=>post (.rt r) ρ2
def iz:D→(List D→Prop)→Prop
 |.lst xs,k=>k xs
 |.tup xs,k=>k xs
 |_,_=>False
def Io(H H':Hp):Prop:=H'=H∨∃p o,H p=none∧H'=upd H p o
theorem REnv.grown{K:PySem.W.Frag}{Pr H H':Hp}{σ:St}{ρ:Ev}(E:REnv K Pr H σ ρ)(g:Io H H'):REnv K Pr H' σ ρ:=by
 rcases g with rfl|⟨p,o,h,rfl⟩
 ·
  exact E
 ·
  exact E.new h
def zR(K:PySem.W.Frag)(H:Hp)(J:It)(xs:List D):Prop:=∀H',Pres H H' →
 (∀i x,xs[i]?=some x→J.go i H'∧∀v H2,J.yld i H' v H2→Io H' H2∧Rep K H2 v x)∧J.stop xs.length H'
def EI(X:Cx)(pins:List (Addr×Obj))(σ:St)(tg:Expr)(Pr:Hp)(post:List D→Ev→Prop)(itv:Value)(s2:Shared):Prop :=
 ∃(it:Addr)(fp:List Addr)(tn:Nat→Heap→Prop)(J:It)(H':Hp)(xs:List D)(ρ':Ev),itv=.ref it∧Inv X pins σ H' s2∧Turn X.prog X.w X.K tg J fp it tn∧tn 0 s2.heap∧(∀b∈fp,FpOk X pins H' b)∧REnv X.K Pr H' σ ρ'∧zR X.K H' J xs∧post xs ρ'
def PIL(X:Cx)(tg iter:Expr)(w:W (List D)):Prop :=
 ∀(pins:List (Addr×Obj))(s:Shared)(σ:St)(H Pr:Hp)(ρ:Ev)(post:List D→Ev→Prop),Inv X pins σ H s→REnv X.K Pr H σ ρ→w ρ post →
  wpAny (model X.prog X.w) X.A (eval iter X.env) (fun v s1=>wpAny (model X.prog X.w) X.A (pyIter v) (EI X pins σ tg Pr post) X.xe s1) X.xe s
def wSrc(t:W L):W (List D):=fun ρ post=>t ρ fun r ρ1=>toD r fun x=>iz x fun xs=>post xs ρ1
theorem zS{K:PySem.W.Frag}{H:Hp}{a:Addr}{vs:List V}{xs:List D}(h:SqZ K H a vs)(r:Reps K H vs xs):zR K H (Itl K a) xs:=fun H' p=>by
 have h':=(h.pres p).l
 refine⟨fun i x e=>?_,⟨vs,h',by rw[r.length];exact Nat.le_refl _⟩⟩
 obtain⟨v,ev,rv⟩:=r.get e
 refine⟨⟨vs,v,h',ev⟩,fun w H2 ⟨e1,e2⟩=>?_⟩
 have e3:=e2 vs h'
 rw[ev]at e3
 cases e3
 subst e1
 exact⟨.inl rfl,rv.pres p⟩
theorem Bf{K:PySem.W.Frag}{H:Hp}{a:Addr}{vs:List V}{xs:List D}(h:SqT K H a vs)(r:Reps K H vs xs):zR K H (Itt K a) xs:=fun H' p=>by
 have h':=h.pres p
 refine⟨fun i x e=>?_,⟨vs,h',by rw[r.length];exact Nat.le_refl _⟩⟩
 obtain⟨v,ev,rv⟩:=r.get e
 refine⟨⟨vs,v,h',ev⟩,fun w H2 ⟨e1,e2⟩=>?_⟩
 have e3:=e2 vs h'
 rw[ev]at e3
 cases e3
 subst e1
 exact⟨.inl rfl,rv.pres p⟩
theorem cU{t:W L}(h:PL X e t):PIL X tg e (wSrc t):=by
 intro pins s σ H Pr ρ post I E ht
 refine thn (h pins s σ H Pr ρ _ I E ht) fun u s1 q=>?_
 obtain⟨v,H1,x,ρ1,I1,r1,E1,q2⟩:=EL.frz (post:=fun x ρ1=>iz x fun xs=>post xs ρ1) q
 obtain⟨_,e1,p⟩:=E1.head_d
 cases e1
 cases p with
 | lst hz rs =>
  cases r1
  obtain⟨its,rv,pl,hz'⟩:=I1.list hz.l
  refine wpAny_pyIter_list pl.isList ?_
  refine⟨s1.heap.objs.size,[s1.heap.objs.size],_,_,H1,_,ρ1,rfl,I1.kept (t':=s1.toks) fun b o e=>Heap.get?_push_of_some _ e,AM _ _,⟨_,Heap.get?_push_size _ rfl,rfl,rfl⟩,fun b hb=>?_,E1.tail,zS hz rs,q2⟩
  have e:b=s1.heap.objs.size:=by simpa using hb
  subst e
  exact I1.fpOk (Nat.le_refl _) (I1.hok.fresh (Nat.le_refl _))
 | tup hz rs =>
  cases r1
  obtain⟨its,rv,pl,hz'⟩:=I1.tuple hz
  refine wpAny_pyIter_tuple (show s1.heap.IsTuple _ its.toArray from pl) ?_
  refine⟨s1.heap.objs.size,[s1.heap.objs.size],_,_,H1,_,ρ1,rfl,I1.kept (t':=s1.toks) fun b o e=>Heap.get?_push_of_some _ e,zG _ _,⟨_,Heap.get?_push_size _ rfl,rfl,rfl⟩,fun b hb=>?_,E1.tail,Bf hz rs,q2⟩
  have e:b=s1.heap.objs.size:=by simpa using hb
  subst e
  exact I1.fpOk (Nat.le_refl _) (I1.hok.fresh (Nat.le_refl _))
 |_=>exact q2.elim
def rngD(lo:Int)(n:Nat):List D:=(List.range n).map fun (i:Nat)=>.int (lo+(i:Int))
theorem uZ{K:PySem.W.Frag}{H:Hp}(lo:Int)(n:Nat):zR K H (Itr lo n) (rngD lo n):=fun H' p=>by
 refine⟨fun i x e=>?_,?_⟩
 ·
  have hi:i<n:=by
   have:=(List.getElem?_eq_some_iff.mp e).1
   simpa[rngD]using this
  refine⟨hi,fun v H2 ⟨e1,e2⟩=>?_⟩
  subst e1 e2
  have:x=.int (lo+(i:Int)):=by
   unfold rngD at e
   rw[List.getElem?_map,List.getElem?_range hi]at e
   simpa using e.symm
  subst this
  exact⟨.inl rfl,.int _⟩
 ·
  show n≤(rngD lo n).length
  simp[rngD]
def oe:L→(Int→Prop)→Prop
 |.d (.int i),k=>k i
 |_,_=>False
theorem ee{r:L}{k:Int→Prop}(h:oe r k):∃i,r=.d (.int i)∧k i:=by
 cases r with
 | d x=>cases x with
  |int i=>exact⟨i,rfl,h⟩
  |_=>exact h.elim
 |_=>exact h.elim
def Bg(j:Int):Prop:=-(2^62)≤j∧j<2^62
def lG(t:W L):W (List D):=fun ρ post=>t ρ fun r ρ1=>oe r fun j=>Bg j∧post (rngD 0 j.toNat) ρ1
def Bh(t u:W L):W (List D):=fun ρ post=>t ρ fun r ρ1=>oe r fun i=>u ρ1 fun r ρ2=>oe r fun j=>Bg i∧Bg j∧post (rngD i (j-i).toNat) ρ2
theorem cB{t:W L}{p pos:Pos} (hg:Gl X "range") (hm:X.mg "range"=none) (ha:PL X a t) (hs:starEach [a] X.env=[(false,eval a X.env)]:=by rfl):PIL X tg (.Call (.Name "range" p) [a] [] pos) (lG t):=by
 intro pins s σ H Pr ρ post I E h
 refine thn (AN (tg:=tg) hg hm (eG ha.pe nG hs) hs pins s σ H (fun J H1=>∃ρ1 n,J=Itr 0 n∧REnv X.K Pr H1 σ ρ1∧post (rngD 0 n) ρ1) I ?_) fun v s1 q=>thn q fun itv s2 ⟨it,fp,tn,J,H',e,I',T,t0,hf,ρ1,n,eJ,E1,q⟩=>?_
 ·
  refine⟨Pr,ρ,_,E,h,fun v H' r ρ' E' p=>?_⟩
  obtain⟨j,rfl,hj,p⟩:=ee p
  obtain⟨_,e1,p1⟩:=E'.head_d
  cases e1
  cases p1
  exact⟨j,rfl,hj.1,hj.2,ρ',_,rfl,E'.tail,p⟩
 ·
  subst eJ
  exact⟨it,fp,tn,_,H',_,ρ1,e,I',T,t0,hf,E1,uZ 0 n,q⟩
theorem sf{t u:W L}{p pos:Pos} (hg:Gl X "range") (hm:X.mg "range"=none) (ha:PL X a t) (hb:PL X b u) (hs:starEach [a,b] X.env=[(false,eval a X.env),(false,eval b X.env)]:=by rfl) (hs2:starEach [b] X.env=[(false,eval b X.env)]:=by rfl):PIL X tg (.Call (.Name "range" p) [a,b] [] pos) (Bh t u):=by
 intro pins s σ H Pr ρ post I E h
 refine thn (AO (tg:=tg) hg hm (eG ha.pe (eG hb.pe nG hs2) (hs.trans (by rw[hs2]))) hs hs2 pins s σ H (fun J H1=>∃ρ1 lo n,J=Itr lo n∧REnv X.K Pr H1 σ ρ1∧post (rngD lo n) ρ1) I ?_) fun v s1 q=>thn q fun itv s2 ⟨it,fp,tn,J,H',e,I',T,t0,hf,ρ1,lo,n,eJ,E1,q⟩=>?_
 ·
  refine⟨Pr,ρ,_,E,h,fun v H' r ρ' E' p=>?_⟩
  obtain⟨i,rfl,p⟩:=ee p
  obtain⟨_,e1,p1⟩:=E'.head_d
  cases e1
  cases p1
  refine⟨Pr,ρ',_,E'.tail,p,fun v H2 r ρ2 E2 p=>?_⟩
  obtain⟨j,rfl,hi,hj,p⟩:=ee p
  obtain⟨_,e1,p1⟩:=E2.head_d
  cases e1
  cases p1
  exact⟨i,j,rfl,⟨hi.1,hi.2,hj.1,hj.2⟩,ρ2,_,_,rfl,E2.tail,p⟩
 ·
  subst eJ
  exact⟨it,fp,tn,_,H',_,ρ1,e,I',T,t0,hf,E1,uZ lo n,q⟩
def wFor(s:W (List D))(g:Tg)(b:W Fl):W Fl:=fun ρ post=>s ρ fun xs ρ1=>fW g b xs ρ1 post
theorem du{iter:Expr}{body:List Stmt}{w:W (List D)}{g:Tg}(hp:PassesOwn (model X.prog X.w) X.A X.env X.xe)(hc:X.calm=true)(hi:PIL X tg iter w)(hg:PT1 X tg g)(hb:PMs X body t)
  (hs:∀x,foldedSetIterable iter X.env x=pure x:=by intro _;rfl):PM X (.For tg iter body [] pos) (wFor w g t):=by
 intro pins s σ H Pr ρ post I E h
 obtain⟨gg,hg,hgg⟩:=hg
 refine wpAny_For (thn (hi pins s σ H Pr ρ _ I E h) fun v s1 h1=>thn h1 fun itv s2 h2=>?_) hs
 obtain⟨it,fp,tn,J,H2,xs,ρ2,e,I2,T,st2,f2,E2,G,w0⟩:=h2
 subst e
 have stat:∀{H':Hp},(∀b∈fp,H' b=none)→∀b∈fp,FpOk X pins H' b:=fun hn b hb=>⟨hn b hb,(f2 b hb).2⟩
 refine codeAny_forLoop_any (fun n s'=>∃i σ' H' ρ',n+i=xs.length∧Inv X pins σ' H' s'∧tn i s'.heap∧(∀b∈fp,H' b=none)∧REnv X.K (bp H2 ρ2) H' σ' ρ'∧fW g t (xs.drop i) ρ' post) ?_ xs.length ⟨0,σ,H2,ρ2,by omega,I2,st2,fun b hb=>(f2 b hb).1,E2.wide,by simpa using w0⟩
 rintro n s3 ⟨i,σ3,H3,ρ3,hn,I3,st3,fr3,E3,w3⟩
 obtain⟨go,stop⟩:=G H3 (se E2 E3.sub)
 by_cases hlt:i<xs.length
 ·
  obtain⟨hgo,hy⟩:=go i xs[i] (List.getElem?_eq_getElem hlt)
  rw[List.drop_eq_getElem_cons hlt]at w3
  refine wpAny_passesOwn hp (thn (T.item X rfl rfl rfl hc i pins s3 σ3 H3 X.xe I3 (stat fr3) st3 hgo) fun r s4 ⟨u,hr,h4⟩=>?_)
  subst hr
  refine wpAny_passesOwn hp (thn h4 fun _ s5 ⟨x,H5,I5,r5,y5,st5,fr5⟩=>?_)
  obtain⟨gr,rx⟩:=hy x H5 y5
  have I5':=I5.pinned (stat fr5) (T.obj _ _ st5)
  have E5:=E3.grown gr
  refine wpAny_passesOwn hp (thn (hg _ s5 σ3 H5 x u _ I5' r5 (hgg x σ3 H5 _ ρ3 xs[i] _ I5.len E5 rx w3)) fun _ s6 ⟨σ6,H6,I6,e6,hl6,ρ6,E6,q6⟩=>?_)
  subst e6
  refine wpAny_passesOwn hp (thn (hb _ s6 σ6 _ _ ρ6 _ I6 E6 q6) fun f s7 q7=>?_)
  have again:∀{σ7:St}{H7:Hp}{ρ7:Ev},Inv X (pins++uK fp s5.heap) σ7 H7 s7→REnv X.K (bp H2 ρ2) H7 σ7 ρ7→fW g t (xs.drop (i+1)) ρ7 post →
    ∃m,m<n∧∃i σ' H' ρ',m+i=xs.length∧Inv X pins σ' H' s7∧tn i s7.heap∧(∀b∈fp,H' b=none)∧REnv X.K (bp H2 ρ2) H' σ' ρ'∧fW g t (xs.drop i) ρ' post:=fun {σ7 H7 ρ7} I7 E7 n7=>by
   refine⟨n-1,by omega,i+1,σ7,H7,ρ7,by omega,I7.unpinned,T.keep _ _ _ st5 fun b hb o e=>(I7.pin (b,o) (List.mem_append_right _ (List.mem_append_right _ (jz hb e)))).1,fun b hb=>?_,E7,n7⟩
   obtain⟨o,e,d⟩:=T.obj _ _ st5 b hb
   exact(I7.pin (b,o) (List.mem_append_right _ (List.mem_append_right _ (jz hb e)))).2.1
  cases f with
  |next=>obtain⟨σ7,H7,ρ7,I7,E7,n7⟩:=q7;exact again I7 E7 n7
  |cont=>obtain⟨σ7,H7,ρ7,I7,E7,n7⟩:=q7;exact again I7 E7 n7
  |brk=>obtain⟨σ7,H7,ρ7,I7,E7,q7⟩:=q7;exact⟨σ7,H7,ρ7,I7.unpinned,E2.narrow E7,q7⟩
  |ret v=>obtain⟨x7,σ7,H7,r,ρ7,τ,I7,r7,E7,q7⟩:=q7;exact⟨x7,σ7,H7,r,ρ7,τ,I7.unpinned,r7,E2.narrow E7,q7⟩
 ·
  have e:i=xs.length:=by omega
  subst e
  refine wpAny_passesOwn hp (thn (T.done X rfl rfl rfl hc xs.length pins s3 σ3 H3 X.xe I3 (stat fr3) st3 stop) fun r s4 ⟨hr,I4⟩=>?_)
  subst hr
  rw[List.drop_length]at w3
  exact wpAny_execs_nil ⟨σ3,H3,ρ3,I4,E2.narrow E3,w3⟩
end
section
variable{X:Cx}{e a b c:Expr}{pos:Pos}{ta tb:W L}
def bV(i:Int):Prop:=i.natAbs<2^1000000
def bK:Op2:=fun x y k=>match x,y with
 |.int i,.int j=>k (.d (.int (i+j)))
 |.str i,.str j=>i.length+j.length≤sizeLine∧k (.d (.str (i++j)))
 |.lst xs,.lst ys=>xs.length+ys.length≤sizeLine∧∀a,k (.own a (xs++ys))
 |_,_=>False
def fm:Op2:=fun x y k=>match x,y with
 |.int i,.int j=>k (.d (.int (i-j)))
 |_,_=>False
def mL:Op2:=fun x y k=>match x,y with
 |.int i,.int j=>j≠0∧j.natAbs<2^9000∧k (.d (.int (i.fdiv j)))
 |_,_=>False
def dZ:Op2:=fun x y k=>match x,y with
 |.int i,.int j=>j≠0∧k (.d (.int (i.fmod j)))
 |_,_=>False
def zT:Op2:=fun x y k=>match x,y with
 |.int i,.int j=>0≤j∧j≤1000000∧i.natAbs<2^64∧k (.d (.int (i^j.toNat)))
 |_,_=>False
def opLt:Op2:=fun x y k=>match x,y with
 |.int i,.int j=>k (.d (.bl (decide (i<j))))
 |_,_=>False
def opLe:Op2:=fun x y k=>match x,y with
 |.int i,.int j=>k (.d (.bl (decide (i≤j))))
 |_,_=>False
def opGt:Op2:=fun x y k=>match x,y with
 |.int i,.int j=>k (.d (.bl (decide (j<i))))
 |_,_=>False
def opGe:Op2:=fun x y k=>match x,y with
 |.int i,.int j=>k (.d (.bl (decide (j≤i))))
 |_,_=>False
theorem Bi{i j:Int}(h1:bV i)(h2:bV j):IntMulOk i j:=IntMulOk.of_le (PySem.intBits_le_iff.mpr h1) (PySem.intBits_le_iff.mpr h2) (by decide)
theorem Gb:OpR X (binaryOp .Mult) (rI (fun i j=>bV i∧bV j) fun i j=>.int (i*j)):=opI fun _ _ _ _ _ _ _ hc q=>mul_int q (Bi hc.1 hc.2)
theorem Gc:OpR X (binaryOp .FloorDiv) (rI (fun i j=>j≠0∧j.natAbs<2^9000) fun i j=>.int (i.fdiv j)):=opI fun i j _ _ _ _ _ hc q=>floordiv_int hc.1 q (.inl (PyProof.noPylong_of_log2 ((Nat.log2_lt (by have:=hc.1;omega)).mpr hc.2)))
theorem Gd:OpR X (binaryOp .Add) (fun x y H Q=>∃l b xs zs,x=.ref l∧y=.ref b∧SqL X.K H l xs∧SqL X.K H b zs∧xs.length+zs.length≤sizeLine∧∀p,H p=none→Q (.ref p) (upd H p (.lst (xs++zs)))):=by
 intro pins s σ H x y v u Q I rx ry h
 obtain⟨l,b,xs,zs,rfl,rfl,hH,hB,hz,q⟩:=h
 cases rx
 cases ry
 obtain⟨its,r,⟨o,n,e,c,d,f⟩,z⟩:=I.list hH
 obtain⟨its2,r2,⟨o2,n2,e2,c2,d2,f2⟩,z2⟩:=I.list hB
 obtain⟨cl,dd,dt,sl⟩:=o
 obtain⟨cl2,dd2,dt2,sl2⟩:=o2
 simp only at c f c2 f2
 subst c f c2 f2
 have hl:=r.length
 have hl2:=r2.length
 refine concat_meets ⟨_,e,rfl⟩ ⟨_,e2,rfl⟩ noFill_list_add seq_list_add PySem.F.slot_list_add PySem.F.entry_list_add (PySem.F.args_list_add_2 _ _) (list_addW l b its.toArray its2.toArray n n2 dd dd2 sl sl2 (by rw[List.size_toArray,List.size_toArray];omega)) ⟨e,e2,?_⟩
 have ea:its.toArray++its2.toArray=(its++its2).toArray:=by simp
 rw[ea]
 exact⟨.ref _,_,I.lnew (t':=s.toks) (r.append r2) (by rw[List.length_append];omega),rfl,q _ I.fresh⟩
theorem DA{x y:D}{k:L→Prop}(h:bK x y k):(∃i j,x=.int i∧y=.int j∧k (.d (.int (i+j))))∨(∃i j,x=.str i∧y=.str j∧i.length+j.length≤sizeLine∧k (.d (.str (i++j))))∨∃xs ys,x=.lst xs∧y=.lst ys∧xs.length+ys.length≤sizeLine∧∀a,k (.own a (xs++ys)):=by
 unfold bK at h
 split at h
 ·
  exact .inl ⟨_,_,rfl,rfl,h⟩
 ·
  exact .inr (.inl ⟨_,_,rfl,rfl,h⟩)
 ·
  exact .inr (.inr ⟨_,_,rfl,rfl,h⟩)
 ·
  exact h.elim
theorem Ge:OpD X (binaryOp .Add) (fun x y k=>∃i j,x=.int i∧y=.int j∧k (.d (.int (i+j)))):=OpD.of HL fun σ H Pr ρ x y dx dy post E px py ⟨i,j,e1,e2,h⟩=>by subst e1 e2;cases px;cases py;exact⟨i,j,rfl,rfl,_,E.cons_d (.int _),h⟩
theorem Gf:OpD X (binaryOp .Add) (fun x y k=>∃i j,x=.str i∧y=.str j∧i.length+j.length≤sizeLine∧k (.d (.str (i++j)))):=OpD.of zJ fun σ H Pr ρ x y dx dy post E px py ⟨i,j,e1,e2,z,h⟩=>by subst e1 e2;cases px;cases py;exact⟨i,j,rfl,rfl,z,_,E.cons_d (.str _),h⟩
theorem Gg:OpD X (binaryOp .Add) (fun x y k=>∃xs ys,x=.lst xs∧y=.lst ys∧xs.length+ys.length≤sizeLine∧∀a,k (.own a (xs++ys))):=OpD.of Gd fun σ H Pr ρ x y dx dy post E px py ⟨xs,ys,e1,e2,z,h⟩=>by
 subst e1 e2
 cases px with
 | lst h1 r1 =>
  cases py with
  |lst h2 r2=>exact⟨_,_,_,_,rfl,rfl,h1.l,h2.l,by rw[r1.length,r2.length];exact z,fun p hp=>⟨_,E.cons_own hp (r1.append r2),h p⟩⟩
theorem a6:OpD X (binaryOp .Add) bK:=by
 intro pins s σ H Pr ρ x y v u dx dy post I rx ry E px py ho
 rcases DA ho with h|h|h
 ·
  exact Ge pins s σ H Pr ρ x y v u dx dy post I rx ry E px py h
 ·
  exact Gf pins s σ H Pr ρ x y v u dx dy post I rx ry E px py h
 ·
  exact Gg pins s σ H Pr ρ x y v u dx dy post I rx ry E px py h
theorem yM{f:Value→Value→Sem Value}{C:Int→Int→Prop}{g:Int→Int→V}{gd:Int→Int→D}(h:OpR X f (rI C g))(hg:∀K H i j,Rep K H (g i j) (gd i j)) :
  OpD X f (fun x y k=>∃i j,x=.int i∧y=.int j∧C i j∧k (.d (gd i j))) :=
 OpD.of h fun σ H Pr ρ x y dx dy post E px py ⟨i,j,e1,e2,z,h⟩=>by subst e1 e2;cases px;cases py;exact⟨i,j,rfl,rfl,z,_,E.cons_d (hg _ _ _ _),h⟩
theorem oX{f:Value→Value→Sem Value}{g:Int→Int→V}{gd:Int→Int→D}(h:OpR X f (rI0 g))(hg:∀K H i j,Rep K H (g i j) (gd i j)) :
  OpD X f (fun x y k=>∃i j,x=.int i∧y=.int j∧k (.d (gd i j))) :=
 OpD.of h fun σ H Pr ρ x y dx dy post E px py ⟨i,j,e1,e2,h⟩=>by subst e1 e2;cases px;cases py;exact⟨i,j,rfl,rfl,_,E.cons_d (hg _ _ _ _),h⟩
theorem cV:OpD X (binaryOp .Sub) fm:=(oX HM (gd:=fun i j=>.int (i-j)) fun _ _ _ _=>.int _).imp fun x y k h=>by
 unfold fm at h
 split at h
 ·
  exact⟨_,_,rfl,rfl,h⟩
 ·
  exact h.elim
theorem Ip:OpD X (binaryOp .Mult) (fun x y k=>∃i j,x=.int i∧y=.int j∧(bV i∧bV j)∧k (.d (.int (i*j)))):=yM Gb (gd:=fun i j=>.int (i*j)) fun _ _ _ _=>.int _
def aZ:Op2:=fun x y k=>match x,y with
 |.int i,.int j=>bV i∧bV j∧k (.d (.int (i*j)))
 |_,_=>False
theorem aR:OpD X (binaryOp .Mult) aZ:=Ip.imp fun x y k h=>by
 unfold aZ at h
 split at h
 ·
  exact⟨_,_,rfl,rfl,⟨h.1,h.2.1⟩,h.2.2⟩
 ·
  exact h.elim
theorem jY:OpD X (binaryOp .FloorDiv) mL:=(yM Gc (gd:=fun i j=>.int (i.fdiv j)) fun _ _ _ _=>.int _).imp fun x y k h=>by
 unfold mL at h
 split at h
 ·
  exact⟨_,_,rfl,rfl,⟨h.1,h.2.1⟩,h.2.2⟩
 ·
  exact h.elim
theorem cq:OpD X (binaryOp .Mod) dZ:=(yM FM (gd:=fun i j=>.int (i.fmod j)) fun _ _ _ _=>.int _).imp fun x y k h=>by
 unfold dZ at h
 split at h
 ·
  exact⟨_,_,rfl,rfl,h.1,h.2⟩
 ·
  exact h.elim
theorem Bj:OpD X (binaryOp .Pow) zT:=(yM HN (gd:=fun i j=>.int (i^j.toNat)) fun _ _ _ _=>.int _).imp fun x y k h=>by
 unfold zT at h
 split at h
 ·
  exact⟨_,_,rfl,rfl,⟨h.1,h.2.1,h.2.2.1⟩,h.2.2.2⟩
 ·
  exact h.elim
theorem si:OpD X (compareOp .Lt) opLt:=(oX HQ (gd:=fun i j=>.bl (decide (i<j))) fun _ _ _ _=>.bl _).imp fun x y k h=>by
 unfold opLt at h
 split at h
 ·
  exact⟨_,_,rfl,rfl,h⟩
 ·
  exact h.elim
theorem Gh:OpD X (compareOp .LtE) opLe:=(oX HR (gd:=fun i j=>.bl (decide (i≤j))) fun _ _ _ _=>.bl _).imp fun x y k h=>by
 unfold opLe at h
 split at h
 ·
  exact⟨_,_,rfl,rfl,h⟩
 ·
  exact h.elim
theorem DB:OpD X (compareOp .Gt) opGt:=(oX JE (gd:=fun i j=>.bl (decide (j<i))) fun _ _ _ _=>.bl _).imp fun x y k h=>by
 unfold opGt at h
 split at h
 ·
  exact⟨_,_,rfl,rfl,h⟩
 ·
  exact h.elim
theorem Gi:OpD X (compareOp .GtE) opGe:=(oX JF (gd:=fun i j=>.bl (decide (j≤i))) fun _ _ _ _=>.bl _).imp fun x y k h=>by
 unfold opGe at h
 split at h
 ·
  exact⟨_,_,rfl,rfl,h⟩
 ·
  exact h.elim
mutual
def toP:D→PyData
 |.non=>.none
 |.bl b=>.bool b
 |.int i=>.int i
 |.str x=>.str x
 |.tup xs=>.tuple (toPs xs)
 |.lst xs=>.list (toPs xs)
 |.dct _=>.dict []
 |.exc _ _ _=>.dict []
 |.fn _ _=>.dict []
def toPs:List D→List PyData
 |[]=>[]
 |x::xs=>toP x::toPs xs
end
def eqD(x y:D):Bool:=PyData.eqv (toP x) (toP y)
def eH(x:D):Prop:=SeqAt.shaped (toP x)=true
def opEq:Op2:=fun x y k=>eH x∧eH y∧k (.d (.bl (eqD x y)))
def opNe:Op2:=fun x y k=>eH x∧eH y∧k (.d (.bl (!eqD x y)))
mutual
theorem lH{pins:List (Addr×Obj)}{σ:St}{H:Hp}{s:Shared}(I:Inv X pins σ H s):∀(d:D)(x:V)(u:Value),RelV x u→Rep X.K H x d→(toP d).canLay0=true→∃as,Reads s.heap u (toP d) as
 |.non,_,_,rv,r,_=>by cases r;cases rv;exact⟨_,.none⟩
 |.bl b,_,_,rv,r,_=>by cases r;cases rv;exact⟨_,.bool b⟩
 |.int i,_,_,rv,r,_=>by cases r;obtain⟨t,rfl⟩:=rv;exact⟨_,.int i t⟩
 |.str z,_,_,rv,r,_=>by cases r;obtain⟨t,rfl⟩:=rv;exact⟨_,.str z t⟩
 | .tup xs,_,_,rv,r,hc=>by
  cases r with
  | tup h rs =>
   cases rv
   obtain⟨its,vs,⟨o,e,c,n,d⟩,_⟩:=I.tuple h
   obtain⟨as,ra⟩:=kx I xs _ _ vs rs hc
   exact⟨_,.tuple (xs:=toPs xs) e c d (by simpa using ra)⟩
 | .lst xs,_,_,rv,r,hc=>by
  cases r with
  | lst h rs =>
   cases rv
   obtain⟨its,vs,⟨o,n,e,c,_,d⟩,_⟩:=I.list h.l
   obtain⟨as,ra⟩:=kx I xs _ _ vs rs hc
   exact⟨_,.list (xs:=toPs xs) e c d (by simpa using ra)⟩
 |.dct _,_,_,_,_,hc=>nomatch hc
 |.exc _ _ _,_,_,_,_,hc=>nomatch hc
 |.fn _ _,_,_,_,_,hc=>nomatch hc
theorem kx{pins:List (Addr×Obj)}{σ:St}{H:Hp}{s:Shared}(I:Inv X pins σ H s):∀(ds:List D)(vs:List V)(us:List Value),Vals vs us→Reps X.K H vs ds→PyData.canLayAll0 (toPs ds)=true→∃as,ReadsAll s.heap us (toPs ds) as
 |[],_,_,rv,r,_=>by cases r;cases rv;exact⟨_,.nil⟩
 | d::ds,_,_,rv,r,hc=>by
  have hc':(toP d).canLay0=true∧PyData.canLayAll0 (toPs ds)=true:=by simpa[toPs,PyData.canLayAll0]using hc
  cases r with
  | cons r0 rs =>
   cases rv with
   | cons v0 vs =>
    obtain⟨as,ra⟩:=lH I d _ _ v0 r0 hc'.1
    obtain⟨bs,rb⟩:=kx I ds _ _ vs rs hc'.2
    exact⟨_,.cons ra rb⟩
end
theorem cW(hu:X.A.units+64<cLine):OpD X (compareOp .Eq) opEq:=by
 intro pins s σ H Pr ρ x y v u dx dy post I rx ry E px py ⟨h1,h2,ho⟩
 obtain⟨as,ra⟩:=lH I dx x v rx px (SeqAt.canLay_of_shaped h1)
 obtain⟨bs,rb⟩:=lH I dy y u ry py (SeqAt.canLay_of_shaped h2)
 exact eq_dataH ra rb h1 h2 hu ⟨.bl _,H,_,I,rfl,E.cons_d (.bl _),ho⟩
theorem mM(hu:X.A.units+64<cLine):OpD X (compareOp .NotEq) opNe:=by
 intro pins s σ H Pr ρ x y v u dx dy post I rx ry E px py ⟨h1,h2,ho⟩
 obtain⟨as,ra⟩:=lH I dx x v rx px (SeqAt.canLay_of_shaped h1)
 obtain⟨bs,rb⟩:=lH I dy y u ry py (SeqAt.canLay_of_shaped h2)
 exact ne_dataH ra rb h1 h2 hu ⟨.bl _,H,_,I,rfl,E.cons_d (.bl _),ho⟩
theorem Iq:OpD X (compareOp .Is) (fun x y k=>y=.non∧k (.d (.bl (match x with | .non=>true|_=>false)))):=OpD.of HS fun σ H Pr ρ x y dx dy post E px py ⟨e,h⟩=>by
 subst e
 cases py
 refine⟨rfl,_,E.cons_d (.bl _),?_⟩
 cases px<;>exact h
def opIx:Op2:=fun x y k=>match x,y with
 |.lst xs,.int i=>∃v,atI xs i=some v∧k (.d v)
 |.tup xs,.int i=>∃v,atI xs i=some v∧k (.d v)
 |.str z,.int i=>z.length≤sizeLine∧∃c,atI z.cps.toList i=some c∧k (.d (.str ⟨#[c]⟩))
 |_,_=>False
theorem wV{K:PySem.W.Frag}{H:Hp}{vs:List V}{xs:List D}(r:Reps K H vs xs){i:Int}{x:D}(h:atI xs i=some x):∃v,atI vs i=some v∧Rep K H v x:=by
 unfold atI at h ⊢
 rw[r.length]
 cases q:ixN xs.length i with
 |none=>rw[q]at h;cases h
 | some j =>
  rw[q]at h
  exact r.get h
theorem Gj{x y:D}{k:L→Prop}(h:opIx x y k):∃i,y=.int i∧((∃xs,x=.lst xs∧∃v,atI xs i=some v∧k (.d v))∨(∃xs,x=.tup xs∧∃v,atI xs i=some v∧k (.d v))∨∃z,x=.str z∧z.length≤sizeLine∧∃c,atI z.cps.toList i=some c∧k (.d (.str ⟨#[c]⟩))):=by
 unfold opIx at h
 split at h
 ·
  exact⟨_,rfl,.inl ⟨_,rfl,h⟩⟩
 ·
  exact⟨_,rfl,.inr (.inl ⟨_,rfl,h⟩)⟩
 ·
  exact⟨_,rfl,.inr (.inr ⟨_,rfl,h⟩)⟩
 ·
  exact h.elim
theorem aq(ha:PL X a ta)(hb:PL X b tb)(hs:wL b):PL X (.Subscript a b pos) (wBin opIx ta tb):=by
 intro pins s σ H Pr ρ post I E h
 refine Subscript_ (two (R:=fun dx dy ρ2=>opIx dx dy fun r=>post r ρ2) ha hb I E h fun v u s2 x y H2 dx dy ρ2 I2 r1 r2 E2 p1 p2 q=>?_)
 have fin:∀(Q:VK),(∀z H',Q z H'→∃r,REnv X.K Pr H' (some z::σ) (r::ρ2)∧post r ρ2)→∀w s',EP X pins σ Q w s'→EL X pins σ Pr post w s':=fun Q hQ w s' ⟨z,H',I',rz,q⟩=>by
  obtain⟨r,E',p⟩:=hQ z H' q
  exact⟨z,H',r,ρ2,I',rz,E',p⟩
 have Eσ:=E2.tail.tail
 obtain⟨i,rfl,⟨xs,rfl,z,hz',q⟩|⟨xs,rfl,z,hz',q⟩|⟨z,rfl,hz,c,hc,q⟩⟩:=Gj q
 ·
  cases p2
  cases p1 with
  | lst hz rs =>
   obtain⟨w,hw,rw⟩:=wV rs hz'
   exact thn (A2 a b pins s2 σ H2 _ _ v u (fun z H'=>z=w∧H'=H2) I2 r1 r2 ⟨_,_,i,w,rfl,rfl,hz.l,hw,rfl,rfl⟩ (hs _ _)) (fin _ fun z H' ⟨e1,e2⟩=>by subst e1 e2;exact⟨_,Eσ.cons_d rw,q⟩)
 ·
  cases p2
  cases p1 with
  | tup hz rs =>
   obtain⟨w,hw,rw⟩:=wV rs hz'
   exact thn (HX a b pins s2 σ H2 _ _ v u (fun z H'=>z=w∧H'=H2) I2 r1 r2 ⟨_,_,i,w,rfl,rfl,hz,hw,rfl,rfl⟩ (hs _ _)) (fin _ fun z H' ⟨e1,e2⟩=>by subst e1 e2;exact⟨_,Eσ.cons_d rw,q⟩)
 ·
  cases p2
  cases p1
  exact thn (HY a b pins s2 σ H2 _ _ v u (fun z H'=>z=.str ⟨#[c]⟩∧H'=H2) I2 r1 r2 ⟨z,i,c,rfl,rfl,hz,hc,rfl,rfl⟩ (hs _ _)) (fin _ fun z H' ⟨e1,e2⟩=>by subst e1 e2;exact⟨_,Eσ.cons_d (.str _),q⟩)
end
section
variable{X:Cx}{e a b c:Expr}{es:List Expr}{pos p:Pos}{ta:W L}{x:Str}{bs:List (Option Nat)}{t:W (List L)}{id T:String}
abbrev OpN:=List D→(L→Prop)→Prop
def d3(X:Cx)(f:Value)(op:OpN):Prop :=
 ∀(pins:List (Addr×Obj))(s:Shared)(σ:St)(H Pr:Hp)(ρ:Ev)(vs:List V)(us:List Value)(ds:List D)(post:L→Prop),Inv X pins σ H s→Vals vs us→REnv X.K Pr H σ ρ→Reps X.K H vs ds→op ds post →
  wpAny (model X.prog X.w) X.A (call f us) (fun w s'=>∃z H' r,Inv X pins σ H' s'∧RelV z w∧REnv X.K Pr H' (some z::σ) (r::ρ)∧post r) X.xe s
theorem d3.of{f:Value}{r:List V→Hp→VK→Prop}{op:OpN}(h:iu X f r)(q:∀σ H Pr ρ vs ds post,REnv X.K Pr H σ ρ→Reps X.K H vs ds→op ds post→r vs H fun z H'=>∃r,REnv X.K Pr H' (some z::σ) (r::ρ)∧post r):d3 X f op :=
 fun pins s σ H Pr ρ vs us ds post I rv E ps ho=>thn (h pins s σ H vs us _ I rv (q σ H Pr ρ vs ds post E ps ho)) fun w s' ⟨z,H',I',rz,r,E',p⟩=>⟨z,H',r,I',rz,E',p⟩
def aO(op:OpN)(t:W (List L)):W L:=fun ρ post=>t ρ fun ls ρ1=>toDs ls fun ds=>op ds fun r=>post r ρ1
theorem aB(hc:d3 X (.builtin id) op)(hg:Gl X x)(hm:X.mg x=none)(hv:bootBuiltins x=some (.builtin id))(ha:PAL X (e::es) bs t) (hn:x≠"__name__":=by decide) (hdb:(x == ("__debug__" : Str))=false:=by decide)
  (he:starEach (e::es) X.env=(false,eval e X.env)::starEach es X.env:=by rfl) (hpl:(backTo pos (starEach es X.env)).any (·.1)=false:=by rfl):PL X (.Call (.Name x p) (e::es) [] pos) (aO op t):=by
 intro pins s σ H Pr ρ post I E h
 refine wpAny_Call_Name_kw (nF I hg hm hv ?_ hn hdb)
 refine PyProof.Rows.callWith_builtin1 (thn (ha pos pins s σ H Pr ρ _ I E h) fun us s1 ⟨vs,H1,ls,ρ1,I1,r1,hl,hb,E1,_,q1⟩=>?_) he hpl
 obtain⟨ds,rfl,q2⟩:=oV q1
 have hlen:vs.length=ds.length:=by simpa using hl
 exact thn (hc pins s1 σ H1 Pr ρ1 vs us ds _ I1 r1 (E1.drop (by simp[hlen])) (oW hlen E1) q2) fun w s2 ⟨z,H2,r,I2,rz,E2,q⟩=>⟨z,H2,r,ρ1,I2,rz,E2,q⟩
theorem iA(hc:d3 X (.type T) op)(hg:Gl X x)(hm:X.mg x=none)(hv:bootBuiltins x=some (.type T))(ha:PAL X (e::es) bs t) (hn:x≠"__name__":=by decide) (hdb:(x == ("__debug__" : Str))=false:=by decide)
  (he:starEach (e::es) X.env=(false,eval e X.env)::starEach es X.env:=by rfl) (hpl:(backTo pos (starEach es X.env)).any (·.1)=false:=by rfl):PL X (.Call (.Name x p) (e::es) [] pos) (aO op t):=by
 intro pins s σ H Pr ρ post I E h
 refine wpAny_Call_Name_kw (nF I hg hm hv ?_ hn hdb)
 refine PyProof.Rows.callWith_type1 (thn (ha pos pins s σ H Pr ρ _ I E h) fun us s1 ⟨vs,H1,ls,ρ1,I1,r1,hl,hb,E1,_,q1⟩=>?_) he hpl
 obtain⟨ds,rfl,q2⟩:=oV q1
 have hlen:vs.length=ds.length:=by simpa using hl
 exact thn (hc pins s1 σ H1 Pr ρ1 vs us ds _ I1 r1 (E1.drop (by simp[hlen])) (oW hlen E1) q2) fun w s2 ⟨z,H2,r,I2,rz,E2,q⟩=>⟨z,H2,r,ρ1,I2,rz,E2,q⟩
def bL:OpN:=fun ds k=>match ds with
 |[.lst xs]=>k (.d (.int xs.length))
 |[.tup xs]=>k (.d (.int xs.length))
 |[.str x]=>x.length≤sizeLine∧k (.d (.int x.length))
 |_=>False
theorem lI{K:PySem.W.Frag}{H:Hp}{vs:List V}{d:D}(r:Reps K H vs [d]):∃v,vs=[v]∧Rep K H v d:=by
 cases r with
 |cons h t=>cases t;exact⟨_,rfl,h⟩
theorem Ir{K:PySem.W.Frag}{H:Hp}{vs:List V}{d d':D}(r:Reps K H vs [d,d']):∃v w,vs=[v,w]∧Rep K H v d∧Rep K H w d':=by
 cases r with
 | cons h t=>cases t with
  |cons h' t=>cases t;exact⟨_,_,rfl,h,h'⟩
theorem br:d3 X (.builtin "len") bL:=d3.of (nH.or uR) fun σ H Pr ρ vs ds post E ps h=>by
 unfold bL at h
 split at h
 ·
  obtain⟨v,rfl,r⟩:=lI ps
  cases r with
  |lst hz rs=>exact .inl ⟨_,_,rfl,.inl hz.l,_,E.cons_d (.int _),by rw[rs.length];exact h⟩
 ·
  obtain⟨v,rfl,r⟩:=lI ps
  cases r with
  |tup hz rs=>exact .inl ⟨_,_,rfl,.inr hz,_,E.cons_d (.int _),by rw[rs.length];exact h⟩
 ·
  obtain⟨v,rfl,r⟩:=lI ps
  cases r with
  |str z=>exact .inr ⟨_,rfl,h.1,_,E.cons_d (.int _),h.2⟩
 ·
  exact h.elim
def zU:OpN:=fun ds k=>match ds with
 |[.int i]=>k (.d (.int (if i<0 then -i else i)))
 |_=>False
theorem Bk:d3 X (.builtin "abs") zU:=d3.of Dn fun σ H Pr ρ vs ds post E ps h=>by
 unfold zU at h
 split at h
 ·
  obtain⟨v,rfl,r⟩:=lI ps
  cases r with
  |int i=>exact⟨_,rfl,_,E.cons_d (.int _),h⟩
 ·
  exact h.elim
def DC:OpN:=fun ds k=>match ds with
 |[.int i,.int j]=>k (.d (.int (if j > i then j else i)))
 |_=>False
def zV:OpN:=fun ds k=>match ds with
 |[.int i,.int j]=>k (.d (.int (if j<i then j else i)))
 |_=>False
theorem Iu(hc:X.calm=true):d3 X (.builtin "max") DC:=d3.of (AW hc) fun σ H Pr ρ vs ds post E ps h=>by
 unfold DC at h
 split at h
 ·
  obtain⟨v,w,rfl,r,r'⟩:=Ir ps
  cases r with
  | int i=>cases r' with
   |int j=>exact⟨_,_,rfl,_,E.cons_d (.int _),h⟩
 ·
  exact h.elim
theorem Bl(hc:X.calm=true):d3 X (.builtin "min") zV:=d3.of (AX hc) fun σ H Pr ρ vs ds post E ps h=>by
 unfold zV at h
 split at h
 ·
  obtain⟨v,w,rfl,r,r'⟩:=Ir ps
  cases r with
  | int i=>cases r' with
   |int j=>exact⟨_,_,rfl,_,E.cons_d (.int _),h⟩
 ·
  exact h.elim
def zW:OpN:=fun ds k=>match ds with
 |[.int i]=>k (.d (.int i))
 |[.bl b]=>k (.d (.int (if b then 1 else 0)))
 |_=>False
theorem Bm:d3 X (.type "int") zW:=d3.of AY fun σ H Pr ρ vs ds post E ps h=>by
 unfold zW at h
 split at h
 ·
  obtain⟨v,rfl,r⟩:=lI ps
  cases r with
  |int i=>exact .inl ⟨_,rfl,_,E.cons_d (.int _),h⟩
 ·
  obtain⟨v,rfl,r⟩:=lI ps
  cases r with
  |bl i=>exact .inr ⟨_,rfl,_,E.cons_d (.int _),h⟩
 ·
  exact h.elim
def yN:OpN:=fun ds k=>match ds with
 |[.lst xs]=>∀a,k (.own a xs)
 |[.tup xs]=>∀a,k (.own a xs)
 |_=>False
theorem Gk:d3 X (.type "list") yN:=d3.of uS fun σ H Pr ρ vs ds post E ps h=>by
 unfold yN at h
 split at h
 ·
  obtain⟨v,rfl,r⟩:=lI ps
  cases r with
  |lst hz rs=>exact⟨_,_,rfl,.inl hz.l,fun l hl=>⟨_,E.cons_own hl rs,h l⟩⟩
 ·
  obtain⟨v,rfl,r⟩:=lI ps
  cases r with
  |tup hz rs=>exact⟨_,_,rfl,.inr hz,fun l hl=>⟨_,E.cons_own hl rs,h l⟩⟩
 ·
  exact h.elim
def sj:OpN:=fun ds k=>match ds with
 |[.lst xs]=>k (.d (.tup xs))
 |[.tup xs]=>k (.d (.tup xs))
 |_=>False
theorem DD:d3 X (.type "tuple") sj:=d3.of rZ fun σ H Pr ρ vs ds post E ps h=>by
 unfold sj at h
 split at h
 ·
  obtain⟨v,rfl,r⟩:=lI ps
  cases r with
  |lst hz rs=>exact⟨_,_,rfl,.inl ⟨hz.l,fun l hl=>⟨_,E.cons_tup hl rs,h⟩⟩⟩
 ·
  obtain⟨v,rfl,r⟩:=lI ps
  cases r with
  |tup hz rs=>exact⟨_,_,rfl,.inr ⟨hz,_,E.cons_d (.tup hz rs),h⟩⟩
 ·
  exact h.elim
def tyD:D→Value
 |.non=>.type "NoneType"
 |.bl _=>.type "bool"
 |.int _=>.type "int"
 |.str _=>.type "str"
 |.tup _=>.type "tuple"
 |.lst _=>.type "list"
 |.dct _=>.type "dict"
 |.exc _ _ _=>.none
 |.fn _ _=>.type "function"
def TyD(K:PySem.W.Frag)(d:D)(t:Value):Prop:=match d with
 |.exc c _ _=>∃C,t=.ref C∧oR K c C=true
 |d=>t=tyD d
theorem DE{pins:List (Addr×Obj)}{σ:St}{H:Hp}{s:Shared}{a:Addr}{o:Obj}{u:HO}{C:Addr}{ns:List Str}{vs:List V}(I:Inv X pins σ H s)(h:H a=some (.frz o u))(hc:o.cls=.ref C)(hn:PySem.W.notCls o=true)(hf:XF H o.dict ns vs):∃od,PySem.W.InstAt s.heap a o C od∧∀d,o.dict=some d→∃q,od=some q∧s.heap.get? d=some q:=by
 have e:=(show s.heap.get? a=some o∧_ from I.hok a _ h).1
 rcases hf with⟨_,_,z⟩|⟨d,od,z,h2,_⟩
 ·
  exact⟨none,⟨e,hc,hn,by rw[z];trivial⟩,fun d q=>by rw[z]at q;cases q⟩
 ·
  have e2:=(show s.heap.get? d=some od∧_ from I.hok d _ h2).1
  exact⟨some od,⟨e,hc,hn,by rw[z];exact e2⟩,fun d' q=>by rw[z]at q;cases q;exact⟨od,rfl,e2⟩⟩
theorem DF{pins:List (Addr×Obj)}{σ:St}{H:Hp}{s:Shared}{x:V}{u c:Value}{d:D}{b:Bool}{Q:Value→Shared→Prop}{A:Around}{E:Value→Shared→Prop}(I:Inv X pins σ H s)(rx:RelV x u)(r:Rep X.K H x d)(e:∀t,TyD X.K d t→PySem.W.kitOne X.K t c=some b)(h:∀tk,Q (.bool b) {s with toks:=tk}) :
  wpAny (model X.prog X.w) A (call (.builtin "isinstance") [u,c]) Q E s:=by
 cases r with
 |non=>cases rx;exact PySem.W.kia_one PySem.W.kitx_none I.kIn True.intro (e _ rfl) (fun z=>nomatch z) h
 |bl y=>cases rx;exact PySem.W.kia_one PySem.W.kitx_bool I.kIn True.intro (e _ rfl) (fun z=>nomatch z) h
 |int i=>obtain⟨t,rfl⟩:=rx;exact PySem.W.kia_one PySem.W.kitx_int I.kIn True.intro (e _ rfl) (fun z=>nomatch z) h
 |str y=>obtain⟨t,rfl⟩:=rx;exact PySem.W.kia_one PySem.W.kitx_str I.kIn True.intro (e _ rfl) (fun z=>nomatch z) h
 | lst hz rs =>
  cases rx
  obtain⟨its,_,⟨o,n,e1,c1,_,_⟩,_⟩:=I.list hz.l
  exact PySem.W.kia_one PySem.W.kitx_list I.kIn ⟨o,e1,c1⟩ (e _ rfl) (fun z=>nomatch z) h
 | tup hz rs =>
  cases rx
  obtain⟨its,_,⟨o,e1,c1,_⟩,_⟩:=I.tuple hz
  exact PySem.W.kia_one PySem.W.kitx_tuple I.kIn ⟨o,e1,c1⟩ (e _ rfl) (fun z=>nomatch z) h
 | @dct a o kvs hz =>
  cases rx
  obtain⟨_,_,_,vs,_,o',es,ep,h1,h2,_⟩:=(show fU X.prog X.w H s.heap a (.frz o (.dK kvs))from I.hok a _ hz)
  exact PySem.W.kia_one PySem.W.kitx_dict I.kIn ⟨o',h1,h2.1⟩ (e _ rfl) (fun z=>nomatch z) h
 | @exc a o u cc C ns vs ds h1 hv hc hn hs hq hf rs =>
  cases rx
  obtain⟨od,Ia,_⟩:=DE I h1 hc hn hf
  obtain⟨LL,cd,S⟩:=oS hs
  exact PySem.W.kia_one (Du S) I.kIn ⟨_,_,Ia⟩ (e _ ⟨C,rfl,hs⟩) (fun z=>nomatch z) h
 | fn hl hf hq hc hz hd hv hm r =>
  cases rx
  exact PySem.W.kia_one FW I.kIn ⟨_,(I.hok _ _ hf).1,rfl⟩ (e _ rfl) (fun z=>nomatch z) h
def isTy(T:String):D→Bool
 |.non=>T == "NoneType"
 |.bl _=>T == "bool" ||T == "int"
 |.int _=>T == "int"
 |.str _=>T == "str"
 |.tup _=>T == "tuple"
 |.lst _=>T == "list"
 |.dct _=>T == "dict"
 |.exc _ _ _=>(["ValueError","Exception","BaseException","object"]:List String).contains T
 |.fn _ _=>T == "function"
def ky(T:String):D→(L→Prop)→Prop:=fun d k=>k (.d (.bl (isTy T d)))
theorem ik{T:String}{y:Str}{py:Pos}(hT:∀ K d t,TyD K d t→PySem.W.kitOne K t (.type T)=some (isTy T d)) (hg:Gl X "isinstance") (hm:X.mg "isinstance"=none) (hy:Gl X y) (hmy:X.mg y=none) (hby:bootBuiltins y=some (.type T)) (ha:PL X a ta)
  (hny:y≠"__name__":=by decide) (hdy:(y == ("__debug__" : Str))=false:=by decide)
  (h1:starEach [a,.Name y py] X.env=(false,eval a X.env)::starEach [.Name y py] X.env:=by rfl) (h2:starEach [.Name y py] X.env=[(false,eval (.Name y py) X.env)]:=by rfl) (hpl:(backTo pos (starEach [.Name y py] X.env)).any (·.1)=false:=by rfl) :
  PL X (.Call (.Name "isinstance" p) [a,.Name y py] [] pos) (wUn (ky T) ta):=by
 have cr:iu X (.builtin "isinstance") (fun xs H Q=>∃ x d,xs=[x,.ty T]∧Rep X.K H x d∧Q (.bl (isTy T d)) H):=by
  intro pins s σ H xs us Q I rv h
  obtain⟨x,d,rfl,r,q⟩:=h
  obtain⟨u,w,rfl,r1,r2⟩:=FN rv
  cases r2
  exact DF I r1 r (hT _ d) fun tk=>⟨.bl _,H,I.tok _,rfl,q⟩
 refine PL.of (yH cr hg hm (by decide +kernel) (eG (au ha).pe (eG (FK hy hmy hby (v:=.ty T) rfl hny hdy) nG h2) h1) (he:=h1) (hpl:=hpl)) fun σ H Pr ρ post E h=>?_
 refine⟨Pr,ρ,fun r ρ1=>match r with
  |.d x=>ky T x fun r=>post r ρ1
  |_=>False,E,h,fun v H' r ρ' E' p=>?_⟩
 cases r with
 | d x =>
  obtain⟨_,e1,p1⟩:=E'.head_d
  cases e1
  exact⟨_,x,rfl,p1,_,ρ',E'.tail.cons_d (.bl _),p⟩
 |_=>exact p.elim
end
section
variable{X:Cx}{e a b:Expr}{pos p apos cpos:Pos}{tb te:W L}{x:Str}
theorem REnv.updOwn{K:PySem.W.Frag}{Pr H:Hp}{σ:St}{ρ:Ev}{i:Nat}{l:Addr}{xs ys:List D}{vs:List V}(E:REnv K Pr H σ ρ)(q:ρ[i]?=some (.own l xs))(r:Reps K H vs ys):REnv K Pr (upd H l (.lst vs)) σ (ρ.set i (.own l ys)):=by
 obtain⟨sv,hs,rfl,_⟩:=E.slot q
 have hi:i<ρ.length:=(List.getElem?_eq_some_iff.mp q).1
 have E1:=(E.out q).write r
 have E2:=E1.back (i:=i) (by simp[hi]) hs
 rw[List.set_set]at E2
 exact E2
theorem REnv.ownAt{K:PySem.W.Frag}{Pr H:Hp}{σ:St}{ρ:Ev}{i:Nat}{l:Addr}{xs:List D}(E:REnv K Pr H σ ρ)(q:ρ[i]?=some (.own l xs)):σ[i]?=some (some (.ref l))∧∃vs,H l=some (.lst vs)∧Reps K H vs xs:=by
 obtain⟨sv,hs,rfl,r⟩:=E.slot q
 exact⟨hs,r⟩
def ownV(i:Nat)(ρ:Ev)(k:Addr→List D→Prop):Prop:=match ρ[i]? with
 |some (.own a xs)=>k a xs
 |_=>False
theorem gw{i:Nat}{ρ:Ev}{k:Addr→List D→Prop}(h:ownV i ρ k):∃a xs,ρ[i]?=some (.own a xs)∧k a xs:=by
 unfold ownV at h
 cases q:ρ[i]? with
 |none=>rw[q]at h;exact h.elim
 | some l =>
  rw[q]at h
  cases l with
  |own a xs=>exact⟨a,xs,rfl,h⟩
  |un=>exact h.elim
  |d x=>exact h.elim
  |bx _ _=>exact h.elim
  |dic _ _=>exact h.elim
def wApp(i:Nat)(te:W L):W L:=fun ρ post=>ownV i ρ fun _ _=>te ρ fun r ρ1=>toD r fun y=>ownV i ρ1 fun a xs=>xs.length<sizeLine∧post (.d .non) (ρ1.set i (.own a (xs++[y])))
theorem iB(i:Nat)(he:PL X e te)(hN:X.N[i]?=some x:=by rfl)(hv:Vis X.env.scope x:=by first | exact Or.inl rfl | exact Or.inr (Or.inl rfl) | exact Or.inr (Or.inr rfl)) (hd:(x == ("__debug__" : Str))=false:=by decide)
  (hcd:(x == ("__classdict__" : Str))=false:=by decide) (hs1:starEach [e] X.env=[(false,eval e X.env)]:=by rfl) (hbase:attributeBase (.Name x p) "append" X.env (eval (.Name x p) X.env)=eval (.Name x p) X.env:=by rfl)
  (hfew:((backTo cpos (starEach [e] X.env)).all (fun x=>!x.1) && (backToKw cpos (keywordEach [] X.env)).all (fun x=>x.1.isSome)
   && decide (([e]).length+([]:List Keyword).length+(if([]:List Keyword).isEmpty then 0 else 1)<30))=true:=by rfl)
  (hline:(apos.endLine == cpos.line)=true:=by rfl) (hplain:(backTo cpos (starEach ([]:List Expr) X.env)).any (·.1)=false:=by rfl) :
  PL X (.Call (.Attribute (.Name x p) "append" apos) [e] [] cpos) (wApp i te):=by
 refine PL.of (FT PySem.F.plainAttrs_list PySem.F.slot_list_append PySem.F.type_list_append uT (ie hN hv hd hcd) (eG (au he).pe nG hs1) (hbase:=hbase) (hfew:=hfew) (hline:=hline) (hs:=hs1) (hplain:=hplain)) fun σ H Pr ρ post E h=>?_
 obtain⟨l,xs0,q0,h⟩:=gw h
 obtain⟨hσ,vs0,hl0,_⟩:=E.ownAt q0
 refine⟨.ref l,hσ,.inl ⟨rfl,vs0,SqL.of hl0⟩,Pr,ρ,fun r ρ1=>match r with
  |.d y=>ownV i ρ1 fun a xs=>xs.length<sizeLine∧post (.d .non) (ρ1.set i (.own a (xs++[y])))
  |_=>False,E,h,fun v H' r ρ' E' pp=>?_⟩
 cases r with
 | d y =>
  obtain⟨l',xs,q,hlen,pp⟩:=gw pp
  obtain⟨hσ',vs,hl,r⟩:=E'.tail.ownAt q
  rw[hσ]at hσ'
  cases hσ'
  obtain⟨_,e1,p1⟩:=E'.head_d
  cases e1
  exact⟨l,vs,v,rfl,rfl,hl,by rw[r.length];exact hlen,_,_,(E'.tail.updOwn q (r.append (.cons p1 .nil))).cons_d .non,pp⟩
 |_=>exact pp.elim
def wIxV(i:Nat)(tb:W L):W L:=fun ρ post=>ownV i ρ fun _ _=>tb ρ fun r ρ1=>oe r fun j=>ownV i ρ1 fun _ xs=>∃y,atI xs j=some y∧post (.d y) ρ1
theorem nJ(i:Nat)(hb:PL X b tb)(hs:wL b)(hN:X.N[i]?=some x:=by rfl)(hv:Vis X.env.scope x:=by first | exact Or.inl rfl | exact Or.inr (Or.inl rfl) | exact Or.inr (Or.inr rfl)) (hd:(x == ("__debug__" : Str))=false:=by decide)
  (hcd:(x == ("__classdict__" : Str))=false:=by decide):PL X (.Subscript (.Name x p) b pos) (wIxV i tb):=by
 refine PL.of (JK A2 (ie hN hv hd hcd) hb.pe hs) fun σ H Pr ρ post E h=>?_
 obtain⟨l,xs0,q0,h⟩:=gw h
 obtain⟨hσ,vs0,hl0,_⟩:=E.ownAt q0
 refine⟨.ref l,hσ,Pr,ρ,_,E,h,fun v H' r ρ' E' pp=>?_⟩
 obtain⟨j,rfl,pp⟩:=ee pp
 obtain⟨l',xs,q,y,hy,pp⟩:=gw pp
 obtain⟨hσ',vs,hl,r⟩:=E'.tail.ownAt q
 rw[hσ]at hσ'
 cases hσ'
 obtain⟨_,e1,p1⟩:=E'.head_d
 cases e1
 cases p1
 obtain⟨w,hw,rw⟩:=wV r hy
 exact⟨l,vs,j,w,rfl,rfl,SqL.of hl,hw,_,ρ',E'.tail.cons_d rw,pp⟩
def DG(i:Nat):W L:=fun ρ post=>ownV i ρ fun _ xs=>post (.d (.int xs.length)) ρ
theorem Bn(i:Nat) (hg:Gl X "len") (hm:X.mg "len"=none) (hN:X.N[i]?=some x:=by rfl) (hv:Vis X.env.scope x:=by first | exact Or.inl rfl | exact Or.inr (Or.inl rfl) | exact Or.inr (Or.inr rfl)) (hd:(x == ("__debug__" : Str))=false:=by decide)
  (hcd:(x == ("__classdict__" : Str))=false:=by decide) (h1:starEach [.Name x p] X.env=[(false,eval (.Name x p) X.env)]:=by rfl) (hpl:(backTo pos (starEach ([]:List Expr) X.env)).any (·.1)=false:=by rfl) :
  PL X (.Call (.Name "len" apos) [.Name x p] [] pos) (DG i):=by
 refine PL.of (yH nH hg hm PySem.boot_len (eG (ie hN hv hd hcd) nG h1) (he:=h1) (hpl:=hpl)) fun σ H Pr ρ post E h=>?_
 obtain⟨l,xs0,q0,h⟩:=gw h
 obtain⟨hσ,vs0,hl0,r⟩:=E.ownAt q0
 exact⟨.ref l,hσ,l,vs0,rfl,.inl (SqL.of hl0),_,ρ,E.cons_d (.int _),by rw[r.length];exact h⟩
def zX(i:Nat)(tb te:W L):W Fl:=fun ρ post=>te ρ fun r ρ1=>toD r fun y=>ownV i ρ1 fun _ _=>tb ρ1 fun r ρ2=>oe r fun j=>ownV i ρ2 fun a xs=>∃k,ixN xs.length j=some k∧post .nx (ρ2.set i (.own a (xs.set k y)))
theorem sk(i:Nat){b:Expr}{ps:Pos}(hb:PL X b tb)(he:PL X e te)(hN:X.N[i]?=some x:=by rfl)(hv:Vis X.env.scope x:=by first | exact Or.inl rfl | exact Or.inr (Or.inl rfl) | exact Or.inr (Or.inr rfl)) (hd:(x == ("__debug__" : Str))=false:=by decide)
  (hcd:(x == ("__classdict__" : Str))=false:=by decide)
  (ha:∀v,assign (.Subscript (.Name x p) b ps) X.env v=(do
   let ov ← holding [v] (eval (.Name x p) X.env)
   let iv ← holding [v,ov] (eval b X.env)
   standAt ps
   holding [v,ov,iv] (setItem ov iv v)
   release [v,ov,iv] []):=by intro _;rfl)
  (hs:swapsWithSole [.Subscript (.Name x p) b ps] e pos.line X.env=pure false:=by rfl) (hw:swappedStores [.Subscript (.Name x p) b ps] e X.env=pure none:=by rfl)
  (h1:(assignEach [.Subscript (.Name x p) b ps] X.env).map (·.2)=[assign (.Subscript (.Name x p) b ps) X.env]:=by rfl):PM X (.Assign [.Subscript (.Name x p) b ps] e pos) (zX i tb te):=by
 refine PM.of (HI (au he).pe (HH (ie hN hv hd hcd) hb.pe Dq ha) hs hw h1) fun σ H Pr ρ post hlen E h=>?_
 refine⟨Pr,ρ,fun r ρ1=>match r with
  |.d y=>ownV i ρ1 fun _ _=>tb ρ1 fun r ρ2=>oe r fun j=>ownV i ρ2 fun a xs=>∃k,ixN xs.length j=some k∧post .nx (ρ2.set i (.own a (xs.set k y)))
  |_=>False,E,h,fun v H' r ρ' E' pp=>?_⟩
 cases r with
 | d y =>
  obtain⟨l,xs0,q0,pp⟩:=gw pp
  obtain⟨hσ,vs0,hl0,_⟩:=E'.tail.ownAt q0
  refine⟨.ref l,hσ,bp H' ρ',ρ',_,E'.tail.wide,pp,fun w H2 r2 ρ2 E2 pp=>?_⟩
  obtain⟨j,rfl,pp⟩:=ee pp
  obtain⟨l',xs,q,k,hk,pp⟩:=gw pp
  obtain⟨_,e1,p1⟩:=E2.head_d
  cases e1
  cases p1
  have E3:REnv X.K Pr H2 (some (.int j)::some v::σ) (.d (.int j)::.d y::ρ2):=REnv.step (τ:=[some v]) (lam:=[.d y]) (w:=[some (.int j)]) (μ:=[.d (.int j)]) E' rfl E2 rfl
  obtain⟨_,e1,p1⟩:=E3.tail.head_d
  cases e1
  obtain⟨hσ',vs,hl,r⟩:=E3.tail.tail.ownAt q
  rw[hσ]at hσ'
  cases hσ'
  refine⟨l,vs,j,k,rfl,rfl,hl,by rw[r.length];exact hk,_,E3.tail.tail.updOwn q (r.set p1 k),pp⟩
 |_=>exact pp.elim
def zY:Option (W L)→Ev→(Option Int→Ev→Prop)→Prop
 |none=>fun ρ k=>k none ρ
 |some t=>fun ρ k=>t ρ fun r ρ1=>oe r fun i=>k (some i) ρ1
def cutD{α:Type}(xs:List α)(lo hi:Option Int):List α:=(xs.drop (HT.sIx xs.length 0 lo)).take (HT.sIx xs.length xs.length hi-HT.sIx xs.length 0 lo)
end
def bg:List Nat→Ev→Ev
 |[],ρ=>ρ
 |j::r,ρ=>(bg r ρ).set j .un
def cu(fi:List Nat)(ρ:Ev):Ev:=fi.map fun j=>(ρ[j]?).getD .un
def bT(fi:List Nat)(σ:St):St:=fi.map fun j=>(σ[j]?).getD none
def fX:List Nat→Ev→Ev→Ev
 |j::r,c::cs,ρ=>fX r cs (ρ.set j c)
 |_,_,ρ=>ρ
theorem eI:∀(fi:List Nat)(ρ:Ev),(bg fi ρ).length=ρ.length
 |[],_=>rfl
 |j::r,ρ=>by unfold bg;rw[List.length_set,eI r ρ]
theorem u5:∀(fi:List Nat)(ρ:Ev)(j:Nat),j∉fi→(bg fi ρ)[j]?=ρ[j]?
 |[],_,_,_=>rfl
 | i::r,ρ,j,h=>by
  unfold bg
  rw[List.getElem?_set_ne (fun e=>h (by simp[e])),u5 r ρ j fun e=>h (List.mem_cons_of_mem _ e)]
theorem yO:∀(fi:List Nat)(ρ:Ev)(j:Nat),j∈fi→j<ρ.length→(bg fi ρ)[j]?=some .un
 | i::r,ρ,j,h,hl=>by
  unfold bg
  by_cases e:i=j
  ·
   subst e
   rw[List.getElem?_set_self (by rw[eI];exact hl)]
  ·
   rw[List.getElem?_set_ne e]
   exact yO r ρ j ((List.mem_cons.mp h).resolve_left fun z=>e z.symm) hl
section
variable{K:PySem.W.Frag}{Pr H:Hp}{σ:St}{ρ:Ev}
theorem REnv.takeAt(E:REnv K Pr H σ ρ){i:Nat}{l:L}{s:Option V}(h:ρ[i]?=some l)(hs:σ[i]?=some s):REnv K Pr H (s::σ) (l::ρ.set i .un):=E.outL h hs
theorem REnv.takes(E:REnv K Pr H σ ρ):∀(fi:List Nat),fi.Nodup→(∀j∈fi,j<ρ.length)→REnv K Pr H (bT fi σ++σ) (cu fi ρ++bg fi ρ)
 |[],_,_=>E
 | j::r,nd,hl=>by
  have ih:=E.takes r (List.nodup_cons.mp nd).2 fun i hi=>hl i (List.mem_cons_of_mem _ hi)
  have hj:j<ρ.length:=hl j List.mem_cons_self
  have hjs:j<σ.length:=by rw[E.len];exact hj
  have e1:(cu r ρ++bg r ρ)[r.length+j]?=some ρ[j]:=by
   rw[List.getElem?_append_right (by simp[cu])]
   simp only[cu,List.length_map,Nat.add_sub_cancel_left]
   rw[u5 r ρ j (List.nodup_cons.mp nd).1]
   exact List.getElem?_eq_getElem hj
  have e2:(bT r σ++σ)[r.length+j]?=some σ[j]:=by
   rw[List.getElem?_append_right (by simp[bT])]
   simp only[bT,List.length_map,Nat.add_sub_cancel_left]
   exact List.getElem?_eq_getElem hjs
  have z:=ih.takeAt e1 e2
  rw[List.set_append_right _ _ (by simp[cu])]at z
  simp only[cu,List.length_map,Nat.add_sub_cancel_left]at z
  have c1:bT (j::r) σ=σ[j]::bT r σ:=by simp[bT,hjs]
  have c2:cu (j::r) ρ=ρ[j]::cu r ρ:=by simp[cu,hj]
  rw[c1,c2]
  exact z
theorem REnv.backs:∀(fi:List Nat){cs ρ:Ev},fi.Nodup→cs.length=fi.length→(∀j∈fi,ρ[j]?=some .un)→(∀j∈fi,j<σ.length)→REnv K Pr H (bT fi σ++σ) (cs++ρ)→REnv K Pr H σ (fX fi cs ρ)
 |[],[],ρ,_,_,_,_,E=>E
 | j::r,c::cs,ρ,nd,hl,hu,hs,E=>by
  have hjs:j<σ.length:=hs j List.mem_cons_self
  have hj:=hu j List.mem_cons_self
  have c1:bT (j::r) σ=σ[j]::bT r σ:=by simp[bT,hjs]
  rw[c1]at E
  have hlr:cs.length=r.length:=by simpa using hl
  have z:=REnv.back (σ:=bT r σ++σ) (ρ:=cs++ρ) (l:=c) E (i:=r.length+j) (by
   rw[List.getElem?_append_right (by omega),hlr,Nat.add_sub_cancel_left];exact hj) (by
   rw[List.getElem?_append_right (by simp[bT])]
   simp only[bT,List.length_map,Nat.add_sub_cancel_left]
   exact List.getElem?_eq_getElem hjs)
  rw[List.set_append_right _ _ (by omega),hlr,Nat.add_sub_cancel_left]at z
  exact REnv.backs r (List.nodup_cons.mp nd).2 hlr (fun i hi=>by
   rw[List.getElem?_set_ne (fun e=>(List.nodup_cons.mp nd).1 (by rw[e];exact hi))];exact hu i (List.mem_cons_of_mem _ hi)) (fun i hi=>hs i (List.mem_cons_of_mem _ hi)) z
 |[],_::_,_,_,hl,_,_,_=>by simp at hl
 |_::_,[],_,_,hl,_,_,_=>by simp at hl
end
def clOf(cells:List (Str×Addr)):List (Str×NameKind)→List (Str×Addr)→List (Str×Addr)
 |[],acc=>acc
 |(n,k)::r,acc=>clOf cells r (if k == .free then(match cells.lookup n with|some c=>(n,c)::acc|none=>acc)else acc)
theorem mN{env:Env}:∀(names:List (Str×NameKind))(acc:List (Str×Addr)),(∀x∈names,x.2=.free→∃c,env.cells.lookup x.1=some c) →
  (forIn names acc fun (x:Str×NameKind) (cs:List (Str×Addr))=>(if x.2 == .free then do let c ← cellOf env x.1;pure (ForInStep.yield ((x.1,c)::cs))else pure (ForInStep.yield cs):Sem (ForInStep (List (Str×Addr)))))=pure (clOf env.cells names acc)
 |[],acc,_=>rfl
 | (n,k)::r,acc,h=>by
  rw[List.forIn_cons]
  by_cases hk:(k == NameKind.free)=true
  ·
   obtain⟨c,hc⟩:=h (n,k) List.mem_cons_self (by simpa using hk)
   have e:cellOf env n=pure c:=by unfold cellOf;rw[show env.cells.lookup n=some c from hc]
   simp only[hk,if_true,e,pure_bind,clOf,hc]
   exact mN r _ fun x hx=>h x (List.mem_cons_of_mem _ hx)
  ·
   simp only[hk,clOf,if_false,pure_bind]
   exact mN r _ fun x hx=>h x (List.mem_cons_of_mem _ hx)
theorem sq{scope:Scope}{env:Env}(h:∀x∈scope.names,x.2=.free→∃c,env.cells.lookup x.1=some c):closureFor scope env=pure (clOf env.cells scope.names []):=by
 have:=mN (env:=env) scope.names [] h
 unfold closureFor
 simp only[bind_pure_comp]at this ⊢
 rw[this]
 rfl
theorem yP{cells:List (Str×Addr)}:∀(names:List (Str×NameKind))(acc:List (Str×Addr)),(∀x c,acc.lookup x=some c→cells.lookup x=some c)→∀x c,(clOf cells names acc).lookup x=some c→cells.lookup x=some c
 |[],acc,h,x,c,e=>h x c e
 | (n,k)::r,acc,h,x,c,e=>by
  unfold clOf at e
  refine yP r _ (fun y d ey=>?_) x c e
  split at ey
  ·
   split at ey
   ·
    rename_i q
    rw[List.lookup_cons]at ey
    split at ey
    ·
     rename_i e2
     have:y=n:=by simpa using e2
     cases ey
     rw[this];exact q
    ·
     exact h y d ey
   ·
    exact h y d ey
  ·
   exact h y d ey
theorem og{n:Str}{c:Addr}{acc:List (Str×Addr)}{x:Str}(h:∃d,acc.lookup x=some d):∃d,((n,c)::acc).lookup x=some d:=by
 rw[List.lookup_cons]
 split
 ·
  exact⟨_,rfl⟩
 ·
  exact h
theorem sr{cells:List (Str×Addr)}:∀(names:List (Str×NameKind))(acc:List (Str×Addr))(x:Str),((∃d,acc.lookup x=some d)∨((x,NameKind.free)∈names∧∃c,cells.lookup x=some c))→∃d,(clOf cells names acc).lookup x=some d
 | [],acc,x,h=>by
  rcases h with h|⟨h,_⟩
  ·
   exact h
  ·
   simp at h
 | (n,k)::r,acc,x,h=>by
  unfold clOf
  refine sr r _ x ?_
  rcases h with h|⟨hm,c,hc⟩
  ·
   left
   split
   ·
    split
    ·
     exact og h
    ·
     exact h
   ·
    exact h
  ·
   rcases List.mem_cons.mp hm with e|hm
   ·
    cases e
    left
    simp only[hc,beq_self_eq_true,if_true]
    exact⟨c,by simp[List.lookup_cons]⟩
   ·
    exact .inr ⟨hm,c,hc⟩
def ip(X:Cx)(scope:Scope)(cl:List (Str×Addr))(Nb:List Str)(s₀:Shared)(H₀:Hp)(fp:List Addr):Cx :=
 {X with N:=Nb,s₀:=s₀,H₀:=H₀,env:=compEnvC scope cl s₀.heap.objs.size X.env,outer:=X.stack,stack:=X.stack,ex:=fp,fn:=fun _=>false,pn:=[],xe:=fun _ _=>False}
theorem jD{α β:Type}{F:α→β→Prop}:∀{a:List α}{b:List β},Paired F a b↔a.length=b.length∧∀p∈a.zip b,F p.1 p.2
 |[],[]=>⟨fun _=>⟨rfl,fun _ h=>by simp at h⟩,fun _=>.nil⟩
 |[],_::_=>⟨(fun h=>nomatch h),fun h=>by simp at h⟩
 |_::_,[]=>⟨(fun h=>nomatch h),fun h=>by simp at h⟩
 | x::a,y::b=>by
  constructor
  ·
   intro h
   cases h with
   | cons r t =>
    obtain⟨h1,h2⟩:=jD.mp t
    exact⟨by simp[h1],fun p hp=>by
     rw[List.zip_cons_cons]at hp
     rcases List.mem_cons.mp hp with rfl|hp
     ·
      exact r
     ·
      exact h2 p hp⟩
  ·
   rintro⟨hl,h⟩
   exact .cons (h (x,y) (by simp)) (jD.mpr ⟨by simpa using hl,fun p hp=>h p (by rw[List.zip_cons_cons];exact List.mem_cons_of_mem _ hp)⟩)
theorem su:∀{σ:St}{ρ:Ev},σ.length=ρ.length→(σ.zip ρ).map (·.2)=ρ
 |[],[],_=>rfl
 | _::σ,l::ρ,h=>by
  have ih:=su (σ:=σ) (ρ:=ρ) (by simpa using h)
  rw[List.zip_cons_cons,List.map_cons,ih]
 |[],_::_,h=>by simp at h
 |_::_,[],h=>by simp at h
theorem REnv.rearr{K:PySem.W.Frag}{Pr H:Hp}{σ σ2:St}{ρ ρ2:Ev}(E:REnv K Pr H σ ρ)(hl:σ2.length=ρ2.length)(extra:List (Option V×L))(h:(σ.zip ρ).Perm (σ2.zip ρ2++extra)):REnv K Pr H σ2 ρ2:=by
 have pm:(owns ρ).Perm (owns ρ2++owns (extra.map (·.2))):=by
  have q:=lE (h.map (·.2))
  rw[List.map_append,su E.len,su hl,aE]at q
  exact q
 refine⟨E.sub,(List.nodup_append.mp (pm.nodup_iff.mp E.nd)).1,fun a ha=>E.off a (pm.mem_iff.mpr (List.mem_append_left _ ha)),jD.mpr ⟨hl,fun p hp=>?_⟩⟩
 exact(jD.mp E.sl).2 p (h.mem_iff.mpr (List.mem_append_left _ hp))
theorem u6{fi:List Nat}{σ τ:St}(h:∀j∈fi,j<σ.length):bT fi (σ++τ)=bT fi σ:=by
 unfold bT
 refine List.map_congr_left fun j hj=>?_
 rw[List.getElem?_append_left (h j hj)]
theorem zZ{fi:List Nat}{σ τ:Ev}(h:∀j∈fi,j<σ.length):cu fi (σ++τ)=cu fi σ:=by
 unfold cu
 refine List.map_congr_left fun j hj=>?_
 rw[List.getElem?_append_left (h j hj)]
theorem u7{τ:Ev}:∀{fi:List Nat}{ρ:Ev},(∀j∈fi,j<ρ.length)→bg fi (ρ++τ)=bg fi ρ++τ
 |[],_,_=>rfl
 | j::r,ρ,h=>by
  unfold bg
  rw[u7 fun i hi=>h i (List.mem_cons_of_mem _ hi),List.set_append_left _ _ (by rw[eI];exact h j List.mem_cons_self)]
theorem rA{τ:Ev}:∀{fi:List Nat}{cs ρ:Ev},(∀j∈fi,j<ρ.length)→fX fi cs (ρ++τ)=fX fi cs ρ++τ
 |[],[],_,_=>rfl
 |[],_::_,_,_=>rfl
 |_::_,[],_,_=>rfl
 | j::r,c::cs,ρ,h=>by
  unfold fX
  rw[List.set_append_left _ _ (h j List.mem_cons_self)]
  exact rA fun i hi=>by rw[List.length_set];exact h i (List.mem_cons_of_mem _ hi)
theorem eK{env:Env}:∀{names:List (Str×NameKind)}{x:Str},names.lookup x=some .free →
  (names.map fun (n,k)=>if(k == NameKind.free && env.scope.kind == .function && env.kindOf n == some .cell)then(n,NameKind.cell)else(n,k)).lookup x=some .cell ∨
  (names.map fun (n,k)=>if(k == NameKind.free && env.scope.kind == .function && env.kindOf n == some .cell)then(n,NameKind.cell)else(n,k)).lookup x=some .free
 |[],_,h=>by simp at h
 | (n,k)::r,x,h=>by
  have ih:=@eK env r x
  rw[List.map_cons]
  cases hx:x == n with
  | true =>
   simp only[List.lookup_cons,hx]at h
   cases h
   dsimp only
   by_cases hc:(NameKind.free == NameKind.free && env.scope.kind == .function && env.kindOf n == some .cell)=true
   ·
    left;rw[if_pos hc];simp[List.lookup_cons,hx]
   ·
    right;rw[if_neg hc];simp[List.lookup_cons,hx]
  | false =>
   simp only[List.lookup_cons,hx]at h
   dsimp only
   by_cases hc:(k == NameKind.free && env.scope.kind == .function && env.kindOf n == some .cell)=true
   ·
    rw[if_pos hc];simp only[List.lookup_cons,hx];exact ih h
   ·
    rw[if_neg hc];simp only[List.lookup_cons,hx];exact ih h
theorem gy{env:Env}:∀{names:List (Str×NameKind)}{x:Str}{k:NameKind},(∀y∈names,y.2≠.cell)→(k=.cell∨k=.free) →
  (names.map fun (n,k)=>if(k == NameKind.free && env.scope.kind == .function && env.kindOf n == some .cell)then(n,NameKind.cell)else(n,k)).lookup x=some k→(x,NameKind.free)∈names
 |[],_,_,_,_,h=>by simp at h
 | (n,k0)::r,x,k,hc,hk,h=>by
  rw[List.map_cons]at h
  dsimp only at h
  by_cases q:(k0 == NameKind.free && env.scope.kind == .function && env.kindOf n == some .cell)=true
  ·
   rw[if_pos q,List.lookup_cons]at h
   have e0:k0=.free:=by
    have:=(Bool.and_eq_true_iff.mp (Bool.and_eq_true_iff.mp q).1).1
    simpa using this
   split at h
   ·
    rename_i e
    have:x=n:=by simpa using e
    subst this e0
    exact List.mem_cons_self
   ·
    exact List.mem_cons_of_mem _ (gy (fun y hy=>hc y (List.mem_cons_of_mem _ hy)) hk h)
  ·
   rw[if_neg q,List.lookup_cons]at h
   split at h
   ·
    rename_i e
    have:x=n:=by simpa using e
    subst this
    have e1:k0=k:=by simpa using h
    subst e1
    rcases hk with z|z
    ·
     exact absurd z (hc (x,k0) List.mem_cons_self)
    ·
     subst z;exact List.mem_cons_self
   ·
    exact List.mem_cons_of_mem _ (gy (fun y hy=>hc y (List.mem_cons_of_mem _ hy)) hk h)
section
variable{prog:Program}{w:World}{A:Around}{R:Result→Shared→Prop}
theorem Bo{elt target iter:Expr}{ifs:List Expr}{scope:Scope}{pos:Pos}{it acc:Value}{env:Env}(I:Nat→Shared→Prop)
  (turn:∀n s,I n s→wpAny (model prog w) A (pyNext it) (fun r s₁=>match r with
   |none=>R (.ok .next) s₁
   | some v=>wpAny (model prog w) A (letOwnedTupleGo target it v) (fun _ s₀=>wpAny (model prog w) A (assign target env v) (fun _ s₂ =>
     wpAny (model prog w) A (forIn ifs true fun c r=>if r=true then do let ok ← isTrue c env (eval c env);pure (ForInStep.yield ok)else pure (ForInStep.yield r)) (fun ok s₃ =>
      if ok=true then wpAny (model prog w) A (eval elt env) (fun x s₄ =>
       wpAny (model prog w) A (call (.builtin "list.append") [acc,x]) (fun _ s₅=>∃ m,m < n∧I m s₅) (fun _ _=>False) s₄) (fun _ _=>False) s₃
      else ∃m,m<n∧I m s₃) (fun _ _=>False) s₂) (fun _ _=>False) s₀) (fun _ _=>False) s₁) (fun _ _=>False) s)
  (n:Nat) {s:Shared} (h:I n s) :
  codeAny (model prog w) A (.compLoop (.ListComp elt [⟨target,iter,ifs,0⟩] scope pos) 0 it acc env) R s:=by
 refine codeAny_loop rfl I (fun n s hI=>?_) n h
 show wpAny _ A ((compTurn (.ListComp elt [⟨target,iter,ifs,0⟩] scope pos) 0 it acc env).onRaise (fun x=>do noteFrame x env;theTreesLotGoes x)) _ _ s
 refine wpAny_noted ?_
 rw[compTurn_list]
 have fe:∀{α:Type}{t:Sem α}{Q:α→Shared→Prop}{E:Value→Shared→Prop}{s:Shared},wpAny (model prog w) A t Q (fun _ _=>False) s→wpAny (model prog w) A t Q E s:=fun h=>wpAny_mono h (fun _ _ q=>q) fun _ _ z=>z.elim
 refine wpAny_bind (wpAny_standAt (wpAny_bind (wpAny_mono (turn n s hI) (fun r s₁ h₁=>?_) fun _ _ h'=>h'.elim)))
 cases r with
 |none=>exact wpAny_pure h₁
 | some v =>
  refine wpAny_bind (wpAny_mono h₁ (fun _ s₀ h₀=>?_) fun _ _ z=>z.elim)
  refine wpAny_bind (wpAny_mono h₀ (fun _ s₂ h₂=>wpAny_bind (wpAny_mono h₂ (fun ok s₃ h₃=>?_) fun _ _ h'=>h'.elim)) fun _ _ h'=>h'.elim)
  cases ok with
  |false=>exact wpAny_pure ⟨rfl,h₃⟩
  | true =>
   exact wpAny_bind (wpAny_bind (wpAny_mono h₃ (fun x s₄ h₄=>wpAny_bind (wpAny_mono h₄ (fun _ s₅ h₅=>wpAny_pure (wpAny_pure ⟨rfl,h₅⟩)) fun _ _ h'=>h'.elim)) fun _ _ h'=>h'.elim))
end
def PTc(X:Cx)(tg:Expr)(n:Nat)(g:Tg):Prop:=∃gg:TG,PG X tg gg∧∀v σ H Pr ρ x k,σ.length=X.N.length→REnv X.K Pr H σ ρ→Rep X.K H v x→g x ρ k→gg v σ H fun σ' H'=>H'=H∧σ'.drop n=σ.drop n∧∃ρ',REnv X.K Pr H σ' ρ'∧k ρ'
theorem cG{X:Cx}{i n:Nat}{x:Str}{pos:Pos}(hn:i<n)(hN:X.N.Nodup)(hi:X.N[i]?=some x)(hx:Loc X.env.scope x)(hf:X.fn x=true∨X.env.scope.names.lookup x=some .local:=by first|exact .inl rfl|exact .inr rfl|assumption):PTc X (.Name x pos) n (aY i) :=
 ⟨_,rV hN hi hx hf,fun v σ H Pr ρ x k hl E r h=>⟨rfl,by rw[List.drop_set_of_lt hn],_,(E.cons_d r).store (by rw[hl];exact(List.getElem?_eq_some_iff.mp hi).1),h⟩⟩
def PIf(X:Cx)(ifs:List Expr)(t:W Bool):Prop :=
 ∀(pins:List (Addr×Obj))(s:Shared)(σ:St)(H Pr:Hp)(ρ:Ev)(post:Bool→Ev→Prop),Inv X pins σ H s→REnv X.K Pr H σ ρ→t ρ post →
  wpAny (model X.prog X.w) X.A (forIn ifs true fun c r=>if r=true then do let ok ← isTrue c X.env (eval c X.env);pure (ForInStep.yield ok)else pure (ForInStep.yield r)) (EB X pins σ Pr post) X.xe s
def fY:W Bool:=fun ρ post=>post true ρ
theorem cX{X:Cx}:PIf X [] fY:=fun pins s σ H Pr ρ post I E h=>wpAny_tests_nil ⟨H,ρ,I,E,h⟩
theorem wW{X:Cx}{c:Expr}{t:W Bool}(h:PB X c t):PIf X [c] t:=fun pins s σ H Pr ρ post I E ht=>wpAny_tests_one (h pins s σ H Pr ρ post I E ht)
def d4(g:Tg)(ti:W Bool)(te:W L):List D→Ev→List D→(List D→Ev→Prop)→Prop
 |[],ρ,acc,k=>k acc ρ
 |x::xs,ρ,acc,k=>g x ρ fun ρ1=>ti ρ1 fun b ρ2=>if b=true then te ρ2 fun r ρ3=>toD r fun y=>d4 g ti te xs ρ3 (acc++[y]) k else d4 g ti te xs ρ2 acc k
def fG(n:Nat)(fi:List Nat)(src:W (List D))(g:Tg)(ti:W Bool)(te:W L):W L:=fun ρ post=>src ρ fun xs ρ1=>xs.length≤sizeLine ∧
 d4 g ti te xs (List.replicate n .un++cu fi ρ1) [] fun ys ρb=>∀a,post (.own a ys) (fX fi (ρb.drop n) (bg fi ρ1))
section
variable{X:Cx}
theorem u9{elt tg iter:Expr}{ifs:List Expr}{scope sc:Scope}{pos:Pos}{N Nt Nf:List Str}{fi:List Nat}{src:W (List D)}{g:Tg}{ti:W Bool}{te:W L}
  (hsc:X.env.scope=sc) (hXN:X.N=N) (hc:X.calm=true) (hi:PIL X tg iter src)
  (hkind:scope.kind=.function) (hnames:∀x∈scope.names,x.2=.local→scope.names.lookup x.1=some .local) (hcell:∀y∈scope.names,y.2≠.cell)
  (hfr:∀x∈scope.names,x.2=.free→sc.names.lookup x.1=some .cell∨sc.names.lookup x.1=some .free)
  (hnd:fi.Nodup) (hNf:Nf.map some=fi.map (fun j=>N[j]?)) (hNk:∀x∈Nf,scope.names.lookup x=some .free) (hfl:∀j∈fi,j<N.length)
  (hg:∀cl s₀ H₀ fp,PTc (ip X scope cl (Nt++Nf) s₀ H₀ fp) tg Nt.length g) (hti:∀cl s₀ H₀ fp,PIf (ip X scope cl (Nt++Nf) s₀ H₀ fp) ifs ti) (hte:∀cl s₀ H₀ fp,PL (ip X scope cl (Nt++Nf) s₀ H₀ fp) elt te)
  {pins:List (Addr×Obj)} {s:Shared} {σ:St} {H Pr:Hp} {ρ:Ev} {post:L→Ev→Prop} {use:Option (Value→Sem Unit)} {Q:Value→Shared→Prop} (I:Inv X pins σ H s) (E:REnv X.K Pr H σ ρ) (h:fG Nt.length fi src g ti te ρ post)
  (hRR:∀D C s7 H6 acc ρ'' m,Inv X pins σ H6 s7→s7.heap.Ns C m→H6 C=none→C≠X.env.locals→X.s₀.heap.objs.size≤C→(∀x c,X.env.cells.lookup x=some c→c≠C)→(∀p∈X.pn++pins,p.1≠C)→REnv X.K Pr H6 (some (.ref D)::σ) (.own D acc::ρ'')→post (.own D acc) ρ'' →
   compPost (model X.prog X.w) X.A X.xe use Q (.ref D) C (.ok .next) s7)
  (hs:∀x,foldedSetIterable iter X.env x=pure x):wpAny (model X.prog X.w) X.A (comprehension (.ListComp elt [⟨tg,iter,ifs,0⟩] scope pos) scope X.env (firstIterPos [⟨tg,iter,ifs,0⟩] pos) (newList []) false (eval iter X.env) use) Q X.xe s:=by
 have hcells:∀x∈scope.names,x.2=.free→∃c,X.env.cells.lookup x.1=some c:=fun x hx hk=>I.ok.has x.1 (by
  show X.env.scope.names.lookup x.1=_∨X.env.scope.names.lookup x.1=_
  rw[hsc];exact hfr x hx hk)
 have hsub:=yP (cells:=X.env.cells) scope.names [] (fun x c e=>by simp at e)
 refine wpAny_comprehension_free (use:=use) rfl hs (sq hcells) hkind hnames (thn (hi pins s σ H Pr ρ _ I E h) fun v s1 h1=>thn h1 fun itv s2 h2=>?_)
 obtain⟨it,fp,tn,J,H2,xs,ρ2,e,I2,T,st2,f2,E2,G,hlen,w0⟩:=h2
 subst e
 refine wpAny_newObj_type (T:="list") ?_
 generalize hD:s2.heap.objs.size=D
 have fD:H2 D=none:=by rw[← hD];exact I2.fresh
 have I3:Inv X pins σ (upd H2 D (.lst [])) {s2 with heap:=s2.heap.push {cls:=.type "list",dict:=none,data:=.seq ([]:List Value).toArray} }:=by
  have:=Inv.lnew (ys:=[]) (its:=[]) (t':=s2.toks) I2 .nil (Nat.zero_le _)
  rw[hD]at this
  exact this
 have E3:=E2.cons_own (p:=D) (vs:=[]) (xs:=[]) fD .nil
 have sz3:(s2.heap.push {cls:=.type "list",dict:=none,data:=.seq ([]:List Value).toArray}).objs.size=D+1:=by rw[Heap.size_push,hD]
 generalize hs3:({s2 with heap:=s2.heap.push {cls:=.type "list",dict:=none,data:=.seq ([]:List Value).toArray} }:Shared)=s3 at I3
 have hs3h:s3.heap=s2.heap.push {cls:=.type "list",dict:=none,data:=.seq ([]:List Value).toArray}:=by rw[← hs3]
 have fpD:∀b∈fp,b≠D:=fun b hb=>by
  obtain⟨o,e,_⟩:=T.obj 0 _ st2 b hb
  rw[← hD];exact Nat.ne_of_lt (Heap.lt_size e)
 have old3:∀b o,s2.heap.get? b=some o→s3.heap.get? b=some o:=fun b o e=>by rw[hs3h];exact Heap.get?_push_of_some _ e
 refine wpAny_newFunctionEnv (around:=some X.env) hcell (by intro y hy;simp at hy) (fun h4 hns4 hsb4=>?_) hkind
 have hns4':h4.Ns s3.heap.objs.size (fun _=>none):=by
  have:(fun x=>(([]:List (Str×Value)).reverse.lookup x))=fun _=>(none:Option Value):=by funext x;rfl
  rw[this]at hns4
  exact hns4
 have old4:∀b o,s3.heap.get? b=some o→h4.get? b=some o:=fun b o e=>by
  rw[hsb4.2 b (Nat.ne_of_lt (Heap.lt_size e))];exact Heap.get?_push_of_some _ e
 have hσl:σ.length=N.length:=by rw[← hXN];exact I.len
 have hρ2:σ.length=ρ2.length:=E2.len
 have hjσ:∀j∈fi,j<σ.length:=fun j hj=>by rw[hσl];exact hfl j hj
 have hjρ:∀j∈fi,j<ρ2.length:=fun j hj=>by rw[← hρ2];exact hjσ j hj
 have hfpl:∀b∈fp,b<s3.heap.objs.size:=fun b hb=>by
  obtain⟨o,e,_⟩:=T.obj 0 _ st2 b hb
  exact Heap.lt_size (old3 b o e)
 have hlNf:Nf.length=fi.length:=by have:=congrArg List.length hNf;simpa using this
 have Bok:(ip X scope (clOf X.env.cells scope.names []) (Nt++Nf) s3 (upd H2 D (.lst [])) fp).Ok:=by
  refine⟨I3.ok.mod,hkind,I.ok.glob,I.ok.blt,Nat.le_refl _,fun x y c e1 e2=>I.ok.inj x y c (hsub x c e1) (hsub y c e2),fun x hx=>?_,fun x c hf _=>(Bool.false_ne_true hf).elim,I.ok.hd,I.ok.frames,.inl rfl,fun b hb=>⟨Nat.ne_of_lt (hfpl b hb),fun x c e=>(f2 b hb).2.2.2.2.1 x c (hsub x c e)⟩,I3.bs,Nat.le_trans I.ok.bsz I3.sz,fun b o e hb=>?_,fun b hb hm=>?_,I3.stack,I3.stkFree,I3.tbs⟩
  ·
   have hm:(x,NameKind.free)∈scope.names:=by
    rcases hx with hx|hx
    ·
     exact gy (env:=X.env) hcell (.inl rfl) hx
    ·
     exact gy (env:=X.env) hcell (.inr rfl) hx
   exact sr scope.names [] x (.inr ⟨hm,hcells _ hm rfl⟩)
  ·
   rcases(f2 b hb).2.2.2.1 with z|z
   ·
    exact I.ok.noex b o e z
   ·
    exact absurd (Nat.lt_of_lt_of_le (Heap.lt_size (I.ok.bs b o e).1) z) (Nat.lt_irrefl _)
  ·
   rcases List.mem_cons.mp (I3.stkSub b hm)with z|z
   ·
    exact(f2 b hb).2.1 z
   ·
    exact(f2 b hb).2.2.1 z
 have I4:Inv (ip X scope (clOf X.env.cells scope.names []) (Nt++Nf) s3 (upd H2 D (.lst [])) fp) [] (List.replicate Nt.length none++bT fi σ) (upd H2 D (.lst [])) {s3 with heap:=h4,toks:=s3.toks+([]:List (Str×Value)).length}:=by
  refine⟨Bok,rfl,I3.bare,Un.kept old4,⟨_,hns4',fun i x v e1 e2 e3=>?_⟩,fun x c e=>?_,I3.fresh,fun x c e=>(I3.freeC x c (hsub x c e)).imp id fun z=>⟨rfl,z.2⟩,fun p hp=>absurd (show p∈([]:List (Addr×Obj))from hp) (by simp),I3.hok.kept old4,?_⟩
  ·
   have e1:(Nt++Nf)[i]?=some x:=e1
   have hi':Nt.length≤i:=by
    by_cases q:i<Nt.length
    ·
     rw[List.getElem?_append_left (by simpa using q),List.getElem?_replicate]at e2
     split at e2<;>cases e2
    ·
     omega
   rw[List.getElem?_append_right hi']at e1
   rw[List.getElem?_append_right (by simpa using hi')]at e2
   simp only[List.length_replicate]at e2
   generalize i-Nt.length=k at e1 e2
   have hk:k<fi.length:=by
    have:=(List.getElem?_eq_some_iff.mp e1).1
    omega
   have e4:(Nf.map some)[k]?=(fi.map fun j=>N[j]?)[k]?:=by rw[hNf]
   rw[List.getElem?_map,List.getElem?_map,e1,List.getElem?_eq_getElem hk]at e4
   have e5:N[fi[k]]?=some x:=by simpa using e4.symm
   have e6:σ[fi[k]]?=some (some v):=by
    unfold bT at e2
    rw[List.getElem?_map,List.getElem?_eq_getElem hk]at e2
    have hjl:=hjσ fi[k] (List.getElem_mem hk)
    rw[List.getElem?_eq_getElem hjl]
    simpa[List.getElem?_eq_getElem hjl]using e2
   have hxm:x∈Nf:=List.mem_of_getElem? e1
   have hfree:=hNk x hxm
   have hmem:(x,NameKind.free)∈scope.names:=PySem.mem_of_lookup hfree
   have hkx:=hfr _ hmem rfl
   obtain⟨m,_,hl⟩:=I3.loc
   obtain⟨u,ru,lk⟩:=hl fi[k] x v (by rw[hXN];exact e5) e6 (by rw[hsc];exact .inr hkx)
   refine⟨u,ru,.inr ⟨eK (env:=X.env) hfree,?_⟩⟩
   rcases lk with⟨z,_⟩|⟨_,c,hc1,hc2⟩
   ·
    have z:X.env.scope.names.lookup x=some .local:=z
    rw[hsc]at z
    rcases hkx with q|q
    ·
     rw[z]at q;cases q
    ·
     rw[z]at q;cases q
   ·
    obtain⟨d,hd⟩:=sr (cells:=X.env.cells) scope.names [] x (.inr ⟨hmem,c,hc1⟩)
    have:d=c:=by have:=hsub x d hd;rw[hc1]at this;exact(Option.some.inj this).symm
    subst this
    obtain⟨o,ho,hdd⟩:=hc2
    exact⟨d,hd,o,old4 _ o ho,hdd⟩
  ·
   obtain⟨v,o,ho,hd⟩:=I3.cell x c (hsub x c e)
   exact⟨v,o,old4 c o ho,hd⟩
  ·
   show(List.replicate Nt.length none++bT fi σ).length=(Nt++Nf).length
   simp[bT,hlNf]
 have E4:REnv X.K Pr (upd H2 D (.lst [])) (some (.ref D)::(σ++(List.replicate Nt.length none++bT fi σ))) (.own D []::(bg fi ρ2++(List.replicate Nt.length .un++cu fi ρ2))):=by
  have a1:REnv X.K Pr (upd H2 D (.lst [])) (σ++[some (.ref D)]) (ρ2++[.own D []]):=E3.rearr (by simp[hρ2]) [] (by
   rw[List.append_nil,List.zip_append hρ2]
   exact(List.perm_append_comm (l₁:=[(some (V.ref D),L.own D [])]) (l₂:=σ.zip ρ2)))
  have a2:=a1.takes fi hnd fun j hj=>by have:=hjρ j hj;simp;omega
  rw[u6 hjσ,zZ hjρ,u7 hjρ]at a2
  have a3:=a2.uns Nt.length
  have hcl:(bT fi σ).length=(cu fi ρ2).length:=by simp[bT,cu]
  have hul:σ.length=(bg fi ρ2).length:=by rw[eI];exact hρ2
  refine a3.rearr (by simp[hul,hcl]) [] ?_
  have l1:(bT fi σ++(σ++[some (V.ref D)])++List.replicate Nt.length none).zip (cu fi ρ2++(bg fi ρ2++[L.own D []])++List.replicate Nt.length L.un)=((bT fi σ).zip (cu fi ρ2)++(σ.zip (bg fi ρ2)++[(some (V.ref D),L.own D [])]))++(List.replicate Nt.length none).zip (List.replicate Nt.length L.un):=by
   rw[List.zip_append (by simp only[List.length_append,hcl,hul];rfl),List.zip_append hcl,List.zip_append hul]
   rfl
  have l2:(some (V.ref D)::(σ++(List.replicate Nt.length none++bT fi σ))).zip (L.own D []::(bg fi ρ2++(List.replicate Nt.length L.un++cu fi ρ2)))=(some (V.ref D),L.own D [])::(σ.zip (bg fi ρ2)++((List.replicate Nt.length none).zip (List.replicate Nt.length L.un)++(bT fi σ).zip (cu fi ρ2))):=by
   rw[List.zip_cons_cons,List.zip_append hul,List.zip_append (by simp)]
  rw[List.append_nil,l1,l2]
  generalize (bT fi σ).zip (cu fi ρ2)=z1
  generalize σ.zip (bg fi ρ2)=z2
  generalize (List.replicate Nt.length none).zip (List.replicate Nt.length L.un)=z3
  show(z1++(z2++[(some (V.ref D),L.own D [])])++z3).Perm ((some (V.ref D),L.own D [])::(z2++(z3++z1)))
  have p1:(z1++(z2++[(some (V.ref D),L.own D [])])++z3).Perm ((z2++[(some (V.ref D),L.own D [])])++z3++z1):=by
   rw[List.append_assoc]
   exact List.perm_append_comm
  refine p1.trans ?_
  rw[List.append_assoc,List.append_assoc]
  exact List.perm_middle
 clear E3
 let B:Cx:=ip X scope (clOf X.env.cells scope.names []) (Nt++Nf) s3 (upd H2 D (.lst [])) fp
 have hul:σ.length=(bg fi ρ2).length:=by rw[eI];exact hρ2
 have stat:∀{H':Hp},(∀b∈fp,H' b=none)→∀b∈fp,FpOk B [] H' b:=fun hn b hb=>by
  refine⟨hn b hb,Nat.ne_of_lt (hfpl b hb),fun hm=>?_,.inl hb,fun x c e=>(f2 b hb).2.2.2.2.1 x c (hsub x c e),fun p hp=>absurd (show p∈([]:List (Addr×Obj))from hp) (by simp)⟩
  rcases List.mem_cons.mp (I3.stkSub b hm)with z|z
  ·
   exact(f2 b hb).2.1 z
  ·
   exact(f2 b hb).2.2.1 z
 have loop:∀s5:Shared,s5={s3 with heap:=h4,toks:=s3.toks+([]:List (Str×Value)).length}→codeAny (model X.prog X.w) X.A (.compLoop (.ListComp elt [⟨tg,iter,ifs,0⟩] scope pos) 0 (.ref it) (.ref D) B.env)
   (compPost (model X.prog X.w) X.A X.xe use Q (.ref D) s3.heap.objs.size) s5:=by
  rintro s5 rfl
  refine Bo (fun n s'=>∃i σ' H' ρ' acc,n+i=xs.length∧Inv B [] σ' H' s'∧tn i s'.heap∧(∀b∈fp,H' b=none)∧σ'.drop Nt.length=bT fi σ∧REnv X.K Pr H' (some (.ref D)::(σ++σ')) (.own D acc::(bg fi ρ2++ρ'))∧acc.length≤i ∧
   d4 g ti te (xs.drop i) ρ' acc fun ys ρb=>∀a,post (.own a ys) (fX fi (ρb.drop Nt.length) (bg fi ρ2))) ?_ xs.length
   ⟨0,_,_,_,[],by omega,I4,T.keep 0 _ _ st2 fun b hb o e=>old4 b o (old3 b o e),fun b hb=>by rw[aL (fpD b hb)];exact(f2 b hb).1,by simp,E4,Nat.le_refl _,by simpa using w0⟩
  rintro n s6 ⟨i,σ6,H6,ρ6,acc,hn,I6,st6,fr6,dr6,E6,hal,w6⟩
  have pr:Pres H2 H6:=fun b o p e=>by
   have ne:b≠D:=fun z=>by rw[z,fD]at e;cases e
   have e':B.H₀ b=some o:=by show upd H2 D (.lst []) b=some o;rw[aL ne];exact e
   cases o with
   |tup ys=>exact I6.base.tups b ys e'
   |frz ob u=>exact I6.base.frzs b ob u e'
   |tbl t=>exact I6.base.tbls b t e'
   |_=>exact p.elim
  obtain⟨go,stop⟩:=G H6 pr
  have hτ:(some (V.ref D)::σ).length=(L.own D acc::bg fi ρ2).length:=by simp[hul]
  by_cases hlt:i<xs.length
  ·
   obtain⟨hgo,hy⟩:=go i xs[i] (List.getElem?_eq_getElem hlt)
   rw[List.drop_eq_getElem_cons hlt]at w6
   refine thn (T.item B rfl rfl rfl hc i [] s6 σ6 H6 (fun _ _=>False) I6 (stat fr6) st6 hgo) fun r s7 ⟨u,hr,h7⟩=>?_
   subst hr
   refine thn h7 fun _ s8 ⟨x,H8,I8,r8,y8,st8,fr8⟩=>?_
   obtain⟨gr,rx⟩:=hy x H8 y8
   have I8':=I8.pinned (stat fr8) (T.obj _ _ st8)
   have E8:=E6.grown gr
   have E8a:REnv X.K (bp H8 ρ6) H8 σ6 ρ6:=(REnv.drop (τ:=some (V.ref D)::σ) (lam:=L.own D acc::bg fi ρ2) E8 hτ).wide
   obtain⟨gg,hgg,hgs⟩:=hg (clOf X.env.cells scope.names []) s3 (upd H2 D (.lst [])) fp
   refine thn (hgg _ s8 σ6 H8 x u _ I8' r8 (hgs x σ6 H8 _ ρ6 xs[i] _ I8.len E8a rx w6)) fun _ s9 ⟨σ9,H9,I9,e9,dr9,ρ9,E9,q9⟩=>?_
   subst e9
   have F9:REnv X.K Pr H9 (some (V.ref D)::(σ++σ9)) (L.own D acc::(bg fi ρ2++ρ9)):=REnv.step (τ:=some (V.ref D)::σ) (lam:=L.own D acc::bg fi ρ2) (w:=[]) (μ:=[]) E8 hτ E9 rfl
   have F9a:REnv X.K (bp H9 ρ9) H9 σ9 ρ9:=(REnv.drop (τ:=some (V.ref D)::σ) (lam:=L.own D acc::bg fi ρ2) F9 hτ).wide
   refine thn (hti _ _ _ _ _ s9 σ9 H9 _ ρ9 _ I9 F9a q9) fun ok sA ⟨HA,ρA,IA,EA,qA⟩=>?_
   have FA:REnv X.K Pr HA (some (V.ref D)::(σ++σ9)) (L.own D acc::(bg fi ρ2++ρA)):=REnv.step (τ:=some (V.ref D)::σ) (lam:=L.own D acc::bg fi ρ2) (w:=[]) (μ:=[]) F9 hτ EA rfl
   have again:∀{sZ:Shared}{HZ:Hp}{ρZ:Ev}{acc':List L2.D},Inv B ([]++uK fp s8.heap) σ9 HZ sZ→REnv X.K Pr HZ (some (.ref D)::(σ++σ9)) (.own D acc'::(bg fi ρ2++ρZ))→acc'.length≤i+1 →
     (d4 g ti te (xs.drop (i+1)) ρZ acc' fun ys ρb=>∀a,post (.own a ys) (fX fi (ρb.drop Nt.length) (bg fi ρ2)))→∃m,m<n∧∃i σ' H' ρ' acc,m+i=xs.length∧Inv B [] σ' H' sZ∧tn i sZ.heap∧(∀b∈fp,H' b=none)∧σ'.drop Nt.length=bT fi σ ∧
     REnv X.K Pr H' (some (.ref D)::(σ++σ')) (.own D acc::(bg fi ρ2++ρ'))∧acc.length≤i∧d4 g ti te (xs.drop i) ρ' acc fun ys ρb=>∀a,post (.own a ys) (fX fi (ρb.drop Nt.length) (bg fi ρ2)):=fun {sZ HZ ρZ acc'} IZ EZ hz qZ=>by
    refine⟨n-1,by omega,i+1,σ9,HZ,ρZ,acc',by omega,IZ.unpinned,T.keep _ _ _ st8 fun b hb o e=>(IZ.pin (b,o) (List.mem_append_right _ (List.mem_append_right _ (jz hb e)))).1,fun b hb=>?_,dr9.trans dr6,EZ,hz,qZ⟩
    obtain⟨o,e,d⟩:=T.obj _ _ st8 b hb
    exact(IZ.pin (b,o) (List.mem_append_right _ (List.mem_append_right _ (jz hb e)))).2.1
   cases ok with
   | false =>
    rw[if_neg Bool.false_ne_true]at qA ⊢
    exact again IA FA (by omega) qA
   | true =>
    rw[if_pos rfl]at qA ⊢
    have FAa:REnv X.K (bp HA ρA) HA σ9 ρA:=(REnv.drop (τ:=some (V.ref D)::σ) (lam:=L.own D acc::bg fi ρ2) FA hτ).wide
    refine thn (hte _ _ _ _ _ sA σ9 HA _ ρA _ IA FAa qA) fun ux sB qB=>?_
    obtain⟨vy,HB,y,ρB,IB,rB,EB,qB⟩:=EL.frz (X:=B) (post:=fun y ρ3=>d4 g ti te (xs.drop (i+1)) ρ3 (acc++[y]) fun ys ρb=>∀a,post (.own a ys) (fX fi (ρb.drop Nt.length) (bg fi ρ2))) qB
    have FB:REnv X.K Pr HB (some vy::(some (V.ref D)::(σ++σ9))) (.d y::(L.own D acc::(bg fi ρ2++ρB))):=REnv.step (τ:=some (V.ref D)::σ) (lam:=L.own D acc::bg fi ρ2) (w:=[some vy]) (μ:=[.d y]) FA hτ EB rfl
    obtain⟨_,e1,p1⟩:=FB.head_d
    cases e1
    have slB:=FB.tail.sl
    cases slB with
    | cons q0 _ =>
     obtain⟨_,vs,hDB,rvs⟩:=q0
     refine thn (uT (X:=B) _ sB σ9 HB (.ref D) [vy] (.ref D) [ux] (fun z H'=>H'=upd HB D (.lst (vs++[vy]))) IB rfl (.cons rB .nil) ⟨D,vs,vy,rfl,rfl,hDB,by rw[rvs.length];omega,rfl⟩) fun _ sC ⟨z,HC,IC,_,eC⟩=>?_
     subst eC
     exact again IC (FB.tail.write (rvs.append (.cons p1 .nil))) (by simp;omega) qB
  ·
   have e:i=xs.length:=by omega
   subst e
   refine thn (T.done B rfl rfl rfl hc xs.length [] s6 σ6 H6 (fun _ _=>False) I6 (stat fr6) st6 stop) fun r s7 ⟨hr,I7⟩=>?_
   subst hr
   rw[List.drop_length]at w6
   obtain⟨m,hm,_⟩:=id I7.loc
   have I8:Inv X pins σ H6 s7:=I3.call' (ch:=fp) I7.os I7.base I7.hok I7.bare fun b hb=>⟨(f2 b hb).2.2.2.1,(f2 b hb).2.1,(f2 b hb).2.2.2.2.1,(f2 b hb).2.2.2.2.2⟩
   have f4:=I3.fpOk (H':=H6) (b:=s3.heap.objs.size) (Nat.le_refl _) I7.free
   ·
    have hlen6:σ6.length=ρ6.length:=(REnv.drop (τ:=some (V.ref D)::σ) (lam:=L.own D acc::bg fi ρ2) E6 hτ).len
    have a1:REnv X.K Pr H6 (bT fi σ++(σ++[some (V.ref D)])) (ρ6.drop Nt.length++(bg fi ρ2++[L.own D acc])):=by
     have hcd:(bT fi σ).length=(ρ6.drop Nt.length).length:=by rw[← dr6,List.length_drop,List.length_drop,hlen6]
     refine E6.rearr (by simp[hcd,hul,hlen6]) ((σ6.take Nt.length).zip (ρ6.take Nt.length)) ?_
     have l0:σ6.zip ρ6=(σ6.take Nt.length).zip (ρ6.take Nt.length)++(bT fi σ).zip (ρ6.drop Nt.length):=by
      rw[← dr6,← List.zip_append (by simp[hlen6]),List.take_append_drop,List.take_append_drop]
     have l1:(some (V.ref D)::(σ++σ6)).zip (L.own D acc::(bg fi ρ2++ρ6))=(some (V.ref D),L.own D acc)::(σ.zip (bg fi ρ2)++σ6.zip ρ6):=by rw[List.zip_cons_cons,List.zip_append hul]
     have l2:(bT fi σ++(σ++[some (V.ref D)])).zip (ρ6.drop Nt.length++(bg fi ρ2++[L.own D acc]))=(bT fi σ).zip (ρ6.drop Nt.length)++(σ.zip (bg fi ρ2)++[(some (V.ref D),L.own D acc)]):=by
      rw[List.zip_append hcd,List.zip_append hul];rfl
     rw[l1,l2,l0]
     generalize (bT fi σ).zip (ρ6.drop Nt.length)=z1
     generalize σ.zip (bg fi ρ2)=z2
     generalize (σ6.take Nt.length).zip (ρ6.take Nt.length)=z3
     have p1:((some (V.ref D),L.own D acc)::(z2++(z3++z1))).Perm ((z2++[(some (V.ref D),L.own D acc)])++(z3++z1)):=by
      rw[List.append_assoc]
      exact List.perm_middle.symm
     refine p1.trans ?_
     have p2:((z2++[(some (V.ref D),L.own D acc)])++(z3++z1)).Perm ((z3++z1)++(z2++[(some (V.ref D),L.own D acc)])):=List.perm_append_comm
     refine p2.trans ?_
     rw[List.append_assoc]
     exact List.perm_append_comm
    have a2:=REnv.backs (σ:=σ++[some (V.ref D)]) (cs:=ρ6.drop Nt.length) (ρ:=bg fi ρ2++[L.own D acc]) fi hnd (by rw[List.length_drop,← hlen6,← List.length_drop,dr6];simp[bT]) (fun j hj=>by
     rw[List.getElem?_append_left (by rw[eI];exact hjρ j hj)];exact yO fi ρ2 j hj (hjρ j hj)) (fun j hj=>by have:=hjσ j hj;simp;omega) (by rw[u6 hjσ];exact a1)
    rw[rA fun j hj=>by rw[eI];exact hjρ j hj]at a2
    have hpl:σ.length=(fX fi (ρ6.drop Nt.length) (bg fi ρ2)).length:=by have:=a2.len;simpa using this
    refine hRR D s3.heap.objs.size s7 H6 acc (fX fi (ρ6.drop Nt.length) (bg fi ρ2)) m I8 hm f4.1 f4.2.1 I3.sz f4.2.2.2.2.1 f4.2.2.2.2.2 (a2.rearr (by simp[hpl]) [] ?_) (w6 D)
    rw[List.append_nil,List.zip_append hpl,List.zip_cons_cons]
    exact List.perm_append_comm (l₂:=[(some (V.ref D),L.own D acc)])
 exact codeAny_compStart_list (loop _ rfl) (T.self _ 0 _ _ _ (T.keep 0 _ _ st2 fun b hb o e=>old4 b o (old3 b o e)) (loop _ rfl))
theorem cY{elt tg iter:Expr}{ifs:List Expr}{scope sc:Scope}{pos:Pos}{N Nt Nf:List Str}{fi:List Nat}{src:W (List D)}{g:Tg}{ti:W Bool}{te:W L}
  (hsc:X.env.scope=sc) (hXN:X.N=N) (hc:X.calm=true) (hi:PIL X tg iter src)
  (hkind:scope.kind=.function) (hnames:∀x∈scope.names,x.2=.local→scope.names.lookup x.1=some .local) (hcell:∀y∈scope.names,y.2≠.cell)
  (hfr:∀x∈scope.names,x.2=.free→sc.names.lookup x.1=some .cell∨sc.names.lookup x.1=some .free)
  (hnd:fi.Nodup) (hNf:Nf.map some=fi.map (fun j=>N[j]?)) (hNk:∀x∈Nf,scope.names.lookup x=some .free) (hfl:∀j∈fi,j<N.length)
  (hg:∀cl s₀ H₀ fp,PTc (ip X scope cl (Nt++Nf) s₀ H₀ fp) tg Nt.length g) (hti:∀cl s₀ H₀ fp,PIf (ip X scope cl (Nt++Nf) s₀ H₀ fp) ifs ti) (hte:∀cl s₀ H₀ fp,PL (ip X scope cl (Nt++Nf) s₀ H₀ fp) elt te)
  (hs:∀x,foldedSetIterable iter X.env x=pure x:=by intro _;rfl):PL X (.ListComp elt [⟨tg,iter,ifs,0⟩] scope pos) (fG Nt.length fi src g ti te):=by
 intro pins s σ H Pr ρ post I E h
 rw[eval_ListComp]
 refine u9 (use:=none) hsc hXN hc hi hkind hnames hcell hfr hnd hNf hNk hfl hg hti hte I E h (fun D C s7 H6 acc ρ'' m I7 hm h1 h2 h3 h4 h5 E7 p=>?_) hs
 exact⟨m,hm,fun h' hsb=>⟨.ref D,H6,_,ρ'',I7.turned (t':=s7.toks) (fun b o hb e=>(hsb.2 b hb).trans e) h1 (Ne.symm (Ne.symm h2)) (.inr h3) h4 h5,rfl,E7,p⟩⟩
theorem wX{elt tg iter:Expr}{ifs:List Expr}{scope sc:Scope}{pos spos py:Pos}{y:Str}{j:Nat}{N Nt Nf:List Str}{fi:List Nat}{src:W (List D)}{g:Tg}{ti:W Bool}{te:W L}
  (hN:X.N.Nodup) (hj:X.N[j]?=some y) (hy:Loc X.env.scope y)
  (hsc:X.env.scope=sc) (hXN:X.N=N) (hc:X.calm=true) (hi:PIL X tg iter src)
  (hkind:scope.kind=.function) (hnames:∀x∈scope.names,x.2=.local→scope.names.lookup x.1=some .local) (hcell:∀y∈scope.names,y.2≠.cell)
  (hfr:∀x∈scope.names,x.2=.free→sc.names.lookup x.1=some .cell∨sc.names.lookup x.1=some .free)
  (hnd:fi.Nodup) (hNf:Nf.map some=fi.map (fun j=>N[j]?)) (hNk:∀x∈Nf,scope.names.lookup x=some .free) (hfl:∀j∈fi,j<N.length)
  (hg:∀cl s₀ H₀ fp,PTc (ip X scope cl (Nt++Nf) s₀ H₀ fp) tg Nt.length g) (hti:∀cl s₀ H₀ fp,PIf (ip X scope cl (Nt++Nf) s₀ H₀ fp) ifs ti) (hte:∀cl s₀ H₀ fp,PL (ip X scope cl (Nt++Nf) s₀ H₀ fp) elt te)
  (hsw:swapsWith (.ListComp elt [⟨tg,iter,ifs,0⟩] scope pos) (some (.Name y py)) spos.line X.env=pure true:=by rfl) (hf:X.fn y=true∨X.env.scope.names.lookup y=some .local:=by first|exact .inl rfl|exact .inr rfl|assumption)
  (hs:∀x,foldedSetIterable iter X.env x=pure x:=by intro _;rfl):PM X (.Assign [.Name y py] (.ListComp elt [⟨tg,iter,ifs,0⟩] scope pos) spos) (wSet j (fG Nt.length fi src g ti te)):=by
 intro pins s σ H Pr ρ post I E h
 rw[exec_Assign_Name_used _ _ _ _ hsw]
 refine wpAny_bind (wpAny_standAt (wpAny_bind ?_))
 show wpAny _ X.A (do let _ ← comprehension (.ListComp elt [⟨tg,iter,ifs,0⟩] scope pos) scope X.env (firstIterPos [⟨tg,iter,ifs,0⟩] pos) (newList []) false (eval iter X.env) (some (assign (.Name y py) X.env))) _ _ s
 refine wpAny_bind (thn (u9 (use:=some (assign (.Name y py) X.env)) (Q:=fun _ s'=>SM X pins Pr post .next s') (post:=fun r ρ1=>post .nx (ρ1.set j r)) hsc hXN hc hi hkind hnames hcell hfr hnd hNf hNk hfl hg hti hte I E h (fun D C s7 H6 acc ρ'' m I7 hm h1 h2 h3 h4 h5 E7 p=>?_) hs) fun _ s' hq=>wpAny_pure (wpAny_pure hq))
 show wpAny _ X.A (assign (.Name y py) X.env (.ref D)) _ _ _
 refine wpAny_assign_Name (uJ (v:=.ref D) I7 hN hj hy rfl (fun s8 I8 ⟨a,sb,ha⟩=>?_) hf)
 have hCa:C≠a:=by
  rcases ha with z|z
  ·
   rw[z];exact h2
  ·
   exact fun q=>h4 y a z q.symm
 refine⟨m,hm.sameBut sb hCa,fun h' hsb=>⟨_,H6,_,I8.turned (t':=s8.toks) (fun b o hb e=>(hsb.2 b hb).trans e) h1 h2 (.inr h3) h4 h5,E7.store (by rw[I7.len];exact(List.getElem?_eq_some_iff.mp hj).1),p⟩⟩
end
section
variable{X:Cx}{e a b:Expr}{pos:Pos}{ta tb te:W L}{x y:Str}
def wPar(i j:Nat)(ta tb:W L):W Fl:=fun ρ post=>ta ρ fun r ρ1=>toD r fun v=>tb ρ1 fun r2 ρ2=>toD r2 fun w=>post .nx ((ρ2.set i (.d v)).set j (.d w))
theorem Iv{i j:Nat}{px py pt:Pos} {kt k2 pt2} (hc:X.calm=true) (hN:X.N.Nodup) (hi:X.N[i]?=some x) (hj:X.N[j]?=some y) (hij:i≠j)
  (hx:X.env.scope.names.lookup x=some .local) (hy:X.env.scope.names.lookup y=some .local) (ha:PL X a ta) (hb:PL X b tb)
  (hw:swappedStores [.Tuple [.Name x px,.Name y py] kt pt] (.Tuple [a,b] k2 pt2) X.env=pure (some [x,y]))
  (hs:swapsWithSole [.Tuple [.Name x px,.Name y py] kt pt] (.Tuple [a,b] k2 pt2) pos.line X.env=pure false:=by rfl)
  (h1:starEach [a,b] X.env=(false,eval a X.env)::starEach [b] X.env:=by rfl) (h2:starEach [b] X.env=[(false,eval b X.env)]:=by rfl) :
  PM X (.Assign [.Tuple [.Name x px,.Name y py] kt pt] (.Tuple [a,b] k2 pt2) pos) (wPar i j ta tb):=by
 refine PM.of (HJ hc hN hi hj hij hx hy (eG (au ha).pe (eG (au hb).pe nG h2) h1) hw hs) fun σ H Pr ρ post hlen E h=>?_
 refine⟨Pr,ρ,fun r ρ1=>match r with
  |.d v=>tb ρ1 fun r2 ρ2=>toD r2 fun w=>post .nx ((ρ2.set i (.d v)).set j (.d w))
  |_=>False,E,h,fun v H1 r ρ1 E1 pp=>?_⟩
 cases r with
 | d dv =>
  refine⟨bp H1 ρ1,ρ1,fun r ρ2=>match r with
   |.d w=>post .nx ((ρ2.set i (.d dv)).set j (.d w))
   |_=>False,E1.tail.wide,pp,fun w H2 r2 ρ2 E2 pp=>?_⟩
  cases r2 with
  | d dw =>
   have E3:REnv X.K Pr H2 (some w::some v::σ) (.d dw::.d dv::ρ2):=REnv.step (τ:=[some v]) (lam:=[.d dv]) (w:=[some w]) (μ:=[.d dw]) E1 rfl E2 rfl
   have il:i<σ.length:=by rw[hlen];exact(List.getElem?_eq_some_iff.mp hi).1
   have jl:j<σ.length:=by rw[hlen];exact(List.getElem?_eq_some_iff.mp hj).1
   obtain⟨_,e1,r1⟩:=E3.head_d
   cases e1
   have E4:REnv X.K Pr H2 (σ.set i (some v)) (ρ2.set i (.d dv)):=E3.tail.store il
   exact⟨v,w,rfl,_,(E4.cons_d r1).store (by simpa using jl),pp⟩
  |_=>exact pp.elim
 |_=>exact pp.elim
def Bp(is:List Nat)(te:W L):W Fl:=fun ρ post=>te ρ fun r ρ1=>toD r fun v=>fF is v ρ1 fun ρ2=>post .nx ρ2
theorem wY{tg:Expr}{is:List Nat}(hg:PT1 X tg (fF is))(he:PL X e te)(hs:swapsWithSole [tg] e pos.line X.env=pure false:=by rfl)(hw:swappedStores [tg] e X.env=pure none:=by rfl)
  (h1:(assignEach [tg] X.env).map (·.2)=[assign tg X.env]:=by rfl):PM X (.Assign [tg] e pos) (Bp is te):=by
 intro pins s σ H Pr ρ post I E h
 obtain⟨gg,hg,hgg⟩:=hg
 refine wpAny_Assign_stores (thn (he pins s σ H Pr ρ _ I E h) fun v s1 q=>?_) hs hw
 obtain⟨w,H1,d,ρ1,I1,r1,E1,q1⟩:=EL.frz (post:=fun d ρ1=>fF is d ρ1 fun ρ2=>post .nx ρ2) q
 rw[h1]
 obtain⟨_,e1,p1⟩:=E1.head_d
 cases e1
 exact thn (hg pins s1 σ H1 w v _ I1 r1 (hgg w σ H1 Pr ρ1 d _ I1.len E1.tail p1 q1)) fun _ s2 ⟨σ',H',I',e',_,ρ',E',q⟩=>by
  subst e'
  exact⟨σ',_,ρ',I',E',q⟩
def oY:D→Bool
 |.non=>true | .bl _=>true | .int _=>true | .str _=>true
 |_=>false
def eqF:D→D→Bool
 |.non,.non=>true
 |.bl a,.bl b=>a == b
 |.bl a,.int b=>(if a then 1 else 0) == b
 |.int a,.bl b=>a == (if b then 1 else 0)
 |.int a,.int b=>a == b
 |.str a,.str b=>a == b
 |_,_=>false
theorem sx{K:PySem.W.Frag}{H:Hp}{v:V}{d:D}(r:Rep K H v d)(h:oY d=true):qI v=true:=by
 cases r<;>first|rfl|(exact absurd h (by simp[oY]))
theorem Iw{K:PySem.W.Frag}{H:Hp}{v w:V}{d f:D}(r:Rep K H v d)(q:Rep K H w f)(h:oY d=true)(h':oY f=true):eqV v w=eqF d f:=by
 cases r<;>cases q<;>first|rfl|(exact absurd h (by simp[oY]))|(exact absurd h' (by simp[oY]))
def inF(x:D)(ys:List D):Bool:=ys.any fun y=>eqF y x
theorem Bq{K:PySem.W.Frag}{H:Hp}{v:V}{x:D}(r:Rep K H v x)(h:oY x=true):∀{vs:List V}{ys:List D},Reps K H vs ys→ys.all oY=true→inV v vs=inF x ys∧vs.all qI=true
 |_,_,.nil,_=>⟨rfl,rfl⟩
 | _,_,.cons r0 t,ha=>by
  rw[List.all_cons,Bool.and_eq_true]at ha
  obtain⟨i1,i2⟩:=Bq r h t ha.2
  unfold inV inF at i1 ⊢
  rw[List.any_cons,List.any_cons,List.all_cons,i1,Iw r0 r ha.1 h,sx r0 ha.1,i2]
  exact⟨rfl,rfl⟩
def Gm(neg:Bool):Op2:=fun x y k=>oY x=true∧iz y fun ys=>ys.all oY=true∧k (.d (.bl (if neg then !inF x ys else inF x ys)))
theorem JO:OpD X (compareOp .In) (Gm false):=OpD.of A3 fun σ H Pr ρ x y dx dy post E px py ⟨hx,h⟩=>by
 cases py with
 | lst hz rs =>
  obtain⟨ha,h⟩:=h
  obtain⟨i1,i2⟩:=Bq px hx rs ha
  exact⟨_,_,rfl,.inl hz.l,sx px hx,i2,_,E.cons_d (.bl _),by rw[i1];exact h⟩
 | tup hz rs =>
  obtain⟨ha,h⟩:=h
  obtain⟨i1,i2⟩:=Bq px hx rs ha
  exact⟨_,_,rfl,.inr hz,sx px hx,i2,_,E.cons_d (.bl _),by rw[i1];exact h⟩
 |_=>exact h.elim
def PO'(X:Cx)(lo:Option Expr)(t:Option (W L)):Prop:=match lo,t with
 |none,none=>True
 |some e,some t=>PL X e t
 |_,_=>False
theorem va{K:PySem.W.Frag}{H:Hp}{vs:List V}{xs:List D}(r:Reps K H vs xs)(l u:Option Int):Reps K H (cutV vs l u) (cutD xs l u):=by
 unfold cutV cutD
 rw[r.length]
 exact(r.drop _).take _
def tPO(K:PySem.W.Frag)(t:Option (W L)):TO:=fun σ H Q=>∃Pr ρ post,REnv K Pr H σ ρ∧zY t ρ post∧∀i H' ρ',REnv K Pr H' σ ρ'→post i ρ'→Q i H'
theorem Iy{lo:Option Expr}{t:Option (W L)}(h:PO' X lo t):PO X lo (tPO X.K t):=by
 cases lo with
 | none =>
  cases t with
  | none =>
   intro pins s σ H Q I ⟨Pr,ρ,post,E,hw,q⟩
   exact FP pins s σ H Q I (q none H ρ E hw)
  |some t=>exact h.elim
 | some e =>
  cases t with
  |none=>exact h.elim
  | some t =>
   intro pins s σ H Q I ⟨Pr,ρ,post,E,hw,q⟩
   refine FQ (PL.pe (show PL X e t from h)) pins s σ H Q I ⟨Pr,ρ,_,E,hw,fun v H' r ρ' E' pp=>?_⟩
   obtain⟨i,rfl,pp⟩:=ee pp
   obtain⟨_,e1,p1⟩:=E'.head_d
   cases e1
   cases p1
   exact⟨i,rfl,q (some i) H' ρ' E'.tail pp⟩
end
def selW{α:Type}(o:Option L)(t u:W α)(ρ:Ev)(post:α→Ev→Prop):Prop:=match o with
 |some (.own _ _)=>t ρ post
 |_=>u ρ post
def fZ{α:Type}(i:Nat)(t u:W α):W α:=fun ρ post=>selW ρ[i]? t u ρ post
theorem DH{α:Type}(a:Addr)(xs:List D)(t u:W α)(ρ:Ev)(post:α→Ev→Prop):selW (some (.own a xs)) t u ρ post=t ρ post:=(rfl)
theorem Iz{α:Type}(x:D)(t u:W α)(ρ:Ev)(post:α→Ev→Prop):selW (some (.d x)) t u ρ post=u ρ post:=(rfl)
theorem Gn{α:Type}(a:Option Addr)(ls:List L)(t u:W α)(ρ:Ev)(post:α→Ev→Prop):selW (some (.bx a ls)) t u ρ post=u ρ post:=(rfl)
theorem jZ{X:Cx}{e:Expr}{i:Nat}{t u:W L}(h:PL X e t)(h':PL X e u):PL X e (fZ i t u):=fun pins s σ H Pr ρ post I E q=>by
 unfold fZ selW at q
 split at q
 ·
  exact h pins s σ H Pr ρ post I E q
 ·
  exact h' pins s σ H Pr ρ post I E q
theorem Gp{K:PySem.W.Frag}{c:Str}{C:Addr}{T:String}(h:oR K c C=true)(hm:PySem.W.kitMeta T=true):PySem.W.kitOne K (.ref C) (.type T)=some ((["ValueError","Exception","BaseException","object"]:List String).contains T):=by
 obtain⟨L,cd,S⟩:=oS h
 unfold PySem.W.kitOne PySem.W.kitCls
 rw[if_neg (show ¬((Value.ref C == Value.type T)=true)from fun z=>by cases z)]
 dsimp only
 rw[if_pos hm]
 show PySem.W.mroIn K C (.type T)=_
 rw[S.mroIn,oT]
theorem yQ{T:String}(h0:∀K d,(∀c ns xs,d≠.exc c ns xs)→PySem.W.kitOne K (tyD d) (.type T)=some (isTy T d))(hm:PySem.W.kitMeta T=true):∀K d t,TyD K d t→PySem.W.kitOne K t (.type T)=some (isTy T d):=by
 intro K d t h
 cases d with
 | exc c ns xs =>
  obtain⟨C,e,h⟩:=h
  rw[e]
  exact Gp h hm
 |_=>cases h;exact h0 K _ (fun _ _ _ z=>nomatch z)
theorem Br:∀ K d t,TyD K d t→PySem.W.kitOne K t (.type "int")=some (isTy "int" d):=yQ (fun K d hd=>by cases d <;> first | rfl | exact absurd rfl (hd _ _ _)) (by decide +kernel)
theorem sy:∀ K d t,TyD K d t→PySem.W.kitOne K t (.type "bool")=some (isTy "bool" d):=yQ (fun K d hd=>by cases d <;> first | rfl | exact absurd rfl (hd _ _ _)) (by decide +kernel)
theorem yR:∀ K d t,TyD K d t→PySem.W.kitOne K t (.type "list")=some (isTy "list" d):=yQ (fun K d hd=>by cases d <;> first | rfl | exact absurd rfl (hd _ _ _)) (by decide +kernel)
theorem iC:∀ K d t,TyD K d t→PySem.W.kitOne K t (.type "tuple")=some (isTy "tuple" d):=yQ (fun K d hd=>by cases d <;> first | rfl | exact absurd rfl (hd _ _ _)) (by decide +kernel)
def Bs(K:PySem.W.Frag)(mg:Str→Option Value)(x:Str)(d:D):Prop:=∃v u,mg x=some u∧RelV v u∧∀H,Rep K H v d
theorem pl_G{X:Cx}{x:Str}{d:D}{pos:Pos}(g:Bs X.K X.mg x d)(hg:Gl X x) (hdb:(x == ("__debug__" : Str))=false:=by decide):PL X (.Name x pos) (wC d):=by
 obtain⟨v,u,h1,h2,h3⟩:=g
 exact F8 hg h1 h2 h3 hdb
def JP(o:Obj)(d:D):Prop:=∃ its n vs ds,d=.tup ds∧o.cls=.type "tuple"∧o.data=.seq its n∧its.size≤sizeLine∧Vals vs its.toList∧∀ K H,Reps K H vs ds
theorem DI{K:PySem.W.Frag}{mg:Str→Option Value}{x:Str}{d:D}{l:Addr}{o:Obj}(h1:mg x=some (.ref l))(h2:K.lookup l=some o)(h3:JP o d):Bs K mg x d:=by
 obtain⟨its,n,vs,ds,rfl,hc,hd,hz,hv,hr⟩:=h3
 exact⟨.ref l,_,h1,rfl,fun H=>.tup (.inr ⟨o,its,n,h2,hc,hd,hz,hv⟩) (hr K H)⟩
theorem DJ{K:PySem.W.Frag}{mg:Str→Option Value}{x:Str}{s:Str}{t:Tok}(h1:mg x=some (.str s t)):Bs K mg x (.str s):=⟨.str s,_,h1,⟨t,rfl⟩,fun H=>.str s⟩
theorem oZ{K:PySem.W.Frag}{H:Hp}:∀ns:List Int,Reps K H (ns.map V.int) (ns.map D.int)
 |[]=>.nil
 |n::ns=>.cons (.int n) (oZ ns)
theorem Bt{K:PySem.W.Frag}{H:Hp}{a:Addr}{ns:List Int}{fs:FS}{n:Nat}(hl:ns.length≤n)(hO:Only H)(hS:SqL K H a (ns.map V.int))(h:fs [.d (.lst (ns.map .int))] (fun r _=>r=.d (.bl true))):spF K 1 fs [.ref a] H (fun v _=>v=.bl true) fun _ _ _=>False:=by
 have hz:SqZ K H a (ns.map V.int):=by
  rcases hS with(h|⟨o,h⟩)|h
  ·
   rcases hO a with z|⟨o,xs,z⟩|⟨q,z⟩
   ·
    rw[z]at h;cases h
   ·
    rw[z]at h;cases h
   ·
    rw[z]at h;cases h
  ·
   exact .inl ⟨o,h⟩
  ·
   exact .inr h
 refine⟨rfl,fun _=>none,[.d (.lst (ns.map .int))],_,⟨(fun b o e=>nomatch e),(show([]:List Addr).Nodup from List.nodup_nil),(fun a h=>absurd (show a∈([]:List Addr)from h) (by simp)),.cons ⟨.ref a,rfl,.lst hz (oZ ns)⟩ .nil⟩,h,fun v H' r ls' E p=>?_⟩
 subst p
 obtain⟨_,e,r⟩:=E.head_d
 cases e
 cases r
 rfl
section
variable{X:Cx}
def z4:Op2:=fun x y k=>match y with
 |.non=>k (.d (.bl (match x with | .non=>true|_=>false)))
 |_=>False
theorem Bu:OpD X (compareOp .Is) z4:=Iq.imp fun x y k h=>by
 unfold z4 at h
 split at h
 ·
  exact⟨rfl,h⟩
 ·
  exact h.elim
end
end L2
namespace L2
open PySem
theorem yS(a b:Int):Int.gcd b (a.fmod b)=Int.gcd a b:=by
 rw[Int.fmod_def,Int.gcd_sub_mul_left_right,Int.gcd_comm]
theorem j2(a:Int){b:Int}(h:b≠0):(a.fmod b).natAbs<b.natAbs:=by
 rw[Int.fmod_eq_emod]
 have h1:=Int.emod_nonneg a h
 have h2:a % b<(b.natAbs:Int):=Int.emod_lt a h
 split
 ·
  omega
 ·
  rename_i q
  have:a % b≠0:=fun e=>q (.inr (Int.dvd_of_emod_eq_zero e))
  omega
def frD(q:Rat):D:=.tup [.int q.num,.int (q.den:Int)]
theorem wZ{t b:Int}(h:b≠0):0<Int.gcd t b:=Int.gcd_pos_of_ne_zero_right _ h
def cw(t b:Int):Int:=if b<0 then -(Int.gcd t b:Int)else(Int.gcd t b:Int)
theorem yT{t b:Int}(h:b≠0):cw t b≠0:=by
 have:=wZ (t:=t) h
 unfold cw
 split<;>omega
theorem Bv(t b:Int):(cw t b).natAbs=Int.gcd t b:=by
 unfold cw
 split<;>omega
theorem yU{t b:Int}(h:b≠0):(cw t b).natAbs≤b.natAbs:=by
 rw[Bv]
 exact Nat.le_of_dvd (by omega) (by have:=Int.gcd_dvd_right t b;exact Int.natAbs_dvd_natAbs.mpr this |> fun q=>by simpa using q)
theorem o5{a g:Int}(hg:g≠0)(h:g∣a):a.fdiv (-g)=-(a / g):=by
 obtain⟨k,rfl⟩:=h
 rw[Int.mul_ediv_cancel_left _ hg,show g*k=(-g)*(-k) by rw[Int.neg_mul_neg],Int.mul_fdiv_cancel_left _ (by omega)]
theorem Bw{t b:Int}(h:b≠0):t.fdiv (cw t b)=(Rat.divInt t b).num:=by
 have hg:=wZ (t:=t) h
 have hd:(Int.gcd t b:Int)∣t:=Int.gcd_dvd_left t b
 rw[Rat.num_divInt,Int.gcd_comm b t]
 unfold cw
 split
 ·
  rename_i hb
  rw[o5 (by omega) hd,Int.sign_eq_neg_one_of_neg hb,Int.neg_one_mul,Int.neg_ediv_of_dvd hd]
 ·
  rename_i hb
  rw[Int.sign_eq_one_of_pos (by omega),Int.one_mul,Int.fdiv_eq_ediv_of_nonneg _ (by omega)]
theorem Gq{t b:Int}(h:b≠0):b.fdiv (cw t b)=((Rat.divInt t b).den:Int):=by
 have hg:=wZ (t:=t) h
 have hd:(Int.gcd t b:Int)∣b:=Int.gcd_dvd_right t b
 rw[Rat.den_divInt,if_neg h,Int.gcd_comm b t,Int.natCast_ediv]
 unfold cw
 split
 ·
  rename_i hb
  rw[o5 (by omega) hd,← Int.neg_ediv_of_dvd hd]
  congr 1
  omega
 ·
  rename_i hb
  rw[Int.fdiv_eq_ediv_of_nonneg _ (by omega)]
  congr 1
  omega
theorem yV{t b:Int}(h:b≠0):(Rat.divInt t b).den≤b.natAbs:=by
 rw[Rat.den_divInt,if_neg h]
 exact Nat.div_le_self _ _
theorem Fs{t b:Int}(h:b≠0):(Rat.divInt t b).num.natAbs≤t.natAbs:=by
 rw[← Bw h]
 exact PySem.natAbs_fdiv_le _ _
theorem den_pos(q:Rat):0<q.den:=Nat.pos_of_ne_zero q.den_nz
theorem vb(p q:Rat):Rat.divInt (p.num*(q.den:Int)+q.num*(p.den:Int)) ((p.den:Int)*(q.den:Int))=p+q:=by
 have hp:=den_pos p
 have hq:=den_pos q
 have:=Rat.divInt_add_divInt p.num q.num (d₁:=(p.den:Int)) (d₂:=(q.den:Int)) (by omega) (by omega)
 rw[Rat.num_divInt_den,Rat.num_divInt_den]at this
 exact this.symm
theorem Ft(p q:Rat):Rat.divInt (p.num*(q.den:Int)-q.num*(p.den:Int)) ((p.den:Int)*(q.den:Int))=p-q:=by
 have:=vb p (-q)
 rw[Rat.sub_eq_add_neg,← this]
 simp only[Rat.neg_num,Rat.neg_den,Int.neg_mul,Int.sub_eq_add_neg]
def RB(n:Nat)(q:Rat):Prop:=q.num.natAbs<2^n∧q.den<2^n
theorem RB.mono{m n:Nat}{q:Rat}(h:RB m q)(hl:m≤n):RB n q:=⟨Nat.lt_of_lt_of_le h.1 (Nat.pow_le_pow_right (by decide) hl),Nat.lt_of_lt_of_le h.2 (Nat.pow_le_pow_right (by decide) hl)⟩
theorem RB.neg{n:Nat}{q:Rat}(h:RB n q):RB n (-q):=⟨by rw[Rat.neg_num,Int.natAbs_neg];exact h.1,by rw[Rat.neg_den];exact h.2⟩
theorem RB.bn{n:Nat}{q:Rat}(h:RB n q)(hl:n≤1000000):bV q.num:=Nat.lt_of_lt_of_le h.1 (Nat.pow_le_pow_right (by decide) hl)
theorem RB.bd{n:Nat}{q:Rat}(h:RB n q)(hl:n≤1000000):bV (q.den:Int):=by
 unfold bV
 rw[Int.natAbs_natCast]
 exact Nat.lt_of_lt_of_le h.2 (Nat.pow_le_pow_right (by decide) hl)
theorem aP{a b m n:Nat}(h1:a<2^m)(h2:b<2^n):a*b<2^(m+n):=by
 rw[Nat.pow_add]
 exact Nat.mul_lt_mul'' h1 h2
theorem RB.add{m n:Nat}{p q:Rat}(hp:RB m p)(hq:RB n q):RB (m+n+1) (p+q):=by
 have dp:=den_pos p
 have dq:=den_pos q
 have hne:((p.den:Int)*(q.den:Int))≠0:=Int.mul_ne_zero (by omega) (by omega)
 rw[← vb p q]
 have a1:=aP hp.1 hq.2
 have a2:=aP hq.1 hp.2
 have a3:=aP hp.2 hq.2
 have e:(2:Nat)^(m+n+1)=2^(m+n)+2^(m+n):=by rw[Nat.pow_succ];omega
 rw[Nat.add_comm n m]at a2
 constructor
 ·
  refine Nat.lt_of_le_of_lt (Fs hne) ?_
  refine Nat.lt_of_le_of_lt (Int.natAbs_add_le _ _) ?_
  rw[Int.natAbs_mul,Int.natAbs_mul,Int.natAbs_natCast,Int.natAbs_natCast,e]
  omega
 ·
  refine Nat.lt_of_le_of_lt (yV hne) ?_
  rw[Int.natAbs_mul,Int.natAbs_natCast,Int.natAbs_natCast,e]
  omega
theorem z5(p q:Rat):(p+q).den≤p.den*q.den:=by
 have dp:=den_pos p
 have dq:=den_pos q
 have hne:((p.den:Int)*(q.den:Int))≠0:=Int.mul_ne_zero (by omega) (by omega)
 rw[← vb p q]
 have:=yV (t:=p.num*(q.den:Int)+q.num*(p.den:Int)) hne
 rw[Int.natAbs_mul,Int.natAbs_natCast,Int.natAbs_natCast]at this
 exact this
@[simp] theorem kA(i j:Int):eqD (.int i) (.int j)=decide (i=j):=by
 simp[eqD,toP,PyData.eqv]
 by_cases h:i=j<;>simp[h]
@[simp] theorem Gr(i j:Str):eqD (.str i) (.str j)=decide (i=j):=by
 simp[eqD,toP,PyData.eqv]
 by_cases h:i=j<;>simp[h]
@[simp] theorem ID(i j:Bool):eqD (.bl i) (.bl j)=decide (i=j):=by
 simp[eqD,toP,PyData.eqv]
 cases i<;>cases j<;>rfl
@[simp] theorem z6(i:Int):eH (.int i):=rfl
@[simp] theorem Bx(i:Bool):eH (.bl i):=rfl
@[simp] theorem z7:eH .non:=rfl
mutual
def okD:Nat→D→Bool
 |_,.non=>true
 |_,.bl _=>true
 |_,.int _=>true
 |_,.str x=>PyData.strOk x
 |0,.tup _=>false
 |0,.lst _=>false
 |n+1,.tup xs=>okDs n xs
 |n+1,.lst xs=>okDs n xs
 |_,.dct _=>false
 |_,.exc _ _ _=>false
 |_,.fn _ _=>false
def okDs:Nat→List D→Bool
 |_,[]=>true
 |n,x::xs=>okD n x && okDs n xs
end
mutual
theorem o6:∀(n:Nat)(d:D),okD n d=true→(toP d).canLay0=true∧(toP d).depth≤n
 |_,.non,_=>⟨rfl,Nat.zero_le _⟩
 |_,.bl _,_=>⟨rfl,Nat.zero_le _⟩
 |_,.int _,_=>⟨rfl,Nat.zero_le _⟩
 |_,.str x,h=>⟨by simpa[okD,toP,PyData.canLay0]using h,Nat.zero_le _⟩
 |0,.tup _,h=>by simp[okD]at h
 |0,.lst _,h=>by simp[okD]at h
 | n+1,.tup xs,h=>by
  obtain⟨h1,h2⟩:=sD n xs (by simpa[okD]using h)
  exact⟨h1,Nat.succ_le_succ h2⟩
 | n+1,.lst xs,h=>by
  obtain⟨h1,h2⟩:=sD n xs (by simpa[okD]using h)
  exact⟨h1,Nat.succ_le_succ h2⟩
 |_,.dct _,h=>by simp[okD]at h
 |_,.exc _ _ _,h=>by simp[okD]at h
 |_,.fn _ _,h=>by simp[okD]at h
theorem sD:∀(n:Nat)(ds:List D),okDs n ds=true→PyData.canLayAll0 (toPs ds)=true∧PyData.depthAll (toPs ds)≤n
 |_,[],_=>⟨rfl,Nat.zero_le _⟩
 | n,d::ds,h=>by
  have h':okD n d=true∧okDs n ds=true:=by simpa[okDs]using h
  obtain⟨a1,a2⟩:=o6 n d h'.1
  obtain⟨b1,b2⟩:=sD n ds h'.2
  exact⟨by simp[toPs,PyData.canLayAll0,a1,b1],by simp only[toPs,PyData.depthAll];omega⟩
end
theorem ft{n:Nat}{d:D}(h:okD n d=true)(hn:n≤64):eH d:=by
 obtain⟨h1,h2⟩:=o6 n d h
 unfold eH SeqAt.shaped
 rw[h1,decide_eq_true (by omega)]
 rfl
theorem w4(xs ys:List D):eqD (.tup xs) (.tup ys)=PyData.eqvAll (toPs xs) (toPs ys):=by simp[eqD,toP,PyData.eqv]
theorem By(xs ys:List D):eqD (.lst xs) (.lst ys)=PyData.eqvAll (toPs xs) (toPs ys):=by simp[eqD,toP,PyData.eqv]
theorem eM(x y:D)(xs ys:List D):PyData.eqvAll (toPs (x::xs)) (toPs (y::ys))=(eqD x y && PyData.eqvAll (toPs xs) (toPs ys)):=by simp[toPs,PyData.eqvAll,eqD]
theorem oB:PyData.eqvAll (toPs []) (toPs [])=true:=by simp[toPs,PyData.eqvAll]
theorem DK(q:Rat):eH (frD q):=ft (n:=1) (by simp[frD,okD,okDs]) (by decide)
theorem Fu(p q:Rat):eqD (frD p) (frD q)=decide (p=q):=by
 unfold frD
 rw[w4,eM,eM,oB,kA,kA,Bool.and_true]
 by_cases h:p=q
 ·
  subst h;simp
 ·
  rw[decide_eq_false h]
  by_cases h1:p.num=q.num
  ·
   have:¬((p.den:Int)=(q.den:Int)):=fun e=>h (Rat.ext h1 (by omega))
   simp[this]
  ·
   simp[h1]
end L2
namespace L2
open PySem PySem.Spec PyProof.Rows
section
variable{X:Cx}{a b c:Expr}{pos p:Pos}{ta tb tc:W L}
def nK(o o':Op2)(ta tb tc:W L):W L:=fun ρ post=>ta ρ fun r ρ1=>oe r fun i=>tb ρ1 fun r ρ2=>oe r fun j=>o (.int i) (.int j) fun z=>isBl z fun k=>if k=true then tc ρ2 fun r ρ3=>oe r fun l=>o' (.int j) (.int l) fun z=>post z ρ3 else post (.d (.bl false)) ρ2
def CmpI(X:Cx)(op:CmpOp)(o:Op2):Prop:=∃f:Int→Int→Bool,OpR X (compareOp op) (rI0 fun i j=>.bl (f i j))∧∀i j k,o (.int i) (.int j) k→k (.d (.bl (f i j)))
theorem Gs:CmpI X .Lt opLt:=⟨_,HQ,fun _ _ _ h=>h⟩
theorem Bz:CmpI X .LtE opLe:=⟨_,HR,fun _ _ _ h=>h⟩
theorem yW{op op':CmpOp}{o o':Op2}{f f':Int→Int→Bool}(h1:∀i j k,o (.int i) (.int j) k→k (.d (.bl (f i j))))(h2:∀i j k,o' (.int i) (.int j) k→k (.d (.bl (f' i j))))
  (σ:St) (H Pr:Hp) (ρ:Ev) (post:L→Ev→Prop) (Q:VK) (hQ:∀v H' r ρ',REnv X.K Pr H' (some v::σ) (r::ρ')→post r ρ'→Q v H') (E:REnv X.K Pr H σ ρ) (h:nK o o' ta tb tc ρ post) :
  AV (rI0 fun i j=>.bl (f i j)) (rI0 fun i j=>.bl (f' i j)) (tL X.K ta) (tL X.K tb) (tL X.K tc) σ H Q:=by
 refine⟨Pr,ρ,_,E,h,fun v H1 r ρ1 E1 p=>?_⟩
 obtain⟨i,rfl,p⟩:=ee p
 obtain⟨_,e1,r1⟩:=E1.head_d
 cases e1
 cases r1
 refine⟨Pr,ρ1,_,E1.tail,p,fun v H2 r ρ2 E2 p=>?_⟩
 obtain⟨j,rfl,p⟩:=ee p
 obtain⟨_,e1,r1⟩:=E2.head_d
 cases e1
 cases r1
 refine⟨i,j,rfl,rfl,f i j,rfl,?_⟩
 have q:=h1 i j _ p
 cases hk:f i j with
 | false =>
  rw[hk]at q
  exact hQ _ _ _ ρ2 (E2.tail.cons_d (.bl false)) q
 | true =>
  rw[hk]at q
  refine⟨Pr,ρ2,_,E2.tail,q,fun v H3 r ρ3 E3 p=>?_⟩
  obtain⟨l,rfl,p⟩:=ee p
  obtain⟨_,e1,r1⟩:=E3.head_d
  cases e1
  cases r1
  exact⟨j,l,rfl,rfl,hQ _ _ _ ρ3 (E3.tail.cons_d (.bl _)) (h2 j l _ p)⟩
theorem sE{op op':CmpOp}{o o':Op2}(ho:CmpI X op o)(ho':CmpI X op' o')(ha:PL X a ta)(hb:PL X b tb)(hc:PL X c tc)(hm:lastMarks [op,op'] [b,c]=false:=by with_unfolding_all rfl) :
  PL X (.Compare a [op,op'] [b,c] pos) (nK o o' ta tb tc):=by
 obtain⟨f,r1,h1⟩:=ho
 obtain⟨f',r2,h2⟩:=ho'
 exact PL.of (Dl r1 r2 ha.pe hb.pe hc.pe hm) fun σ H Pr ρ post E h=>yW (op:=op) (op':=op') h1 h2 σ H Pr ρ post _ (fun v H' r ρ' E' p=>⟨r,ρ',E',p⟩) E h
theorem DL{op op':CmpOp}{o o':Op2}(ho:CmpI X op o)(ho':CmpI X op' o')(ha:PL X a ta)(hb:PL X b tb)(hc:PL X c tc)(hm:lastMarks [op,op'] [b,c]=false:=by with_unfolding_all rfl) :
  PB X (.Compare a [op,op'] [b,c] pos) (aN (nK o o' ta tb tc)):=by
 obtain⟨f,r1,h1⟩:=ho
 obtain⟨f',r2,h2⟩:=ho'
 intro pins s σ H Pr ρ post I E h
 refine thn (Dm r1 r2 ha.pe hb.pe hc.pe hm pins s σ H (fun b H'=>∃ρ',REnv X.K Pr H' σ ρ'∧post b ρ') I ?_) fun b s1 ⟨H1,I1,ρ1,E1,p1⟩=>⟨H1,ρ1,I1,E1,p1⟩
 refine yW (op:=op) (op':=op') h1 h2 σ H Pr ρ (fun r ρ1=>isBl r fun b=>post b ρ1) _ (fun v H' r ρ' E' p=>?_) E h
 obtain⟨b,rfl,p⟩:=oU p
 obtain⟨_,e1,r1⟩:=E'.head_d
 cases e1
 cases r1
 exact⟨b,rfl,ρ',E'.tail,p⟩
end
end L2
namespace L2
open PySem PySem.Spec PyProof.Rows PySem.Builtin.Str
section
variable{X:Cx}{a:Expr}{pos p2:Pos}{ta:W L}{x:Str}
theorem IE:SlR X (fun x lo hi H Q=>∃z,x=.str z∧z.length≤sizeLine∧Q (.str (Txt.slice z lo hi)) H):=by
 intro pins s σ H x v vl vu lo hi sl Q I rx hs pl pu h
 obtain⟨z,rfl,hz,q⟩:=h
 obtain⟨t,rfl⟩:=rx
 refine⟨"str",_,F.slot_str_getitem.lookup,typeIs_str _ _ _,?_⟩
 obtain⟨l',rfl,rfl⟩:∃l':Option (Int×Tok),vl=partValue l'∧lo=l'.map (·.1):=by
  cases pl
  ·
   exact⟨none,rfl,rfl⟩
  ·
   exact⟨some (_,_),rfl,rfl⟩
 obtain⟨u',rfl,rfl⟩:∃l':Option (Int×Tok),vu=partValue l'∧hi=l'.map (·.1):=by
  cases pu
  ·
   exact⟨none,rfl,rfl⟩
  ·
   exact⟨some (_,_),rfl,rfl⟩
 exact wpAny_getItem_str_slice (l:=l') (u:=u') (st:=none) hs rfl (post_val_or_str ⟨Nat.le_trans (Txt.slice_le z _ _) hz,fun t' k=>⟨.str _,H,I.tok k,⟨t',rfl⟩,q⟩⟩)
def wSl2(ta:W L)(lo hi:Option (W L)):W L:=fun ρ post=>ta ρ fun r ρ1=>toD r fun d=>zY lo ρ1 fun l ρ2=>zY hi ρ2 fun u ρ3=>match d with
 |.lst xs=>∀a,post (.own a (cutD xs l u)) ρ3
 |.str z=>z.length≤sizeLine∧post (.d (.str (Txt.slice z l u))) ρ3
 |.tup xs=>¬(HT.sIx xs.length 0 l=0∧HT.sIx xs.length xs.length u=xs.length)∧post (.d (.tup (cutD xs l u))) ρ3
 |_=>False
theorem cZ{lo hi:Option Expr}{tl th:Option (W L)}(ha:PL X a ta)(hl:PO' X lo tl)(hh:PO' X hi th):PL X (.Subscript a (.Slice lo hi none p2) pos) (wSl2 ta tl th):=by
 refine PL.of (Dp (SlR.or FR (SlR.or IE HW)) (au ha).pe (Iy hl) (Iy hh)) fun σ H Pr ρ post E h=>?_
 refine⟨Pr,ρ,fun r ρ1=>match r with
  | .d d=>zY tl ρ1 fun l ρ2=>zY th ρ2 fun u ρ3=>match d with
   |.lst xs=>∀a,post (.own a (cutD xs l u)) ρ3
   |.str z=>z.length≤sizeLine∧post (.d (.str (Txt.slice z l u))) ρ3
   |.tup xs=>¬(HT.sIx xs.length 0 l=0∧HT.sIx xs.length xs.length u=xs.length)∧post (.d (.tup (cutD xs l u))) ρ3
   |_=>False
  |_=>False,E,h,fun v H1 r ρ1 E1 pp=>?_⟩
 cases r with
 | d d =>
  obtain⟨_,e1,p1⟩:=E1.head_d
  cases e1
  refine⟨bp H1 ρ1,ρ1,_,E1.tail.wide,pp,fun l H2 ρ2 E2 pp=>?_⟩
  have F2:REnv X.K Pr H2 (some v::σ) (.d d::ρ2):=REnv.step (τ:=[some v]) (lam:=[.d d]) (w:=[]) (μ:=[]) E1 rfl E2 rfl
  refine⟨bp H2 ρ2,ρ2,_,F2.tail.wide,pp,fun u H3 ρ3 E3 pp=>?_⟩
  have F3:REnv X.K Pr H3 (some v::σ) (.d d::ρ3):=REnv.step (τ:=[some v]) (lam:=[.d d]) (w:=[]) (μ:=[]) F2 rfl E3 rfl
  obtain⟨_,e1,p1⟩:=F3.head_d
  cases e1
  cases p1 with
  |lst hz rs=>exact .inl ⟨_,_,rfl,hz.l,fun q hq=>⟨_,_,F3.tail.cons_own hq (va rs l u),pp q⟩⟩
  |str z=>exact .inr (.inl ⟨z,rfl,pp.1,_,_,F3.tail.cons_d (.str _),pp.2⟩)
  |tup hz rs=>exact .inr (.inr ⟨_,_,rfl,hz,by rw[rs.length];exact pp.1,fun q hq=>⟨_,_,F3.tail.cons_tup hq (va rs l u),pp.2⟩⟩)
  |_=>exact pp.elim
 |_=>exact pp.elim
def JQ(K:PySem.W.Frag):V→List V→Hp→VK→Prop:=fun x vs H Q=>∃z a ys zs,x=.str z∧vs=[.ref a]∧(SqL K H a ys∨SqT K H a ys)∧ys=zs.map V.str∧(zs.map (·.length)).sum+zs.length*z.length≤16777216∧Q (.str (Txt.join z zs)) H
theorem o7:∀{zs:List Str}{us:List Value},Vals (zs.map V.str) us→StrsAre us zs
 |[],_,.nil=>.nil
 | z::zs,_,.cons r t=>by
  obtain⟨t',rfl⟩:=r
  exact .cons z t' (o7 t)
theorem Gu:MtR X "str.join" (JQ X.K):=by
 intro pins s σ H x vs v us Q I rx rv h
 obtain⟨z,a,ys,zs,rfl,rfl,hq,rfl,hz,q⟩:=h
 obtain⟨t,rfl⟩:=rx
 obtain⟨u,rfl,ru⟩:=rv.one
 cases ru
 rcases hq with hq|hq
 ·
  obtain⟨its,r,pl,_⟩:=I.list hq
  exact join_list pl.isList (by simpa using o7 r) hz fun t' k=>⟨.str _,H,I.tok k,⟨t',rfl⟩,q⟩
 ·
  obtain⟨its,r,pl,_⟩:=I.tuple hq
  exact join_tuple pl (by simpa using o7 r) hz fun t' k=>⟨.str _,H,I.tok k,⟨t',rfl⟩,q⟩
end
section
variable{X:Cx}{e a b c:Expr}{es:List Expr}{pos p apos cpos:Pos}{te:W L}{x y:Str}
def Gv(z:Str)(te:W L):W L:=fun ρ post=>te ρ fun r ρ1=>toD r fun d=>iz d fun xs=>∃zs,xs=zs.map D.str∧(zs.map (·.length)).sum+zs.length*z.length≤16777216∧post (.d (.str (Txt.join z zs))) ρ1
theorem o8{K:PySem.W.Frag}{H:Hp}:∀{zs:List Str}{vs:List V},Reps K H vs (zs.map D.str)→vs=zs.map V.str
 |[],_,.nil=>rfl
 | z::zs,_,.cons r t=>by
  cases r
  rw[o8 t]
  rfl
theorem Gw{z:Str}{j:Nat}{pz:Pos}(he:PL X e te)(hs1:starEach [e] X.env=[(false,eval e X.env)]:=by rfl) (hbase:attributeBase (.Constant (.str z) j pz) "join" X.env (eval (.Constant (.str z) j pz) X.env)=eval (.Constant (.str z) j pz) X.env:=by rfl)
  (hfew:((backTo cpos (starEach [e] X.env)).all (fun x=>!x.1) && (backToKw cpos (keywordEach [] X.env)).all (fun x=>x.1.isSome)
   && decide (([e]).length+([]:List Keyword).length+(if([]:List Keyword).isEmpty then 0 else 1)<30))=true:=by rfl)
  (hline:(apos.endLine == cpos.line)=true:=by rfl) (hplain:(backTo cpos (starEach ([]:List Expr) X.env)).any (·.1)=false:=by rfl) :
  PL X (.Call (.Attribute (.Constant (.str z) j pz) "join" apos) [e] [] cpos) (Gv z te):=by
 refine PL.of (FT PySem.F.plainAttrs_str PySem.F.slot_str_join PySem.F.type_str_join Gu Fi (eG (au he).pe nG hs1) (hbase:=hbase) (hfew:=hfew) (hline:=hline) (hs:=hs1) (hplain:=hplain)) fun σ H Pr ρ post E h=>?_
 refine⟨rfl,Pr,ρ,fun r ρ1=>match r with
  |.d d=>iz d fun xs=>∃zs,xs=zs.map D.str∧(zs.map (·.length)).sum+zs.length*z.length≤16777216∧post (.d (.str (Txt.join z zs))) ρ1
  |_=>False,E,h,fun v H' r ρ' E' pp=>?_⟩
 cases r with
 | d d =>
  obtain⟨_,e1,p1⟩:=E'.head_d
  cases e1
  cases p1 with
  | lst hz rs =>
   obtain⟨zs,rfl,hl,pp⟩:=pp
   exact⟨z,_,_,zs,rfl,rfl,.inl hz.l,o8 rs,hl,_,_,E'.tail.cons_d (.str _),pp⟩
  | tup hz rs =>
   obtain⟨zs,rfl,hl,pp⟩:=pp
   exact⟨z,_,_,zs,rfl,rfl,.inr hz,o8 rs,hl,_,_,E'.tail.cons_d (.str _),pp⟩
  |_=>exact pp.elim
 |_=>exact pp.elim
theorem Inv.turnedL{pins:List (Addr×Obj)}{σ:St}{H:Hp}{s:Shared}{h':Heap}{t':Nat}{fp:List Addr}(I:Inv X pins σ H s)(k:∀b o,b∉fp→s.heap.get? b=some o→h'.get? b=some o)(hf:∀b∈fp,FpOk X pins H b):Inv X pins σ H {s with heap:=h',toks:=t' }:=by
 have nit:∀b u,H b=some u→b∉fp:=fun b u e z=>by rw[(hf b z).1]at e;cases e
 refine I.step (g':=s.gens) (d':=s.drawn) (ch:=fp) (fun b hb=>?_) (fun b o _ _ hc e _=>k b o hc e) (fun b o _ _ hc e _=>⟨o.slots,k b o hc e⟩) (fun _ _ _ _ n=>n)
  (fun b o hc e=>⟨o,k b o hc e⟩) (fun _ _ e=>e) (fun _ _ _ e=>e) (fun _ _ e=>e) (fun m hm=>?_) (fun b u e=>?_) I.bare
 ·
  obtain⟨f0,f1,f2,f3,f4,f5⟩:=hf b hb
  exact⟨f3,f1,f4,f5⟩
 ·
  obtain⟨o,es,ep,ho,r⟩:=hm
  exact⟨o,es,ep,k _ o (fun z=>(hf _ z).2.1 rfl) ho,r⟩
 ·
  refine(I.hok b u e).stay (fun c v hc q=>k c v ?_ q) (fun _ q=>q) (fun _ _ q=>q) fun _ _ _ _ q=>q
  rcases hc with z|z
  ·
   rw[z];exact nit b u e
  ·
   exact nit c _ z
def Ite(K:PySem.W.Frag)(a:Addr):It :=
 ⟨fun i H=>∃xs x,SqL K H a xs∧xs[i]?=some x,fun i H v H'=>∃p x,v=.ref p∧H p=none∧H'=upd H p (.tup [.int i,x])∧∀xs,SqL K H a xs→xs[i]?=some x,fun i H=>∃xs,SqL K H a xs∧xs.length≤i⟩
theorem BA{P:Program}{w:World}{K:PySem.W.Frag}{k:Nat}(q it a:Addr)(hne:q≠it):Turn P w K (.Tuple es k pos) (Ite K a) [q,it] q (fun i h=>(∃old,IsEnum h q it i old)∧h.IsListIter it a i) where
 mem:=by simp
 obj:=fun i h st b hb=>by
  obtain⟨⟨old,he⟩,o,e,c,d⟩:=st
  rcases List.mem_cons.mp hb with rfl|hb
  ·
   exact⟨_,he,fun v z=>by
    have z':Data.fields _=Data.cell v:=z
    cases z'⟩
  ·
   have e':b=it:=by simpa using hb
   subst e'
   exact⟨o,e,fun v z=>by rw[d]at z;cases z⟩
 keep:=fun i h h' st kk=>⟨let ⟨old,he⟩:=st.1;⟨old,kk q (by simp) _ he⟩,st.2.at fun o e=>kk it (by simp) o e⟩
 item:=by
  intro X hP hw hK hc i pins s σ H E I hf st hg
  subst hP hw hK
  obtain⟨xs,x,hq,hx⟩:=hg
  obtain⟨its,rv,p,hz⟩:=I.list hq
  obtain⟨u,hu,ru⟩:=rv.get hx
  obtain⟨⟨old,he⟩,hit⟩:=st
  have hai:a≠it:=fun z=>by
   subst z
   obtain⟨o,e,c,d⟩:=hit
   obtain⟨o',e',c',_⟩:=p.isList
   rw[e]at e';cases e'
   rw[c]at c';exact absurd c' (by simp)
  have hqa:q≠a:=fun z=>by
   subst z
   obtain⟨o',e',c',_⟩:=p.isList
   rw[he]at e';cases e'
   exact absurd c' (by simp)
  have D:=Draws.list (prog:=X.prog) (w:=X.w) (A:=X.A.in1) (I.ok.hd hc) it a hai its.toArray
  have hlt:i<its.toArray.size:=by
   rw[List.size_toArray]
   exact(List.getElem?_eq_some_iff.mp hu).1
  refine wpAny_pyNext_enum_itemD D he ⟨hit,p.isList⟩ hlt hne (by simp[hne,hqa]) fun x' h' tk hPx hout hst' htup hsz hk=>?_
  have hx':x'=u:=by
   have:its.toArray[i]?=some u:=by simpa using hu
   rw[this]at hPx;exact(Option.some.inj hPx).symm
  subst hx'
  refine⟨.ref s.heap.objs.size,rfl,wpAny_letOwnedTupleGo_enum (s:={s with heap:=h',toks:=tk+1}) hout fun h'' he'' hs''=>?_⟩
  have qlt:q<s.heap.objs.size:=Heap.lt_size he
  have ilt:it<s.heap.objs.size:=by obtain⟨o,e,_⟩:=hit;exact Heap.lt_size e
  have I1:Inv X pins σ (upd H s.heap.objs.size (.tup [.int i,x])) {s with heap:=s.heap.push {cls:=.type "tuple",data:=.seq #[.int i tk,x'] },toks:=tk} :=
   I.laid (fun b ob q=>Heap.get?_push_of_some _ q) (Nat.le_refl _) ⟨by show 2≤sizeLine;decide,[.int i tk,x'],.cons ⟨tk,rfl⟩ (.cons ru .nil),⟨_,Heap.get?_push_size _ rfl,rfl,_,rfl⟩⟩
  have hf1:∀b∈[q,it],FpOk X pins (upd H s.heap.objs.size (.tup [.int i,x])) b:=fun b hb=>by
   refine⟨?_,(hf b hb).2⟩
   rw[aL ?_]
   ·
    exact(hf b hb).1
   ·
    rcases List.mem_cons.mp hb with rfl|hb
    ·
     exact Nat.ne_of_lt qlt
    ·
     rw[List.mem_singleton.mp hb];exact Nat.ne_of_lt ilt
  have I2:=I1.turnedL (h':=h'') (t':=tk+1) (fp:=[q,it]) (fun b o hb e=>by
   have hbq:b≠q:=fun z=>hb (by simp[z])
   have hbi:b≠it:=fun z=>hb (by simp[z])
   refine(hs''.2 b hbq).trans ?_
   rcases Heap.get?_push_cases e with⟨rfl,rfl⟩|e
   ·
    exact htup
   ·
    exact hk b o hbq hbi e) hf1
  refine⟨.ref s.heap.objs.size,_,I2,rfl,⟨_,x,rfl,I.fresh,rfl,fun ys hy=>by rw[I.list_inj hy hq];exact hx⟩,⟨⟨_,by simpa using he''⟩,hst'.1.extBut hs''.extBut (Ne.symm hne)⟩,fun b hb=>(hf1 b hb).1⟩
 done:=by
  intro X hP hw hK hc i pins s σ H E I hf st hg
  subst hP hw hK
  obtain⟨xs,hq,hx⟩:=hg
  obtain⟨its,rv,p,hz⟩:=I.list hq
  obtain⟨⟨old,he⟩,hit⟩:=st
  have hai:a≠it:=fun z=>by
   subst z
   obtain⟨o,e,c,d⟩:=hit
   obtain⟨o',e',c',_⟩:=p.isList
   rw[e]at e';cases e'
   rw[c]at c';exact absurd c' (by simp)
  have hl:=rv.length
  have hT:s.TypeIs (.ref q) "enumerate":=⟨_,he,rfl⟩
  unfold pyNext
  refine wpAny_bind (wpAny_attempt (wpAny_callSpecial?_slot (name:=Str.ofString "__next__") hT F.slot_enumerate_next
   (wpAny_call_entry F.slot_enumerate_next hT F.entry_enumerate_next ?_ (F.args_enumerate_next_1 _))))
  show wpAny _ _ (field (.ref q) 2 >>= _) _ _ _
  refine wpAny_bind (wpAny_field he rfl (x:=.ref it) rfl ?_)
  refine wpAny_bind (wpAny_nextOf_list_end (I.ok.hd hc) hit p.isList (by simp;omega) fun h' x he' hx'=>?_)
  obtain⟨o,ho,hcc⟩:=hx'
  refine wpAny_bind (wpAny_isInstance (T:="StopIteration") (b:=true) ⟨o,ho,hcc⟩ isSubtype_stop ?_)
  refine wpAny_pure ⟨rfl,?_⟩
  exact I.turnedL (t':=s.toks) (fp:=[q,it]) (fun b o hb e=>he' b o (fun z=>hb (by simp[z])) e) hf
 self:=fun _ _ _ _ _ st h=>let ⟨_,he⟩:=st.1;wpAny_pyIter_enum he h
def kB(xs:List D):List D:=xs.zipIdx.map fun p=>.tup [.int (p.2:Int),p.1]
theorem z8{K:PySem.W.Frag}{H:Hp}{a:Addr}{vs:List V}{xs:List D}(h:SqZ K H a vs)(r:Reps K H vs xs):zR K H (Ite K a) (kB xs):=fun H' p=>by
 have h':=(h.pres p).l
 have hlen:(kB xs).length=vs.length:=by rw[r.length];simp[kB]
 refine⟨fun i x e=>?_,⟨vs,h',by rw[hlen];exact Nat.le_refl _⟩⟩
 have hi:i<vs.length:=by rw[← hlen];exact(List.getElem?_eq_some_iff.mp e).1
 have hi2:i<xs.length:=by rw[← r.length];exact hi
 have ex:x=.tup [.int (i:Int),xs[i]]:=by
  have:(kB xs)[i]?=some (.tup [.int (i:Int),xs[i]]):=by simp[kB,hi2]
  rw[this]at e
  exact(Option.some.inj e).symm
 obtain⟨v,ev,rv⟩:=r.get (i:=i) (List.getElem?_eq_getElem hi2)
 refine⟨⟨vs,v,h',ev⟩,fun w H2 ⟨q,y,e1,e2,e3,e4⟩=>?_⟩
 have e5:=e4 vs h'
 rw[ev]at e5
 cases e5
 subst e1 e3 ex
 refine⟨.inr ⟨_,_,e2,rfl⟩,.tup (.inl (.inl (bO ..))) (.cons (.int _) (.cons ((rv.pres p).new e2) .nil))⟩
def z9(t:W L):W (List D):=fun ρ post=>t ρ fun r ρ1=>toD r fun d=>match d with
 |.lst xs=>post (kB xs) ρ1
 |_=>False
theorem oC{k:Nat}{t:W L} (hg:Gl X "enumerate") (hm:X.mg "enumerate"=none) (ha:PL X a t) (hs:starEach [a] X.env=[(false,eval a X.env)]:=by rfl):PIL X (.Tuple es k apos) (.Call (.Name "enumerate" p) [a] [] pos) (z9 t):=by
 intro pins s σ H Pr ρ post I E h
 refine Call_ (nF I hg hm boot_enumerate (PyProof.Rows.callWith_type1 (thn (ae (au ha) ah hs pos pins s σ H Pr ρ (fun ls ρ1=>match ls with
  |[.d (.lst xs)]=>post (kB xs) ρ1
  |_=>False) I E ?_) fun us s1 ⟨vs,H1,ls,ρ1,I1,r1,hl,hb,E1,_,q1⟩=>?_) hs rfl))
 ·
  show t ρ _
  have e:(fun r ρ1=>toD r fun d=>match d with | .lst xs=>post (kB xs) ρ1|_=>False)=(fun r ρ1=>toD r fun x=>aNil ρ1 fun xs ρ2=>match L.d x::xs with | [.d (.lst xs)]=>post (kB xs) ρ2|_=>False):=by
   funext r ρ1
   cases r with
   |un=>rfl
   |d d=>cases d<;>rfl
   |own=>rfl
   | bx b ls =>
    show dz (bS (.bx b ls)) _=dz (bS (.bx b ls)) _
    cases bS (.bx b ls)with
    |none=>rfl
    |some d=>cases d<;>rfl
   |dic b ls=>rfl
  rw[← e]
  exact h
 ·
  dsimp only at q1
  split at q1
  ·
   rename_i xs
   cases vs with
   |nil=>exact absurd hl (by simp)
   | cons v vs =>
    have:vs=[]:=by
     have:vs.length=0:=by simpa using hl
     exact List.length_eq_zero_iff.mp this
    subst this
    obtain⟨_,e1,p1⟩:=REnv.head_d (σ:=σ) (ρ:=ρ1) E1
    cases e1
    cases p1 with
    | lst hz rs =>
     obtain⟨u,rfl,ru⟩:=r1.one
     cases ru
     obtain⟨its,rv,pl,hz'⟩:=I1.list hz.l
     refine call_enumerate_list pl.isList fun h' hE hI hsz hk=>?_
     refine wpAny_pyIter_enum (s:={s1 with heap:=h' }) hE ?_
     have E2:REnv X.K Pr H1 σ ρ1:=REnv.tail (σ:=σ) (ρ:=ρ1) E1
     refine⟨s1.heap.objs.size+1,[s1.heap.objs.size+1,s1.heap.objs.size],_,_,H1,_,ρ1,rfl,I1.kept (t':=s1.toks) hk,BA _ _ _ (Nat.succ_ne_self _),⟨⟨_,hE⟩,hI⟩,fun b hb=>?_,E2,z8 hz rs,q1⟩
     have hb':s1.heap.objs.size≤b:=by
      rcases List.mem_cons.mp hb with rfl|hb
      ·
       exact Nat.le_succ _
      ·
       rw[List.mem_singleton.mp hb];exact Nat.le_refl _
     exact I1.fpOk hb' (I1.hok.fresh hb')
  ·
   exact q1.elim
end
section
variable{X:Cx}{e a b:Expr}{es:List Expr}{pos p p2 apos:Pos}{x y:Str}
def Itz(K:PySem.W.Frag)(a b:Addr):It :=
 ⟨fun i H=>∃xs ys x y,SqL K H a xs∧SqL K H b ys∧xs[i]?=some x∧ys[i]?=some y,fun i H v H'=>∃p x y,v=.ref p∧H p=none∧H'=upd H p (.tup [x,y])∧(∀xs,SqL K H a xs→xs[i]?=some x)∧∀ys,SqL K H b ys→ys[i]?=some y,
  fun i H=>∃xs ys,SqL K H a xs∧SqL K H b ys∧(xs.length≤i∨ys.length≤i)⟩
theorem cx{h:Heap}{l a:Addr}{its:Array Value}{o:Obj}(hl:h.IsList l its)(ho:h.get? a=some o) (hc:o.cls≠.type "list"):l≠a:=fun z=>by
 subst z
 obtain⟨o',e',c',_⟩:=hl
 rw[ho]at e';cases e'
 exact hc c'
theorem DM{P:Program}{w:World}{K:PySem.W.Frag}{k:Nat}(z TI TO i1 i2 l1 l2:Addr)(hnd:[z,TI,TO,i1,i2].Nodup):Turn P w K (.Tuple es k pos) (Itz K l1 l2) [z,TI,TO,i1,i2] z
  (fun i h=>IsZip h z TI TO .none∧IsPair h TI (.ref i1) (.ref i2)∧(∃a b,IsPair h TO a b)∧h.IsListIter i1 l1 i∧h.IsListIter i2 l2 i) where
 mem:=by simp
 obj:=fun i h st b hb=>by
  obtain⟨hz,hTI,⟨p,q,hTO⟩,⟨o1,e1,c1,d1⟩,⟨o2,e2,c2,d2⟩⟩:=st
  simp only[List.mem_cons,List.not_mem_nil,or_false]at hb
  rcases hb with rfl|rfl|rfl|rfl|rfl
  ·
   exact⟨_,hz,fun v z=>by
    have z':Data.fields _=Data.cell v:=z
    cases z'⟩
  ·
   exact⟨_,hTI,fun v z=>by
    have z':Data.seq _ _=Data.cell v:=z
    cases z'⟩
  ·
   exact⟨_,hTO,fun v z=>by
    have z':Data.seq _ _=Data.cell v:=z
    cases z'⟩
  ·
   exact⟨o1,e1,fun v z=>by rw[d1]at z;cases z⟩
  ·
   exact⟨o2,e2,fun v z=>by rw[d2]at z;cases z⟩
 keep:=fun i h h' st kk=>by
  obtain⟨hz,hTI,⟨p,q,hTO⟩,h1,h2⟩:=st
  exact⟨kk z (by simp) _ hz,kk TI (by simp) _ hTI,⟨p,q,kk TO (by simp) _ hTO⟩,h1.at fun o e=>kk i1 (by simp) o e,h2.at fun o e=>kk i2 (by simp) o e⟩
 item:=by
  intro X hP hw hK hc i pins s σ H E I hf st hg
  subst hP hw hK
  obtain⟨xs,ys,x,y,hq1,hq2,hx,hy⟩:=hg
  obtain⟨its,rv,pl,_⟩:=I.list hq1
  obtain⟨its2,rv2,pl2,_⟩:=I.list hq2
  obtain⟨u,hu,ru⟩:=rv.get hx
  obtain⟨u2,hu2,ru2⟩:=rv2.get hy
  obtain⟨hz,hTI,⟨p,q,hTO⟩,h1,h2⟩:=st
  obtain⟨o1,e1,c1,d1⟩:=id h1
  obtain⟨o2,e2,c2,d2⟩:=id h2
  have n1:o1.cls≠.type "list":=by rw[c1]; simp
  have n2:o2.cls≠.type "list":=by rw[c2]; simp
  simp only[List.nodup_cons,List.mem_cons,List.not_mem_nil,or_false,not_or,List.nodup_nil,and_true,not_false_eq_true]at hnd
  obtain⟨⟨a1,a2,a3,a4⟩,⟨b1,b2,b3⟩,⟨c1',c2'⟩,d1'⟩:=hnd
  have D:ZipApart z TI TO i1 i2 l1 l2:=⟨Ne.symm a1,Ne.symm a2,Ne.symm a3,Ne.symm a4,b1,b2,b3,c1',c2',d1',cx pl.isList hz (by simp),cx pl.isList hTO (by simp),cx pl.isList e1 n1,cx pl.isList e2 n2,
   cx pl2.isList hz (by simp),cx pl2.isList hTO (by simp),cx pl2.isList e1 n1,cx pl2.isList e2 n2⟩
  refine wpAny_pyNext_zip_item D hz hTI hTO h1 h2 pl.isList pl2.isList (x:=u) (y:=u2) (by simpa using hu) (by simpa using hu2) fun h' hz' hTO' h1' h2' hT' hsz hk=>?_
  refine⟨.ref s.heap.objs.size,rfl,wpAny_letOwnedTupleGo_zip (s:={s with heap:=h' }) hz' fun h'' hz'' hs''=>?_⟩
  have lt:∀b∈[z,TI,TO,i1,i2],b<s.heap.objs.size:=fun b hb=>by
   simp only[List.mem_cons,List.not_mem_nil,or_false]at hb
   rcases hb with rfl|rfl|rfl|rfl|rfl
   ·
    exact Heap.lt_size hz
   ·
    exact Heap.lt_size hTI
   ·
    exact Heap.lt_size hTO
   ·
    exact Heap.lt_size e1
   ·
    exact Heap.lt_size e2
  have I1:Inv X pins σ (upd H s.heap.objs.size (.tup [x,y])) {s with heap:=s.heap.push {cls:=.type "tuple",data:=.seq #[u,u2] },toks:=s.toks} :=
   I.laid (fun b ob q=>Heap.get?_push_of_some _ q) (Nat.le_refl _) ⟨by show 2≤sizeLine;decide,[u,u2],.cons ru (.cons ru2 .nil),⟨_,Heap.get?_push_size _ rfl,rfl,_,rfl⟩⟩
  have hf1:∀b∈[z,TI,TO,i1,i2],FpOk X pins (upd H s.heap.objs.size (.tup [x,y])) b:=fun b hb=>by
   refine⟨?_,(hf b hb).2⟩
   rw[aL (Nat.ne_of_lt (lt b hb))]
   exact(hf b hb).1
  have I2:=I1.turnedL (h':=h'') (t':=s.toks) (fp:=[z,TI,TO,i1,i2]) (fun b o hb e=>by
   simp only[List.mem_cons,List.not_mem_nil,or_false,not_or]at hb
   obtain⟨hbz,hbTI,hbTO,hb1,hb2⟩:=hb
   refine(hs''.2 b hbz).trans ?_
   rcases Heap.get?_push_cases e with⟨rfl,rfl⟩|e
   ·
    exact hT'
   ·
    exact hk b o hbz hbTO hb1 hb2 e) hf1
  exact⟨.ref s.heap.objs.size,_,I2,rfl,⟨_,x,y,rfl,I.fresh,rfl,fun zs hy'=>by rw[I.list_inj hy' hq1];exact hx,fun zs hy'=>by rw[I.list_inj hy' hq2];exact hy⟩,
   ⟨hz'',hs''.extBut _ _ D.TIz (hk _ _ D.TIz D.TITO D.TIi1 D.TIi2 hTI),⟨_,_,hs''.extBut _ _ D.TOz hTO'⟩,h1'.extBut hs''.extBut D.i1z,h2'.extBut hs''.extBut D.i2z⟩,fun b hb=>(hf1 b hb).1⟩
 done:=by
  intro X hP hw hK hc i pins s σ H E I hf st hg
  subst hP hw hK
  obtain⟨xs,ys,hq1,hq2,hend⟩:=hg
  obtain⟨its,rv,pl,_⟩:=I.list hq1
  obtain⟨its2,rv2,pl2,_⟩:=I.list hq2
  obtain⟨hz,hTI,⟨p,q,hTO⟩,h1,h2⟩:=st
  obtain⟨o1,e1,c1,d1⟩:=id h1
  obtain⟨o2,e2,c2,d2⟩:=id h2
  have n1:o1.cls≠.type "list":=by rw[c1]; simp
  have n2:o2.cls≠.type "list":=by rw[c2]; simp
  simp only[List.nodup_cons,List.mem_cons,List.not_mem_nil,or_false,not_or,List.nodup_nil,and_true,not_false_eq_true]at hnd
  obtain⟨⟨a1,a2,a3,a4⟩,⟨b1,b2,b3⟩,⟨c1',c2'⟩,d1'⟩:=hnd
  have D:ZipApart z TI TO i1 i2 l1 l2:=⟨Ne.symm a1,Ne.symm a2,Ne.symm a3,Ne.symm a4,b1,b2,b3,c1',c2',d1',cx pl.isList hz (by simp),cx pl.isList hTO (by simp),cx pl.isList e1 n1,cx pl.isList e2 n2,
   cx pl2.isList hz (by simp),cx pl2.isList hTO (by simp),cx pl2.isList e1 n1,cx pl2.isList e2 n2⟩
  have hl:=rv.length
  have hl2:=rv2.length
  have hend':its.toArray[i]?=none∨its2.toArray[i]?=none:=by
   rcases hend with h|h
   ·
    exact .inl (by simp;omega)
   ·
    exact .inr (by simp;omega)
  refine wpAny_pyNext_zip_end (I.ok.hd hc) D hz hTI hTO h1 h2 pl.isList pl2.isList hend' fun h' hk=>⟨rfl,?_⟩
  exact I.turnedL (t':=s.toks) (fp:=[z,TI,TO,i1,i2]) (fun b o hb e=>hk b o (fun z=>hb (by simp[z])) (fun z=>hb (by simp[z])) (fun z=>hb (by simp[z])) (fun z=>hb (by simp[z])) e) hf
 self:=fun _ _ _ _ _ st h=>wpAny_pyIter_zip st.1 h
def zipD(xs ys:List D):List D:=(xs.zip ys).map fun p=>.tup [p.1,p.2]
theorem BB{K:PySem.W.Frag}{H:Hp}{a b:Addr}{vs ws:List V}{xs ys:List D}(h:SqZ K H a vs)(r:Reps K H vs xs)(h2:SqZ K H b ws)(r2:Reps K H ws ys):zR K H (Itz K a b) (zipD xs ys):=fun H' p=>by
 have h':=(h.pres p).l
 have h2':=(h2.pres p).l
 have hlen:(zipD xs ys).length=min vs.length ws.length:=by rw[r.length,r2.length];simp[zipD]
 refine⟨fun i x e=>?_,⟨vs,ws,h',h2',by rw[hlen];omega⟩⟩
 have hi:i<min vs.length ws.length:=by rw[← hlen];exact(List.getElem?_eq_some_iff.mp e).1
 have hi2:i<xs.length:=by rw[← r.length];omega
 have hi3:i<ys.length:=by rw[← r2.length];omega
 have ex:x=.tup [xs[i],ys[i]]:=by
  have:(zipD xs ys)[i]?=some (.tup [xs[i],ys[i]]):=by simp[zipD,hi2,hi3,List.getElem?_zip_eq_some]
  rw[this]at e
  exact(Option.some.inj e).symm
 obtain⟨v,ev,rv⟩:=r.get (i:=i) (List.getElem?_eq_getElem hi2)
 obtain⟨v2,ev2,rv2⟩:=r2.get (i:=i) (List.getElem?_eq_getElem hi3)
 refine⟨⟨vs,ws,v,v2,h',h2',ev,ev2⟩,fun w H2 ⟨q,y,y2,e1,e2,e3,e4,e5⟩=>?_⟩
 have e6:=e4 vs h'
 have e7:=e5 ws h2'
 rw[ev]at e6
 rw[ev2]at e7
 cases e6
 cases e7
 subst e1 e3 ex
 refine⟨.inr ⟨_,_,e2,rfl⟩,.tup (.inl (.inl (bO ..))) (.cons ((rv.pres p).new e2) (.cons ((rv2.pres p).new e2) .nil))⟩
def zipK(d d2:D)(k:List D→Prop):Prop:=match d,d2 with
 |.lst xs,.lst ys=>k (zipD xs ys)
 |_,_=>False
def wZip(t u:W L):W (List D):=fun ρ post=>t ρ fun r ρ1=>toD r fun d=>u ρ1 fun r2 ρ2=>toD r2 fun d2=>zipK d d2 fun zs=>post zs ρ2
theorem BC{k:Nat}{t u:W L} (hg:Gl X "zip") (hm:X.mg "zip"=none) (ha:PL X a t) (hb:PL X b u) (hs:starEach [a,b] X.env=[(false,eval a X.env),(false,eval b X.env)]:=by rfl) (hs2:starEach [b] X.env=[(false,eval b X.env)]:=by rfl) :
  PIL X (.Tuple es k apos) (.Call (.Name "zip" p) [a,b] [] pos) (wZip t u):=by
 intro pins s σ H Pr ρ post I E h
 refine Call_ (nF I hg hm boot_zip (PyProof.Rows.callWith_type1 (thn (ae (au ha) (ae (au hb) ah hs2) (by rw[hs,hs2]) pos pins s σ H Pr ρ (fun ls ρ1=>match ls with
  |[.d d,.d d2]=>zipK d d2 fun zs=>post zs ρ1
  |_=>False) I E ?_) fun us s1 ⟨vs,H1,ls,ρ1,I1,r1,hl,hb,E1,_,q1⟩=>?_) (by rw[hs,hs2]) (by rw[hs2];rfl)))
 ·
  show t ρ _
  have e:(fun r ρ1=>toD r fun d=>u ρ1 fun r2 ρ2=>toD r2 fun d2=>zipK d d2 fun zs=>post zs ρ2)
    = (fun r ρ1=>toD r fun x=>aVal (wFrz u) aNil ρ1 fun xs ρ2=>match L.d x::xs with | [.d d,.d d2]=>zipK d d2 fun zs=>post zs ρ2|_=>False):=by
   funext r ρ1
   cases r with
   |un=>rfl
   |d d=>rfl
   |own a xs=>rfl
   | bx b ls =>
    show dz (bS (.bx b ls)) _=dz (bS (.bx b ls)) _
    cases bS (.bx b ls)<;>rfl
   |dic b ls=>rfl
  rw[← e]
  exact h
 ·
  dsimp only at q1
  split at q1
  ·
   rename_i d d2
   unfold zipK at q1
   split at q1
   rotate_left
   ·
    exact q1.elim
   rename_i xs ys
   match vs,hl with
   | [v,v2],_ =>
    obtain⟨_,e1,p1⟩:=REnv.head_d (σ:=some v2::σ) (ρ:=.d (.lst ys)::ρ1) E1
    cases e1
    obtain⟨_,e1,p2⟩:=REnv.head_d (σ:=σ) (ρ:=ρ1) (REnv.tail (σ:=some v2::σ) (ρ:=.d (.lst ys)::ρ1) E1)
    cases e1
    cases p1 with
    | lst hz rs =>
     cases p2 with
     | lst hz2 rs2 =>
      obtain⟨u1,u2,rfl,ru,ru2⟩:=r1.two
      cases ru
      cases ru2
      obtain⟨its,rv,pl,_⟩:=I1.list hz.l
      obtain⟨its2,rv2,pl2,_⟩:=I1.list hz2.l
      refine call_zip_2 pl.isList pl2.isList fun h' hZ hTI hTO hI1 hI2 hsz hk=>?_
      refine wpAny_pyIter_zip (s:={s1 with heap:=h' }) hZ ?_
      have E1':REnv X.K Pr H1 (some _::some _::σ) (.d _::.d _::ρ1):=E1
      have E2:REnv X.K Pr H1 σ ρ1:=E1'.tail.tail
      refine⟨s1.heap.objs.size+4,[s1.heap.objs.size+4,s1.heap.objs.size+2,s1.heap.objs.size+3,s1.heap.objs.size,s1.heap.objs.size+1],_,_,H1,_,ρ1,rfl,I1.kept (t':=s1.toks) hk,DM _ _ _ _ _ _ _ (by simp),⟨hZ,hTI,⟨_,_,hTO⟩,hI1,hI2⟩,fun b hb=>?_,E2,BB hz rs hz2 rs2,q1⟩
      have hb':s1.heap.objs.size≤b:=by
       simp only[List.mem_cons,List.not_mem_nil,or_false]at hb
       rcases hb with rfl|rfl|rfl|rfl|rfl
       ·
        exact Nat.le_add_right _ _
       ·
        exact Nat.le_add_right _ _
       ·
        exact Nat.le_add_right _ _
       ·
        exact Nat.le_refl _
       ·
        exact Nat.le_add_right _ _
      exact I1.fpOk hb' (I1.hok.fresh hb')
  ·
   exact q1.elim
end
section
variable{X:Cx}{e a:Expr}{es:List Expr}{pos p apos cpos:Pos}{te:W L}{x:Str}
def PTcs(X:Cx)(es:List Expr)(n:Nat)(is:List Nat):Prop:=∃gg:TGs,PGs X es gg∧es.length=is.length∧∀vs σ H Pr ρ xs k,σ.length=X.N.length→REnv X.K Pr H σ ρ→Reps X.K H vs xs→gu is xs ρ k→gg vs σ H fun σ' H'=>H'=H∧σ'.drop n=σ.drop n∧∃ρ',REnv X.K Pr H σ' ρ'∧k ρ'
theorem BD{n:Nat}:PTcs X [] n []:=⟨_,AL,rfl,fun vs σ H Pr ρ xs k hl E r h=>by
 cases r with
 |nil=>exact⟨rfl,rfl,rfl,ρ,E,h⟩
 |cons _ _=>exact h.elim⟩
theorem oD{i n:Nat}{is:List Nat}{x:Str}(hn:i<n)(hN:X.N.Nodup)(hi:X.N[i]?=some x)(hx:Loc X.env.scope x)(hr:PTcs X es n is)(hf:X.fn x=true∨X.env.scope.names.lookup x=some .local:=by first|exact .inl rfl|exact .inr rfl|assumption)
  (hs:(assignEach (.Name x pos::es) X.env).map (·.2)=assign (.Name x pos) X.env::(assignEach es X.env).map (·.2):=by rfl):PTcs X (.Name x pos::es) n (i::is):=by
 obtain⟨gg,hg,hlen,q⟩:=hr
 refine⟨_,yD (rV hN hi hx hf) hg hs,by simp[hlen],fun vs σ H Pr ρ xs k hl E r h=>?_⟩
 cases r with
 |nil=>exact h.elim
 | cons r0 t =>
  refine⟨_,_,rfl,?_⟩
  have:=q _ (σ.set i (some _)) H Pr _ _ k (by simpa using hl) ((E.cons_d r0).store (by rw[hl];exact(List.getElem?_eq_some_iff.mp hi).1)) t h
  rw[List.drop_set_of_lt hn]at this
  exact this
theorem Fv{is:List Nat}{k n:Nat}(hc:X.calm=true)(h:PTcs X es n is)(hn:(assignEach es X.env).length=is.length:=by rfl)(hst:(assignEach es X.env).findIdx? (·.1)=none:=by rfl):PTc X (.Tuple es k pos) n (fF is):=by
 obtain⟨gg,hg,hlen,q⟩:=h
 refine⟨_,Fj hc hg hn hst,fun v σ H Pr ρ x k hl E r h=>?_⟩
 cases r with
 |tup hs rs=>exact⟨_,_,rfl,hs,by rw[rs.length];exact ku h,q _ σ H Pr ρ _ k hl E rs h⟩
 |_=>exact h.elim
def wExt(i:Nat)(te:W L):W L:=fun ρ post=>ownV i ρ fun _ _=>te ρ fun r ρ1=>match r with
 |.own _ ys=>ownV i ρ1 fun a xs=>xs.length+ys.length≤sizeLine∧post (.d .non) (ρ1.set i (.own a (xs++ys)))
 |_=>False
theorem BE(i:Nat)(he:PL X e te)(hN:X.N[i]?=some x:=by rfl)(hv:Vis X.env.scope x:=by first | exact Or.inl rfl | exact Or.inr (Or.inl rfl) | exact Or.inr (Or.inr rfl)) (hd:(x == ("__debug__" : Str))=false:=by decide)
  (hcd:(x == ("__classdict__" : Str))=false:=by decide) (hs1:starEach [e] X.env=[(false,eval e X.env)]:=by rfl) (hbase:attributeBase (.Name x p) "extend" X.env (eval (.Name x p) X.env)=eval (.Name x p) X.env:=by rfl)
  (hfew:((backTo cpos (starEach [e] X.env)).all (fun x=>!x.1) && (backToKw cpos (keywordEach [] X.env)).all (fun x=>x.1.isSome)
   && decide (([e]).length+([]:List Keyword).length+(if([]:List Keyword).isEmpty then 0 else 1)<30))=true:=by rfl)
  (hline:(apos.endLine == cpos.line)=true:=by rfl) (hplain:(backTo cpos (starEach ([]:List Expr) X.env)).any (·.1)=false:=by rfl) :
  PL X (.Call (.Attribute (.Name x p) "extend" apos) [e] [] cpos) (wExt i te):=by
 refine PL.of (FT PySem.F.plainAttrs_list PySem.F.slot_list_extend PySem.F.type_list_extend A4 (ie hN hv hd hcd) (eG he.pe nG hs1) (hbase:=hbase) (hfew:=hfew) (hline:=hline) (hs:=hs1) (hplain:=hplain)) fun σ H Pr ρ post E h=>?_
 obtain⟨l,xs0,q0,h⟩:=gw h
 obtain⟨hσ,vs0,hl0,_⟩:=E.ownAt q0
 refine⟨.ref l,hσ,.inl ⟨rfl,vs0,SqL.of hl0⟩,Pr,ρ,fun r ρ1=>match r with
  |.own _ ys=>ownV i ρ1 fun a xs=>xs.length+ys.length≤sizeLine∧post (.d .non) (ρ1.set i (.own a (xs++ys)))
  |_=>False,E,h,fun v H' r ρ' E' pp=>?_⟩
 cases r with
 | own bb ys =>
  obtain⟨l',xs,q,hlen,pp⟩:=gw pp
  obtain⟨hσ',vs,hl,r⟩:=E'.tail.ownAt q
  rw[hσ]at hσ'
  cases hσ'
  have sl:=E'.sl
  cases sl with
  | cons q0 t =>
   obtain⟨e1,ws,hb,rw'⟩:=q0
   cases e1
   exact⟨l,bb,vs,ws,rfl,rfl,hl,hb,by rw[r.length,rw'.length];exact hlen,_,_,(E'.tail.updOwn q (r.append rw')).cons_d .non,pp⟩
 |_=>exact pp.elim
end
end L2
namespace L2
open PySem PySem.Spec PyProof.Rows
mutual
def noL:D→Bool
 |.lst _=>false
 |.dct _=>false
 |.exc _ _ _=>false
 |.fn _ _=>false
 |.tup xs=>noLs xs
 |_=>true
def noLs:List D→Bool
 |[]=>true
 |x::xs=>noL x && noLs xs
end
mutual
def noLr:L→Bool
 |.un=>true
 |.d x=>noL x
 |.own _ xs=>noLs xs
 |.bx _ ls=>sF ls
 |.dic _ kvs=>kvs.all fun p=>noL p.2
def sF:List L→Bool
 |[]=>true
 |l::ls=>noLr l && sF ls
end
theorem Gx:noLr .un=true:=by simp[noLr]
theorem IF(x:D):noLr (.d x)=noL x:=by simp[noLr]
theorem DN(a:Addr)(xs:List D):noLr (.own a xs)=noLs xs:=by simp[noLr]
theorem Gy(a:Option Addr)(ls:List L):noLr (.bx a ls)=sF ls:=by simp[noLr]
theorem DO(a:Addr)(kvs:List (Key×D)):noLr (.dic a kvs)=kvs.all fun p=>noL p.2:=by simp[noLr]
theorem BF:sF []=true:=by simp[sF]
theorem Aa(l:L)(ls:List L):sF (l::ls)=(noLr l && sF ls):=by simp[sF]
def qK:L→Bool
 |.d _=>true
 |l=>noLr l
theorem DP:qK .un=true:=by simp[qK,noLr]
theorem Gz(x:D):qK (.d x)=true:=rfl
theorem BG(a:Addr)(xs:List D):qK (.own a xs)=noLs xs:=by simp[qK,noLr]
theorem BH(a:Addr)(kvs:List (Key×D)):qK (.dic a kvs)=kvs.all fun p=>noL p.2:=by simp[qK,noLr]
theorem DQ(a:Option Addr)(ls:List L):qK (.bx a ls)=sF ls:=by simp[qK,noLr]
def eN(i:Nat)(ρ:Ev):Bool:=(ρ.set i .un).all qK
def pkW(o:Option L)(i:Nat)(t:W L)(ρ:Ev)(post:L→Ev→Prop):Prop:=match o with
 |some (.own _ xs)=>eN i ρ=true∧t (ρ.set i (.d (.lst xs))) fun r ρ'=>noLr r=true∧ρ'=ρ.set i (.d (.lst xs))∧post r ρ
 |some (.bx b ls)=>eN i ρ=true∧toDB b ls fun x=>t (ρ.set i (.d x)) fun r ρ'=>noLr r=true∧ρ'=ρ.set i (.d x)∧post r ρ
 |_=>t ρ post
theorem GA(a:Addr)(xs:List D)(i:Nat)(t:W L)(ρ:Ev)(post:L→Ev→Prop):pkW (some (.own a xs)) i t ρ post=(eN i ρ=true∧t (ρ.set i (.d (.lst xs))) fun r ρ'=>noLr r=true∧ρ'=ρ.set i (.d (.lst xs))∧post r ρ):=(rfl)
theorem IG(b:Option Addr)(ls:List L)(i:Nat)(t:W L)(ρ:Ev)(post:L→Ev→Prop):pkW (some (.bx b ls)) i t ρ post=(eN i ρ=true∧toDB b ls fun x=>t (ρ.set i (.d x)) fun r ρ'=>noLr r=true∧ρ'=ρ.set i (.d x)∧post r ρ):=(rfl)
theorem JR(x:D)(i:Nat)(t:W L)(ρ:Ev)(post:L→Ev→Prop):pkW (some (.d x)) i t ρ post=t ρ post:=(rfl)
def pkB(o:Option L)(i:Nat)(t:W Bool)(ρ:Ev)(post:Bool→Ev→Prop):Prop:=match o with
 |some (.own _ xs)=>eN i ρ=true∧t (ρ.set i (.d (.lst xs))) fun r ρ'=>ρ'=ρ.set i (.d (.lst xs))∧post r ρ
 |some (.bx b ls)=>eN i ρ=true∧toDB b ls fun x=>t (ρ.set i (.d x)) fun r ρ'=>ρ'=ρ.set i (.d x)∧post r ρ
 |_=>t ρ post
theorem GB(a:Addr)(xs:List D)(i:Nat)(t:W Bool)(ρ:Ev)(post:Bool→Ev→Prop):pkB (some (.own a xs)) i t ρ post=(eN i ρ=true∧t (ρ.set i (.d (.lst xs))) fun r ρ'=>ρ'=ρ.set i (.d (.lst xs))∧post r ρ):=(rfl)
theorem IH(b:Option Addr)(ls:List L)(i:Nat)(t:W Bool)(ρ:Ev)(post:Bool→Ev→Prop):pkB (some (.bx b ls)) i t ρ post=(eN i ρ=true∧toDB b ls fun x=>t (ρ.set i (.d x)) fun r ρ'=>ρ'=ρ.set i (.d x)∧post r ρ):=(rfl)
theorem JS(x:D)(i:Nat)(t:W Bool)(ρ:Ev)(post:Bool→Ev→Prop):pkB (some (.d x)) i t ρ post=t ρ post:=(rfl)
variable{X:Cx}
variable{X:Cx}
theorem sG:∀{ns:List Int}{us:List Value},Vals (ns.map V.int) us→IntsAre us ns
 |[],_,r=>by cases r;exact .nil
 | n::ns,_,r=>by
  cases r with
  | cons r0 rs =>
   obtain⟨t,rfl⟩:=r0
   exact .cons n t (sG rs)
theorem BI:∀{ns:List Int}{us:List Value},IntsAre us ns→Vals (ns.map V.int) us
 |_,_,.nil=>.nil
 |_,_,.cons n t r=>.cons ⟨t,rfl⟩ (BI r)
theorem vc(hc:X.calm=true):iu X (.builtin "sum") (fun xs H Q=>∃(p:Addr)(ns:List Int),xs=[.ref p]∧SqL X.K H p (ns.map V.int)∧Q (.int ns.sum) H):=by
 intro pins s σ H xs us Q I r h
 obtain⟨p,ns,rfl,hq,q⟩:=h
 obtain⟨u,rfl,rx⟩:=oO r
 cases rx
 obtain⟨its,r',pl,hz⟩:=I.list hq
 have hi:=sG r'
 obtain⟨xs,hx⟩:=hi.allInts.items
 have hl':s.heap.IsList p (intItems xs):=hx ▸ pl.isList
 refine sum_intListG (I.ok.hd hc) hl' fun h' tk t' hk=>?_
 have e1:ns=xs.toList.map (·.1):=by
  rw[← nums_intItems,← hx]
  exact(show numsOf its.toArray.toList=ns from hi.numsOf).symm
 have e2:preSum (numAt xs) xs.size=ns.sum:=by
  rw[preSum_eq,List.take_of_length_le (by simp),e1]
 rw[e2]
 exact⟨.int ns.sum,H,I.kept hk,⟨_,rfl⟩,q⟩
theorem w5{h:Heap}{vs:List Value}{out:Array Value}:(∀ b o,h.get? b=some o→(sortedAll h vs out).get? b=some o)∧∃ c,(sortedAll h vs out).get? (h.objs.size+1)=some {cls:=.type "list",dict:=none,data:=.seq out c,slots:=#[] }:=by
 refine⟨fun b o e=>sortedAll_old e,?_⟩
 have hsz:((h.push (seqObj "list" #[] 0)).update h.objs.size (Obj.mapSeq (·++vs.toArray))).objs.size=h.objs.size+1:=by
  rw[Heap.size_update,size_push']
 have hoL:(((h.push (seqObj "list" #[] 0)).update h.objs.size (Obj.mapSeq (·++vs.toArray))).push (seqObj "list" vs.toArray 0)).get? (h.objs.size+1)=some (seqObj "list" vs.toArray 0):=by
  rw[← hsz];exact Heap.get?_push_size _ rfl
 obtain⟨c,hc⟩:=sortedHeap_at (out:=out) hoL
 exact⟨c,hc⟩
theorem o9:iu X (.builtin "sorted") (fun xs H Q=>∃(p:Addr)(ns:List Int),xs=[.ref p]∧SqL X.K H p (ns.map V.int)∧ns.length < 64∧∀ l,H l=none→Q (.ref l) (upd H l (.lst ((PySem.W.sortI ns).map V.int)))):=by
 intro pins s σ H xs us Q I r h
 obtain⟨p,ns,rfl,hq,h64,q⟩:=h
 obtain⟨u,rfl,rx⟩:=oO r
 cases rx
 obtain⟨its,r',pl,hz⟩:=I.list hq
 have hi:=sG r'
 have hlen:its.length=ns.length:=by have:=r'.length;simpa using this.symm
 refine sorted_ints pl.isList hi (by omega) fun out ns' a1 a2 a3=>?_
 have e:=PySem.W.eq_sortI a2 a3
 subst e
 obtain⟨k1,c,k2⟩:=w5 (h:=s.heap) (vs:=its) (out:=out)
 refine⟨.ref (s.heap.objs.size+1),_,I.laid (t':=s.toks) k1 (Nat.le_succ _) (show fU X.prog X.w _ _ _ (.lst ((PySem.W.sortI ns).map V.int))from⟨?_,out.toList,c,BI a1,by simpa using k2⟩),rfl,q _ (I.hok.fresh (Nat.le_succ _))⟩
 rw[List.length_map,(PySem.W.sortI_perm ns).length_eq]
 exact Nat.le_trans (Nat.le_of_lt h64) (by decide)
theorem iD{K:PySem.W.Frag}{H:Hp}:∀{vs:List V}{ns:List Int},Reps K H vs (ns.map D.int)→vs=ns.map V.int
 |_,[],r=>by cases r;rfl
 | _,n::ns,r=>by
  cases r with
  | cons r0 rs =>
   cases r0
   rw[iD rs]
   rfl
def II:OpN:=fun ds k=>∃ns:List Int,ds=[.lst (ns.map D.int)]∧k (.d (.int ns.sum))
theorem IJ(hc:X.calm=true):d3 X (.builtin "sum") II:=d3.of (vc hc) fun σ H Pr ρ vs ds post E ps ⟨ns,e,h⟩=>by
 subst e
 obtain⟨v,rfl,r⟩:=lI ps
 cases r with
 | lst hz rs =>
  have:=iD rs
  subst this
  exact⟨_,ns,rfl,hz.l,_,E.cons_d (.int _),h⟩
def yX:OpN:=fun ds k=>∃ns:List Int,ds=[.lst (ns.map D.int)]∧ns.length<64∧∀a,k (.own a ((PySem.W.sortI ns).map D.int))
theorem BJ:d3 X (.builtin "sorted") yX:=d3.of o9 fun σ H Pr ρ vs ds post E ps ⟨ns,e,h64,h⟩=>by
 subst e
 obtain⟨v,rfl,r⟩:=lI ps
 cases r with
 | lst hz rs =>
  have:=iD rs
  subst this
  exact⟨_,ns,rfl,hz.l,h64,fun l hl=>⟨_,E.cons_own hl (oZ _),h l⟩⟩
variable{X:Cx}
section
variable{X:Cx}{e a b c:Expr}{es:List Expr}{pos p p2:Pos}{ta:W L}{x y:Str}
def nL:List (Op2×W L)→D→W L
 |[],_=>fun _ _=>False
 |[(o,t)],dx=>fun ρ post=>t ρ fun y ρ1=>toD y fun dy=>o dx dy fun r=>isBl r fun k=>post (.d (.bl k)) ρ1
 |(o,t)::q::r,dx=>fun ρ post=>t ρ fun y ρ1=>toD y fun dy=>o dx dy fun z=>isBl z fun k=>if k=true then nL (q::r) dy ρ1 post else post (.d (.bl false)) ρ1
def w7(ta:W L)(ls:List (Op2×W L)):W L:=fun ρ post=>ta ρ fun x ρ1=>toD x fun dx=>nL ls dx ρ1 post
inductive vd (X:Cx):List CmpOp→List Expr→List (Op2×W L)→Prop where
 |one {op:CmpOp} {e:Expr} {o:Op2} {t:W L} (ho:OpD X (compareOp op) o) (h:PL X e t):vd X [op] [e] [(o,t)]
 |cons {op:CmpOp} {e:Expr} {o:Op2} {t:W L} {ops:List CmpOp} {es:List Expr} {ls:List (Op2×W L)} (ho:OpD X (compareOp op) o) (h:PL X e t) (r:vd X ops es ls):vd X (op::ops) (e::es) ((o,t)::ls)
theorem sH{op:CmpOp}{o:Op2}{pins:List (Addr×Obj)}{s:Shared}{σ:St}{H Pr:Hp}{ρ:Ev}{v:V}{u:Value}{dx:D}{R:Bool→D→Ev→Prop}{t:W L}{Q:Value→Value→Shared→Prop}(ho:OpD X (compareOp op) o)(h:PL X e t)
  (I:Inv X pins σ H s) (rv:RelV v u) (E:REnv X.K Pr H (some v::σ) (.d dx::ρ)) (ht:t ρ fun y ρ1=>toD y fun dy=>o dx dy fun r=>isBl r fun k=>R k dy ρ1)
  (hQ:∀u2 s3 w2 dy H3 ρ1 k,Inv X pins σ H3 s3→RelV w2 u2→REnv X.K Pr H3 (some w2::σ) (.d dy::ρ1)→R k dy ρ1→Q u2 (.bool k) s3) :
  wpAny (model X.prog X.w) X.A (eval e X.env) (fun b s₁=>wpAny (model X.prog X.w) X.A (compareOp op u b) (fun c s₂=>Q b c s₂) X.xe s₁) X.xe s:=by
 refine thn (h pins s σ H _ ρ _ I E.tail.wide ht) fun u2 s2 q=>?_
 obtain⟨y,H2,dy,ρ2,I2,r2,E2,q2⟩:=EL.frz (post:=fun dy ρ1=>o dx dy fun r=>isBl r fun k=>R k dy ρ1) q
 have E3:REnv X.K Pr H2 (some y::some v::σ) (.d dy::.d dx::ρ2):=REnv.step (τ:=[some v]) (lam:=[.d dx]) (w:=[some y]) (μ:=[.d dy]) E rfl E2 rfl
 obtain⟨_,e1,p1⟩:=E3.head_d
 obtain⟨_,e2,p2⟩:=E3.tail.head_d
 cases e1
 cases e2
 have E4:REnv X.K Pr H2 σ ρ2:=E3.tail.tail
 have E5:REnv X.K Pr H2 (some y::σ) (.d dy::ρ2):=E4.cons_d p1
 have E5w:=E5
 refine thn (ho pins s2 σ H2 (bp H2 ρ2) ρ2 v y u u2 dx dy _ I2 rv r2 E4.wide p2 p1 q2) fun w s3 ⟨z,H3,r,I3,rz,E6,pp⟩=>?_
 obtain⟨k,rfl,pp⟩:=oU pp
 obtain⟨_,e3,p3⟩:=E6.head_d
 cases e3
 cases p3
 cases rz
 have P3:Pres H2 H3:=se E4 E6.sub
 have E7:REnv X.K Pr H3 σ ρ2:=E4.narrow E6.tail
 exact hQ u2 s3 y dy H3 ρ2 k I3 r2 (E7.cons_d (p1.pres P3)) pp
theorem DS{ops:List CmpOp}{es:List Expr}{ls:List (Op2×W L)}(h:vd X ops es ls):∀(pins:List (Addr×Obj))(s:Shared)(σ:St)(H Pr:Hp)(ρ:Ev)(post:L→Ev→Prop)(v:V)(u:Value)(dx:D)(pos:Pos),Inv X pins σ H s→RelV v u→REnv X.K Pr H (some v::σ) (.d dx::ρ)→nL ls dx ρ post →
  wpAny (model X.prog X.w) X.A (compareChain pos u ops (evalEach es X.env)) (EL X pins σ Pr post) X.xe s:=by
 induction h with
 | one ho h =>
  intro pins s σ H Pr ρ post v u dx pos I rv E hl
  refine chain_last ?_
  exact sH (R:=fun k _ ρ1=>post (.d (.bl k)) ρ1) (Q:=fun _ c s=>EL X pins σ Pr post c s) ho h I rv E hl fun u2 s3 w2 dy H3 ρ1 k I3 r3 E3 q=>⟨.bl k,H3,_,ρ1,I3,rfl,E3.tail.cons_d (.bl k),q⟩
 | @cons op e o t ops es ls ho h r ih =>
  intro pins s σ H Pr ρ post v u dx pos I rv E hl
  cases r with
  | one ho2 h2 =>
   refine chain_link (sH (R:=fun k dy ρ1=>if k=true then nL [_] dy ρ1 post else post (.d (.bl false)) ρ1) (Q:=fun b c s=>wpAny (model X.prog X.w) X.A (truthy c) (fun t s₃=>if t then _ else EL X pins σ Pr post c s₃) X.xe s) ho h I rv E hl fun u2 s3 w2 dy H3 ρ1 k I3 r3 E3 q=>?_)
   refine wpAny_truthy_bool ?_
   cases k with
   |false=>exact ite_ff ⟨.bl false,H3,_,ρ1,I3,rfl,E3.tail.cons_d (.bl false),q⟩
   |true=>exact ite_tt (ih pins s3 σ H3 Pr ρ1 post w2 u2 dy pos I3 r3 E3 q)
  | cons ho2 h2 r2 =>
   cases r2 with
   | one ho3 h3 =>
    refine chain_link (sH (R:=fun k dy ρ1=>if k=true then nL (_::_::_) dy ρ1 post else post (.d (.bl false)) ρ1) (Q:=fun b c s=>wpAny (model X.prog X.w) X.A (truthy c) (fun t s₃=>if t then _ else EL X pins σ Pr post c s₃) X.xe s) ho h I rv E hl fun u2 s3 w2 dy H3 ρ1 k I3 r3 E3 q=>?_)
    refine wpAny_truthy_bool ?_
    cases k with
    |false=>exact ite_ff ⟨.bl false,H3,_,ρ1,I3,rfl,E3.tail.cons_d (.bl false),q⟩
    |true=>exact ite_tt (ih pins s3 σ H3 Pr ρ1 post w2 u2 dy pos I3 r3 E3 q)
   | cons ho3 h3 r3 =>
    refine chain_link (sH (R:=fun k dy ρ1=>if k=true then nL (_::_::_) dy ρ1 post else post (.d (.bl false)) ρ1) (Q:=fun b c s=>wpAny (model X.prog X.w) X.A (truthy c) (fun t s₃=>if t then _ else EL X pins σ Pr post c s₃) X.xe s) ho h I rv E hl fun u2 s3 w2 dy H3 ρ1 k I3 r3 E3 q=>?_)
    refine wpAny_truthy_bool ?_
    cases k with
    |false=>exact ite_ff ⟨.bl false,H3,_,ρ1,I3,rfl,E3.tail.cons_d (.bl false),q⟩
    |true=>exact ite_tt (ih pins s3 σ H3 Pr ρ1 post w2 u2 dy pos I3 r3 E3 q)
theorem BK{op op':CmpOp}{ops:List CmpOp}{r1 r2:Expr}{rs:List Expr}{ls:List (Op2×W L)}(ha:PL X a ta)(h:vd X (op::op'::ops) (r1::r2::rs) ls)(hm:lastMarks (op::op'::ops) (r1::r2::rs)=false:=by with_unfolding_all rfl):PL X (.Compare a (op::op'::ops) (r1::r2::rs) pos) (w7 ta ls):=by
 intro pins s σ H Pr ρ post I E ht
 refine Compare_chain (thn (ha pins s σ H Pr ρ _ I E ht) fun u s1 q=>?_) hm
 obtain⟨v,H1,dx,ρ1,I1,rv,E1,q1⟩:=EL.frz (post:=fun dx ρ1=>nL ls dx ρ1 post) q
 exact DS h pins s1 σ H1 Pr ρ1 post v u dx pos I1 rv E1 q1
theorem w8{prog:Program}{w:World}{A:Around}{ks:List Bool}{us:List Value}(h:us=ks.map Value.bool):TruthOf prog w A (fun i v=>us.toArray[i]?=some v) (fun i=>ks.getD i true):=fun i v s Q E hv hQ=>by
 subst h
 rw[List.getElem?_toArray,List.getElem?_map]at hv
 cases q:ks[i]? with
 |none=>rw[q]at hv;cases hv
 | some k =>
  rw[q]at hv
  cases hv
  refine wpAny_truthy_bool ?_
  have:ks.getD i true=k:=by rw[List.getD_eq_getElem?_getD,q];rfl
  have hQ':Q (ks.getD i true) s:=hQ
  rw[this]at hQ'
  exact hQ'
theorem BL(ks:List Bool):(List.range ks.length).all (fun i=>ks.getD i true)=ks.all id:=by
 apply Bool.eq_iff_iff.mpr
 simp only[List.all_eq_true,List.mem_range,id]
 constructor
 ·
  intro h x hx
  obtain⟨i,hi,e⟩:=List.getElem_of_mem hx
  have:=h i hi
  rw[List.getD_eq_getElem?_getD,List.getElem?_eq_getElem hi]at this
  simpa[e]using this
 ·
  intro h i hi
  rw[List.getD_eq_getElem?_getD,List.getElem?_eq_getElem hi]
  exact h _ (List.getElem_mem hi)
theorem rC:∀{ks:List Bool}{us:List Value},Vals (ks.map V.bl) us→us=ks.map Value.bool
 |[],_,.nil=>rfl
 | k::ks,_,.cons r t=>by
  have e:=rC t
  subst e
  cases r
  rfl
theorem ve(hc:X.calm=true):iu X (.builtin "all") (fun xs H Q=>∃(p:Addr)(ks:List Bool),xs=[.ref p]∧SqL X.K H p (ks.map V.bl)∧Q (.bl (ks.all id)) H):=by
 intro pins s σ H xs us Q I r ⟨p,ks,e,hq,q⟩
 subst e
 obtain⟨u,rfl,r1⟩:=oO r
 cases r1
 obtain⟨its,rv,pl,hz⟩:=I.list hq
 have e:=rC rv
 refine call_all_walk (wpAny_pyIter_list pl.isList ?_)
 have hne:p≠s.heap.objs.size:=fun z=>by
  obtain⟨o,n,eo,_⟩:=pl
  have:=Heap.lt_size eo
  rw[z]at this
  exact absurd this (Nat.lt_irrefl _)
 refine⟨s.heap.objs.size,_,_,_,_,_,(fun i=>ks.getD i true),rfl,Walks.list (A:=X.A.in1) (I.ok.hd hc) _ p hne its.toArray,⟨⟨_,Heap.get?_push_size _ rfl,rfl,rfl⟩,pl.isList.at fun o eo=>Heap.get?_push_of_some _ eo⟩,w8 e,fun h' tk hk=>?_⟩
 have hl:its.toArray.size=ks.length:=by rw[e];simp
 rw[hl,BL]
 refine⟨.bl _,H,I.kept (h':=h') (t':=tk) fun b o eb=>hk b o (fun hm=>?_) (Heap.get?_push_of_some _ eb),rfl,q⟩
 have e2:b=s.heap.objs.size:=by simpa using hm
 have:=Heap.lt_size eb
 rw[e2]at this
 exact absurd this (Nat.lt_irrefl _)
theorem lJ{K:PySem.W.Frag}{H:Hp}:∀{vs:List V}{ks:List Bool},Reps K H vs (ks.map D.bl)→vs=ks.map V.bl
 |[],[],_=>rfl
 | _::_,k::ks,.cons r t=>by
  cases r
  rw[lJ t];rfl
 |[],_::_,r=>nomatch r
 |_::_,[],r=>nomatch r
def IK:OpN:=fun ds k=>∃ks:List Bool,ds=[.lst (ks.map D.bl)]∧k (.d (.bl (ks.all id)))
theorem IL(hc:X.calm=true):d3 X (.builtin "all") IK:=d3.of (ve hc) fun σ H Pr ρ vs ds post E ps ⟨ks,e,h⟩=>by
 subst e
 obtain⟨v,rfl,r⟩:=lI ps
 cases r with
 | lst hz rs =>
  have e:=lJ rs
  subst e
  exact⟨_,ks,rfl,hz.l,_,E.cons_d (.bl _),h⟩
end
end L2
set_option exponentiation.threshold 2000
namespace L2
open PySem PySem.Spec PyProof.Rows
section
variable{X:Cx}{e a b:Expr}{x y:Str}
mutual
def bj:D→Bool
 |.int i=>decide (i.natAbs<2^1900)
 |.tup xs=>bY xs
 |.lst xs=>bY xs
 |_=>true
def bY:List D→Bool
 |[]=>true
 |x::xs=>bj x && bY xs
end
theorem GC:(2:Nat)^1900<10^600:=by decide +kernel
theorem BM{i:Int}(h:i.natAbs<2^1900):(PyData.shown (.int i)).length≤601:=by
 have e:=PySem.int_text_length_le10 (k:=600) (by decide) (Nat.lt_trans h GC)
 show(Str.ofString (toString i)).length≤601
 rw[PySem.ofString_length];exact e
mutual
theorem gz:∀d:D,bj d=true→(toP d).intsShort 601=true∧(toP d).showable=true
 |.non,_=>⟨rfl,rfl⟩
 |.bl _,_=>⟨rfl,rfl⟩
 |.str _,_=>⟨rfl,rfl⟩
 |.dct _,_=>⟨rfl,rfl⟩
 |.exc _ _ _,_=>⟨rfl,rfl⟩
 |.fn _ _,_=>⟨rfl,rfl⟩
 | .int i,h=>by
  have h':i.natAbs<2^1900:=by simpa only[bj,decide_eq_true_eq]using h
  refine⟨by simp only[toP,PyData.intsShort,decide_eq_true_eq];exact BM h',?_⟩
  simp only[toP,PyData.showable,decide_eq_true_eq]
  by_cases h0:i.natAbs=0
  ·
   rw[h0];decide
  ·
   exact(Nat.log2_lt h0).mpr (Nat.lt_of_lt_of_le h' (Nat.pow_le_pow_right (by decide) (by decide)))
 | .tup xs,h=>by
  obtain⟨h1,h2⟩:=pd xs (by simpa only[bj]using h)
  exact⟨by simpa only[toP,PyData.intsShort]using h1,by simpa only[toP,PyData.showable]using h2⟩
 | .lst xs,h=>by
  obtain⟨h1,h2⟩:=pd xs (by simpa only[bj]using h)
  exact⟨by simpa only[toP,PyData.intsShort]using h1,by simpa only[toP,PyData.showable]using h2⟩
theorem pd:∀ds:List D,bY ds=true→PyData.intsShortAll 601 (toPs ds)=true∧PyData.showableAll (toPs ds)=true
 |[],_=>⟨rfl,rfl⟩
 | d::ds,h=>by
  simp only[bY,Bool.and_eq_true]at h
  obtain⟨h1,h2⟩:=gz d h.1
  obtain⟨h3,h4⟩:=pd ds h.2
  exact⟨by simp only[toPs,PyData.intsShortAll,h1,h3,Bool.and_self],by simp only[toPs,PyData.showableAll,h2,h4,Bool.and_self]⟩
end
def IM(d:D):Str:=(toP d).shown
structure yY (d:D):Prop where
 ok:okD 40 d=true
 sh:bj d=true
 wt:(toP d).weight≤20000
theorem yY.len{d:D}(h:yY d):(toP d).shown.length≤sizeLine:=by
 have h1:=PyData.shown_le 601 (by decide) (toP d) (PyData.leavesShort_of_canLay0 601 _ (o6 40 d h.ok).1 (gz d h.sh).1)
 have h2:=h.wt
 have e:sizeLine=16777216:=by decide
 rw[e]
 omega
def DT:Op2:=fun x y k=>match x,y with
 |.str a,.str b=>k (.d (.bl (decide (a=b))))
 |_,_=>False
def DU:Op2:=fun x y k=>match x,y with
 |.str a,.str b=>k (.d (.bl (!decide (a=b))))
 |_,_=>False
theorem IP:OpD X (compareOp .Eq) DT:=OpD.of JC fun σ H Pr ρ x y dx dy post E px py h=>by
 unfold DT at h
 split at h
 ·
  cases px
  cases py
  rename_i a b
  refine⟨rfl,_,E.cons_d (.bl _),?_⟩
  have e:decide (V.str a=V.str b)=decide (a=b):=by simp
  rw[e]
  exact h
 ·
  exact h.elim
theorem IQ:OpD X (compareOp .NotEq) DU:=OpD.of JD fun σ H Pr ρ x y dx dy post E px py h=>by
 unfold DU at h
 split at h
 ·
  cases px
  cases py
  rename_i a b
  refine⟨rfl,_,E.cons_d (.bl _),?_⟩
  have e:decide (V.str a=V.str b)=decide (a=b):=by simp
  rw[e]
  exact h
 ·
  exact h.elim
def fzW(f:Fl)(o:Option L)(j:Nat)(ρ1:Ev)(post:Fl→Ev→Prop):Prop:=match f with
 | .nx=>(match o with
  |some (.own _ xs)=>post .nx (ρ1.set j (.d (.lst xs)))
  |_=>post .nx ρ1)
 |f=>post f ρ1
theorem GD(a:Addr)(xs:List D)(j:Nat)(ρ1:Ev)(post:Fl→Ev→Prop):fzW .nx (some (.own a xs)) j ρ1 post=post .nx (ρ1.set j (.d (.lst xs))):=(rfl)
theorem JT(x:D)(j:Nat)(ρ1:Ev)(post:Fl→Ev→Prop):fzW .nx (some (.d x)) j ρ1 post=post .nx ρ1:=(rfl)
end
theorem REnv.closeT{K:PySem.W.Frag}{Pr H:Hp}{σ:St}{ρ:Ev}{a:Addr}{vs:List V}{ls:List L}(hl:vs.length=ls.length)(h:SqT K H a vs)(E:REnv K Pr H (vs.map some++σ) (ls++ρ)):REnv K Pr H (some (.ref a)::σ) (.bx none ls::ρ):=by
 obtain⟨s1,s2⟩:=Paired.unapp (by simp[hl]) E.sl
 have ow:owns (.bx none ls::ρ)=owns (ls++ρ):=by
  rw[aI,aE]
  simp only[bH,Option.toList,List.nil_append,dQ]
 refine⟨E.sub,by rw[ow];exact E.nd,fun b hb=>E.off b (by rw[← ow];exact hb),.cons ?_ s2⟩
 unfold bI
 exact⟨a,vs,rfl,h,cQ.mpr s1⟩
section
variable{X:Cx}{e b:Expr}{es:List Expr}{pos:Pos}
def GE(t:W (List L)):W L:=fun ρ post=>t ρ fun ls ρ1=>ls.length≤sizeLine∧post (.bx none ls) ρ1
theorem GF {x1} {bs:List (Option Nat)} {t:W (List L)} (h:PAL X es bs t):PL X (.Tuple es x1 pos) (GE t):=by
 intro pins s σ H Pr ρ post I E hq
 refine wpAny_Tuple_spliced (thn (h pos pins s σ H Pr ρ _ I E hq) fun us s1 ⟨vs,H1,ls,ρ1,I1,r,hl,hb,E1,hv,z,q⟩=>?_)
 refine⟨by rw[← r.length,hl];exact z,?_⟩
 have hf:H1 s1.heap.objs.size=none:=I1.hok.fresh (Nat.le_refl _)
 have E2:REnv X.K Pr (upd H1 s1.heap.objs.size (.tup vs)) (vs.map some++σ) (ls++ρ1):=E1.new hf
 refine⟨.ref s1.heap.objs.size,upd H1 s1.heap.objs.size (.tup vs),_,ρ1,I1.laid (t':=s1.toks) (fun b u e=>Heap.get?_push_of_some _ e) (Nat.le_refl _) ?_,rfl,E2.closeT hl (SqT.of bO),q⟩
 exact⟨by rw[hl];exact z,us,r,⟨_,Heap.get?_push_size _ rfl,rfl,_,rfl⟩⟩
end
section
variable{X:Cx}{pins:List (Addr×Obj)}{σ:St}{H Pr:Hp}{s:Shared}{ρ:Ev}{pos:Pos}
theorem Inv.past(I:Inv X pins σ H s):(s.heap.objs.size == sysModules)=false:=by
 have h:mainGlobals<s.heap.objs.size:=(I.mod.glob.keeps I.bk).lt
 exact beq_eq_false_iff_ne.mpr (Ne.symm (Nat.ne_of_lt (Nat.lt_trans (by decide) h)))
def GG(n:Nat):W L:=fun ρ post=>post (.d (.dct n)) ρ
theorem REnv.cons_dct{a:Addr}{o:Obj}{kvs:List (Key×V)}(E:REnv X.K Pr H σ ρ)(h:H a=none):REnv X.K Pr (upd H a (.frz o (.dK kvs))) (some (.ref a)::σ) (.d (.dct kvs.length)::ρ) :=
 (E.new h).cons_d (.dct bO)
theorem DV:PL X (.Dict [] [] pos) (GG 0):=by
 intro pins s σ H Pr ρ post I E hq
 have hf:H s.heap.objs.size=none:=I.hok.fresh (Nat.le_refl _)
 have I1:=I.laid (a:=s.heap.objs.size) (o:=.dK []) (h':=s.heap.push {cls:=.type "dict",data:=.dict #[] }) (t':=s.toks) (fun _ _ q=>Heap.get?_push_of_some _ q) (Nat.le_refl _) ⟨Nat.zero_le _,I.past,[],.nil,Heap.DictOf.new s.heap⟩
 obtain⟨o,I2⟩:=I1.freezeD bO
 rw[FF]at I2
 exact wpAny_Dict_empty ⟨.ref s.heap.objs.size,_,.d (.dct 0),ρ,I2,rfl,E.cons_dct (kvs:=[]) hf,hq⟩
end
structure FX (K:PySem.W.Frag) (mg:Str→Option Value) (g:Str) (st:Stmt) (a:Addr) (fd:FuncData) (P:List Str):Prop where
 f:Fun K g g st a fd
 b:wJ K fd P []
 m:mg g=some (.ref a)
abbrev fdM(g:Str)(st:Stmt)(md:Value)(c:Nat):FuncData:=PySem.W.fnOf g g (mJ st) (ix st) (ao st) .none .none .none md none (.ref c) .none
theorem FX.mk'{K:PySem.W.Frag}{mg:Str→Option Value}{h:Heap}(X:K.In h)(G:h.Ns mainGlobals mg){g:Str}{st:Stmt}{a:Addr}{c:Nat}{md:Value}{P:List Str}(e1:PySem.W.nsIn K mainGlobals g=some (some (.ref a)))
  (e2:K.lookup a=some ⟨.type "function",none,.func (fdM g st md c),#[]⟩) (e3:PySem.W.codeIn K (.ref c) g=true) (e4:PySem.W.keepIn K (.ref a)=true)
  (e5:∀(kV doc pm:Value)(an:Option Addr)(cdv ct:Value)(us:List Value),us.length=P.length→bindArgs (PySem.W.fnOf g g (mJ st) (ix st) (ao st) .none kV doc pm an cdv ct) ⟨us,[]⟩=pure (P.zip us)):FX K mg g st a (fdM g st md c) P :=
 ⟨Fo e2 e3 e4,(Fo e2 e3 e4).binds e5,PySem.W.mg_of X G e1⟩
section
variable{X:Cx}{k k' n:Nat}{f:Addr}{fd:FuncData}{ps:List Str}{fs:FS}{g:Str}{st:Stmt}{e:Expr}{es:List Expr}{bs:List (Option Nat)}{t:W (List L)}{p pos:Pos}
theorem aG(F:FnOk X.prog X.w X.K X.mg X.base CX0 k f fd ps (spF X.K n fs))(T:FX X.K X.mg g st f fd ps)(hr:Room k' X.A)(ha:PAL X (e::es) bs t)(hk:k≤k':=by decide)(hg:Gl X g:=by rfl)(hn:bs.length=n:=by rfl) (hdb:(g == ("__debug__" : Str))=false:=by decide) (he:starEach (e::es) X.env=(false,eval e X.env)::starEach es X.env:=by rfl) (hpl:(backTo pos (starEach es X.env)).any (·.1)=false:=by rfl) :
  PL X (.Call (.Name g p) (e::es) [] pos) (aD fs t):=Ga F (hr.mono hk) hg T.m T.f.kp T.b Ic ha hn hdb he hpl
theorem bc(F:FnOk X.prog X.w X.K X.mg X.base CX0 k f fd ps (spF X.K n fs))(T:FX X.K X.mg g st f fd ps)(hr:Room k' X.A)(j i:Nat)(ha:PAL X (e::es) bs t)(hk:k≤k':=by decide)(hg:Gl X g:=by rfl)(hj:bs[j]?=some (some i):=by rfl)(hn:bs.length=n:=by rfl) (hdb:(g == ("__debug__" : Str))=false:=by decide) (he:starEach (e::es) X.env=(false,eval e X.env)::starEach es X.env:=by rfl) (hpl:(backTo pos (starEach es X.env)).any (·.1)=false:=by rfl) :
  PL X (.Call (.Name g p) (e::es) [] pos) (a5 fs j i t):=Dz F (hr.mono hk) hg T.m T.f.kp T.b Ic j i ha hj hn hdb he hpl
end
section
variable{X:Cx}
def JU:Op2:=fun x y k=>match x,y with
 |.bl b,.bl c=>k (.d (.bl (b == c)))
 |_,_=>False
def BN:Op2:=fun x y k=>match x,y with
 |.bl b,.bl c=>k (.d (.bl (!(b == c))))
 |_,_=>False
theorem GH:OpD X (compareOp .IsNot) BN:=by
 intro pins s σ H Pr ρ x y v u dx dy post I rx ry E px py ho
 cases px with
 | bl b =>
  cases py with
  | bl c =>
   cases rx
   cases ry
   exact isnot_bool ⟨.bl (!(b == c)),H,.d (.bl (!(b == c))),I,rfl,E.cons_d (.bl _),ho⟩
  |_=>exact ho.elim
 |_=>cases py<;>exact ho.elim
end
mutual
def depD:D→Nat
 |.tup xs=>w9 xs+1
 |.lst xs=>w9 xs+1
 |_=>0
def w9:List D→Nat
 |[]=>0
 |x::xs=>max (depD x) (w9 xs)
end
theorem yZ{n:Nat}:∀{xs:List D},(∀x∈xs,depD x≤n)→w9 xs≤n
 |[],_=>Nat.zero_le _
 | y::ys,h=>by
  simp only[w9]
  have:=h y List.mem_cons_self
  have:=yZ (xs:=ys) fun x hx=>h x (List.mem_cons_of_mem _ hx)
  omega
end L2
namespace L2
open PySem PySem.Spec PyProof.Rows PySem.Builtin.Str
inductive Sk where
 |l|t
abbrev Zi:=Sk×Addr×Addr
def Zi.ofs(js:List Zi):List Addr:=js.map (·.2.1)
def IR(z O:Addr)(js:List Zi)(h h':Heap):Prop:=∀c o,c∉z::O::Zi.ofs js→h.get? c=some o→h'.get? c=some o
def Sk.nm:Sk→String
 |.l=>"list_iterator"
 |.t=>"tuple_iterator"
def SqK(K:PySem.W.Frag)(H:Hp):Sk→Addr→List V→Prop
 |.l,a,xs=>SqL K H a xs
 |.t,a,xs=>SqT K H a xs
def SqF(K:PySem.W.Frag)(H:Hp):Sk→Addr→List V→Prop
 |.l,a,xs=>SqZ K H a xs
 |.t,a,xs=>SqT K H a xs
theorem SqF.pres{K:PySem.W.Frag}{H H':Hp}{k:Sk}{a:Addr}{xs:List V}(p:Pres H H')(h:SqF K H k a xs):SqK K H' k a xs:=by
 cases k with
 |l=>exact(SqZ.pres p h).l
 |t=>exact SqT.pres p h
theorem pf(xs ys:List D):((List.range (min xs.length ys.length)).map fun i=>D.tup [xs.getD i .non,ys.getD i .non])=zipD xs ys:=by
 refine List.ext_getElem (by simp[zipD]) fun i h1 h2=>?_
 have:i<min xs.length ys.length:=by simpa using h1
 simp only[List.getElem_map,List.getElem_range,zipD,List.getElem_zip]
 rw[List.getD_eq_getElem?_getD,List.getD_eq_getElem?_getD,List.getElem?_eq_getElem (by omega),List.getElem?_eq_getElem (by omega)]
 rfl
section
variable{z O:Addr}{js:List Zi}
theorem IR.mono{h h':Heap}(k:IR z O js h h'){c:Addr}{o:Obj}(hc:c∉z::O::Zi.ofs js)(e:h.get? c=some o):h'.get? c=some o:=k c o hc e
end
end L2
namespace L2
open PySem PySem.Spec PyProof.Rows
end L2
namespace L2
open PySem PySem.Spec PyProof.Rows PySem.W
section
structure Fly (h:Heap) (e:Addr) (cls:Value) (dx T:Option Addr):Prop where
 ex:∃vs sl,h.get? e=some ⟨cls,dx,.fields vs,sl⟩∧1<vs.size∧(match T with
  |none=>vs[1]?=some .none
  |some t=>vs[1]?=some (.ref t)∧t≠e∧∃ot ts,h.get? t=some ot∧ot.data=.fields ts∧ts[3]?=some .none)
end
def del(H:Hp)(e:Addr):Hp:=fun b=>if b=e then none else H b
theorem nM{H:Hp}{e b:Addr}(h:b≠e):del H e b=H b:=by unfold del;rw[if_neg h]
theorem y3{H:Hp}{e:Addr}:del H e e=none:=by unfold del;rw[if_pos rfl]
theorem Fly.at{h h':Heap}{e:Addr}{cls:Value}{dx:Option Addr}(f:Fly h e cls dx none)(k:∀o,h.get? e=some o→h'.get? e=some o):Fly h' e cls dx none:=by
 obtain⟨vs,sl,he,hz,h1⟩:=f
 exact⟨vs,sl,k _ he,hz,h1⟩
def XO(e:Addr)(cls:Value)(dx:Option Addr):HO:=.ext fun h=>Fly h e cls dx none
def XD(d:Addr)(fs:List (Str×V)):HO:=.ext fun h=>∃mA,h.Ns1 d mA∧(∀f,RelO (fs.lookup f) (mA f))∧PySem.Within mA (fs.map (·.1))
theorem XO.ok{P:Program}{w:World}{H:Hp}{h:Heap}{e:Addr}{cls:Value}{dx:Option Addr}(f:Fly h e cls dx none):fU P w H h e (XO e cls dx):=by
 obtain⟨vs,sl,he,hz,h1⟩:=f
 exact⟨⟨vs,sl,he,hz,h1⟩,⟨_,he⟩,fun h1 h2 p k=>p.at k⟩
theorem XD.ok{P:Program}{w:World}{H:Hp}{h:Heap}{d:Addr}{fs:List (Str×V)}{mA:Str→Option Value}(n:h.Ns1 d mA)(r:∀f,RelO (fs.lookup f) (mA f))(wi:PySem.Within mA (fs.map (·.1))):fU P w H h d (XD d fs) :=
 ⟨⟨mA,n,r,wi⟩,let ⟨o,_,_,e,_⟩:=n;⟨o,e⟩,fun h1 h2 ⟨mA,n,r⟩ k=>⟨mA,n.at k,r⟩⟩
structure Xc where
 c:Str
 ns:List Str
 ds:List D
def XFly(K:Frag)(H:Hp)(cls:Value)(dx:Option Addr)(x:Xc):Prop:=∃C vs,cls=.ref C∧oR K x.c C=true∧(∀f∈x.ns,findIn K (.ref C) f=some none)∧XF H dx x.ns vs∧Reps K H vs x.ds
theorem XFly.ext{K:Frag}{H H':Hp}{cls:Value}{dx:Option Addr}{x:Xc}(f:XFly K H cls dx x)(h:∀b o,H b=some o→H' b=some o):XFly K H' cls dx x:=by
 obtain⟨C,vs,e,s,fq,a,r⟩:=f
 exact⟨C,vs,e,s,fq,a.pres fun b o _ q=>h b o q,r.pres fun b o _ q=>h b o q⟩
section
variable{H:Hp}
theorem HOk.there{P:Program}{w:World}{H:Hp}{h:Heap}(x:HOk P w H h){b:Addr}{o:HO}(e:H b=some o):∃u,h.get? b=some u:=by
 have lt:=x.lt e
 cases o with
 |lst xs=>obtain⟨_,_,_,_,e⟩:=x b _ e;exact⟨_,e⟩
 |tup xs=>obtain⟨_,_,_,o,e,_⟩:=x b _ e;exact⟨_,e⟩
 |dK kvs=>obtain⟨_,_,_,_,o,_,_,e,_⟩:=x b _ e;exact⟨_,e⟩
 |dT kvs=>obtain⟨_,_,_,_,o,_,_,e,_⟩:=x b _ e;exact⟨_,e⟩
 |set S n=>obtain⟨o,_,_,_,e,_⟩:=x b _ e;exact⟨_,e⟩
 |ins C dx fs=>obtain⟨_,_,_,e,_⟩:=x b _ e;exact⟨_,e⟩
 |own y=>obtain⟨_,e⟩:=x b _ e;exact⟨_,e⟩
 |xd fs=>obtain⟨_,⟨_,_,_,e,_⟩,_⟩:=x b _ e;exact⟨_,e⟩
 |rng lo hi=>obtain⟨_,_,_,e⟩:=x b _ e;exact⟨_,e⟩
 |frz ob u=>obtain⟨e,_⟩:=x b _ e;exact⟨_,e⟩
 |tbl t=>obtain⟨_,e,_⟩:=x b _ e;exact⟨_,e⟩
 |met f y=>exact⟨_,(show h.get? b=some _ from x b _ e)⟩
 |ext φ=>obtain⟨_,⟨_,e⟩,_⟩:=x b _ e;exact⟨_,e⟩
end
abbrev FSX:=List D→(L→Prop)→(Xc→Prop)→Prop
theorem REnv.ds{K:Frag}{H:Hp}:∀{vs:List V}{ds:List D},Reps K H vs ds→Paired (bI K H) (vs.map some) (ds.map .d)
 |_,_,.nil=>.nil
 |_,_,.cons h t=>.cons ⟨_,rfl,h⟩ (REnv.ds t)
def isA(c y:Str):Bool:=c == y ||c == ("LoadError" : Str)
structure XH (K:Frag) (mg:Str→Option Value) (c:Str) (C:Addr):Prop where
 m:mg c=some (.ref C)
 ns:nsIn K mainGlobals c=some (some (.ref C))
 cls:∃cd,clsIn K C=some cd∧cd.name=c
 ty:typeIn K (.ref C)=some (.type "type")
 base:mroIn K C (.type "BaseException")=some true
section
variable{K:Frag}{mg:Str→Option Value}{c y:Str}{C D:Addr}
theorem XH.sub(T:XH K mg c C)(hs:oR K y D=true):mroIn K D (.ref C)=some (isA c y):=by
 obtain⟨L,cd,S⟩:=oS hs
 obtain⟨cdC,hC,hn⟩:=T.cls
 obtain⟨kL,hL,hnL⟩:=S.lname
 rw[S.mroIn,Dt]
 congr 1
 unfold isA
 have e1:(C == D)=(c == y):=by
  by_cases h:c=y
  ·
   subst h
   have z:=T.ns.symm.trans S.own
   cases z
   simp
  ·
   rw[beq_eq_false_iff_ne.mpr h,beq_eq_false_iff_ne]
   intro z
   subst z
   rw[S.cls]at hC;cases hC
   exact h (hn.symm.trans S.name)
 have e2:(C == L)=(c == ("LoadError" : Str)):=by
  by_cases h:c=("LoadError" : Str)
  ·
   subst h
   have z:=T.ns.symm.trans S.load
   cases z
   simp
  ·
   rw[beq_eq_false_iff_ne.mpr h,beq_eq_false_iff_ne]
   intro z
   subst z
   rw[hL]at hC;cases hC
   exact h (hn.symm.trans hnL)
 rw[e1,e2]
end
end L2
namespace L2
open PySem PySem.Spec PyProof.Rows
section
variable{κ:Type}[DecidableEq κ]
theorem KV.any{kvs:List (κ×V)}{vs:List (κ×Value)}(r:KV kvs vs)(k:κ):(kvs.any fun kv=>decide (kv.1=k))=vs.any fun kv=>decide (kv.1=k):=by
 unfold KV at r
 induction r with
 |nil=>rfl
 |cons h t ih=>rw[List.any_cons,List.any_cons,ih,h.1]
theorem KV.length{kvs:List (κ×V)}{vs:List (κ×Value)}(r:KV kvs vs):kvs.length=vs.length:=Paired.length r
end
theorem IS{P:Program}{w:World}{k:Key}{u:Value}(r:RelV (kV k) u):(mI P w).is k u=true:=by
 cases k with
 |inl i=>obtain⟨t,e⟩:=(show ∃t,u=Value.int i t from r);subst e;exact wF P w i t
 |inr x=>obtain⟨t,e⟩:=(show ∃t,u=Value.str x t from r);subst e;exact wG P w x t
abbrev DR(K:PySem.W.Frag)(H:Hp):List (Key×V)→List (Key×D)→Prop:=Paired fun (p:Key×V) (q:Key×D)=>p.1=q.1∧Rep K H p.2 q.2
theorem DR.any{K:PySem.W.Frag}{H:Hp}{k:Key}:∀{vs:List (Key×V)}{kvs:List (Key×D)},DR K H vs kvs→(vs.any fun p=>decide (p.1=k))=kvs.any fun p=>decide (p.1=k)
 |_,_,.nil=>rfl
 |p::vs,q::kvs,.cons h t=>by rw[List.any_cons,List.any_cons,DR.any t,h.1]
theorem DR.pres{K:PySem.W.Frag}{H H':Hp}(p:Pres H H'){vs:List (Key×V)}{kvs:List (Key×D)}(h:DR K H vs kvs):DR K H' vs kvs:=Paired.mapP h fun _ _ z=>⟨z.1,z.2.pres p⟩
section
variable{X:Cx}{pos:Pos}
def flatC:D→Bool
 |.int _=>true
 |.str _=>true
 |.bl _=>true
 |.non=>true
 |_=>false
theorem Rep.flatC{K:PySem.W.Frag}{H H':Hp}{v:V}{d:D}(h:L2.flatC d=true)(r:Rep K H v d):Rep K H' v d:=by
 cases r with
 |int i=>exact .int i
 |str i=>exact .str i
 |bl i=>exact .bl i
 |non=>exact .non
 |_=>cases h
inductive DPs (X:Cx):List (Option Expr)→List Expr→List (Key×D)→Prop where
 |nil:DPs X [] [] []
 |int {k v:Expr} {ks:List (Option Expr)} {vs:List Expr} {i:Int} {d:D} {kvs:List (Key×D)} (hk:PL X k (wC (.int i))) (hv:PL X v (wC d)) (hf:flatC d=true) (t:DPs X ks vs kvs):DPs X (some k::ks) (v::vs) ((.inl i,d)::kvs)
 |str {k v:Expr} {ks:List (Option Expr)} {vs:List Expr} {y:Str} {d:D} {kvs:List (Key×D)} (hk:PL X k (wC (.str y))) (hv:PL X v (wC d)) (hf:flatC d=true) (t:DPs X ks vs kvs):DPs X (some k::ks) (v::vs) ((.inr y,d)::kvs)
theorem DPs.run{pos:Pos}{pins:List (Addr×Obj)}{σ:St}{Pr:Hp}{ρ:Ev}:∀{ks:List (Option Expr)}{vs:List Expr}{kvs:List (Key×D)},DPs X ks vs kvs→∀{H:Hp}{s:Shared}{Q:List (Value×Value)→Shared→Prop},Inv X pins σ H s→REnv X.K Pr H σ ρ →
  (∀(H':Hp)(s':Shared)(us:List (Value×Value))(ps:List (Key×V))(qs:List (Key×Value)),Inv X pins σ H' s'→REnv X.K Pr H' σ ρ→Carries (mI X.prog X.w) us qs→KV ps qs→DR X.K H' ps kvs→Q us s') →
  wpAny (model X.prog X.w) X.A (evalPairs (pairTrees ks vs X.env pos)) Q X.xe s
 |_,_,_,.nil,H,s,Q,I,E,h=>pairTrees_nil_walk (h H s [] [] [] I E True.intro .nil .nil)
 | _,_,_,.int (d:=d) hk hv hf t,H,s,Q,I,E,h=>by
  refine pairTrees_cons_walk (thn (hk pins s σ H Pr ρ (fun r ρ'=>r=.d _∧ρ'=ρ) I E ⟨rfl,rfl⟩) fun u s1 ⟨v,H1,r,ρ',I1,rv,E1,e1,e2⟩=>?_)
  subst e1 e2
  refine thn (hv pins s1 σ H1 Pr _ (fun r ρ'=>r=.d d∧ρ'=_) I1 E1.tail ⟨rfl,rfl⟩) fun u2 s2 ⟨v2,H2,r2,ρ2,I2,rv2,E2,e1,e2⟩=>?_
  subst e1 e2
  obtain⟨_,z1,p1⟩:=E1.head_d
  cases z1
  cases p1
  obtain⟨_,z2,p2⟩:=E2.head_d
  cases z2
  exact DPs.run t I2 E2.tail fun H' s' us ps qs I3 E3 hc hk3 hd=>h H' s' ((u,u2)::us) ((.inl _,v2)::ps) ((.inl _,u2)::qs) I3 E3 ⟨IS rv,rfl,hc⟩ (.cons ⟨rfl,rv2⟩ hk3) (.cons ⟨rfl,p2.flatC hf⟩ hd)
 | _,_,_,.str (d:=d) hk hv hf t,H,s,Q,I,E,h=>by
  refine pairTrees_cons_walk (thn (hk pins s σ H Pr ρ (fun r ρ'=>r=.d _∧ρ'=ρ) I E ⟨rfl,rfl⟩) fun u s1 ⟨v,H1,r,ρ',I1,rv,E1,e1,e2⟩=>?_)
  subst e1 e2
  refine thn (hv pins s1 σ H1 Pr _ (fun r ρ'=>r=.d d∧ρ'=_) I1 E1.tail ⟨rfl,rfl⟩) fun u2 s2 ⟨v2,H2,r2,ρ2,I2,rv2,E2,e1,e2⟩=>?_
  subst e1 e2
  obtain⟨_,z1,p1⟩:=E1.head_d
  cases z1
  cases p1
  obtain⟨_,z2,p2⟩:=E2.head_d
  cases z2
  exact DPs.run t I2 E2.tail fun H' s' us ps qs I3 E3 hc hk3 hd=>h H' s' ((u,u2)::us) ((.inr _,v2)::ps) ((.inr _,u2)::qs) I3 E3 ⟨IS rv,rfl,hc⟩ (.cons ⟨rfl,rv2⟩ hk3) (.cons ⟨rfl,p2.flatC hf⟩ hd)
theorem DPs.len:∀{ks:List (Option Expr)}{vs:List Expr}{kvs:List (Key×D)},DPs X ks vs kvs→ks.all (·.isSome)=true∧ks.length=vs.length∧ks.length=kvs.length
 |_,_,_,.nil=>⟨rfl,rfl,rfl⟩
 | _,_,_,.int _ _ _ t=>by
  obtain⟨h1,h2,h3⟩:=t.len
  simp[h1,h2,← h3]
 | _,_,_,.str _ _ _ t=>by
  obtain⟨h1,h2,h3⟩:=t.len
  simp[h1,h2,← h3]
end
end L2
namespace L2
open PySem PySem.Spec PyProof.Rows PySem.SeqAt
mutual
def y4:Nat→D→Bool
 |_,.non=>true
 |_,.bl _=>true
 |_,.int _=>true
 |_,.str _=>true
 |n+1,.tup xs=>xa n xs
 |n+1,.lst xs=>xa n xs
 |n+1,.dct m=>m == 0
 |_,_=>false
def xa:Nat→List D→Bool
 |_,[]=>true
 |n,x::xs=>y4 n x && xa n xs
end
mutual
def sgnD:D→Nat
 |.int _=>602
 |.str x=>10*x.length+2
 |.tup xs=>ph xs+3
 |.lst xs=>ph xs+3
 |_=>6
def ph:List D→Nat
 |[]=>0
 |x::xs=>sgnD x+2+ph xs
end
mutual
theorem y6:∀d:D,(toP d).leavesShort 601=true→(toP d).shown.length≤sgnD d
 |.non,_=>by decide
 |.bl b,_=>by cases b<;>decide
 | .int i,h=>by
  have e:(PyData.shown (.int i)).length≤601:=by simpa only[toP,PyData.leavesShort,decide_eq_true_eq]using h
  exact Nat.le_succ_of_le e
 | .str x,h=>by
  have hx:∀c∈x.cps.toList,c<16^8:=by simpa only[toP,PyData.leavesShort,List.all_eq_true,decide_eq_true_eq]using h
  have e:=PySem.StrLaws.reprText_len x hx
  simp only[toP,PyData.shown,sgnD]
  omega
 | .tup xs,h=>by
  have h1:=xb xs (by simpa only[toP,PyData.leavesShort]using h)
  have h2:=tupleText_len_le (PyData.shownAll (toPs xs))
  have h3:=PyData.shownAll_length (toPs xs)
  simp only[toP,PyData.shown,sgnD]
  omega
 | .lst xs,h=>by
  have h1:=xb xs (by simpa only[toP,PyData.leavesShort]using h)
  have h2:=listText_len_le (PyData.shownAll (toPs xs))
  have h3:=PyData.shownAll_length (toPs xs)
  simp only[toP,PyData.shown,sgnD]
  omega
 |.dct _,_=>by simp only[toP,sgnD];decide
 |.exc _ _ _,_=>by simp only[toP,sgnD];decide
 |.fn _ _,_=>by simp only[toP,sgnD];decide
theorem xb:∀ds:List D,PyData.leavesShortAll 601 (toPs ds)=true→((PyData.shownAll (toPs ds)).map (·.length)).sum+2*(toPs ds).length≤ph ds
 |[],_=>by simp only[toPs,PyData.shownAll,List.map_nil,List.sum_nil,List.length_nil,ph];omega
 | d::ds,h=>by
  have h':(toP d).leavesShort 601=true∧PyData.leavesShortAll 601 (toPs ds)=true:=by simpa only[toPs,PyData.leavesShortAll,Bool.and_eq_true]using h
  have h1:=y6 d h'.1
  have h2:=xb ds h'.2
  simp only[toPs,PyData.shownAll,List.map_cons,List.sum_cons,List.length_cons,ph]
  omega
end
structure GJ (d:D):Prop where
 ok:okD 40 d=true
 sh:bj d=true
 ln:(toP d).shown.length≤sizeLine
theorem yY.l{d:D}(h:yY d):GJ d:=⟨h.ok,h.sh,h.len⟩
theorem GJ.of{d:D}(h1:okD 40 d=true)(h2:bj d=true)(h3:sgnD d≤16777216):GJ d:=by
 refine⟨h1,h2,Nat.le_trans (y6 d (PyData.leavesShort_of_canLay0 601 _ (o6 40 d h1).1 (gz d h2).1)) ?_⟩
 have e:sizeLine=16777216:=by decide
 rw[e]
 exact h3
end L2
namespace L2
open PySem PySem.Spec PyProof.Rows
end L2
namespace L2
open PySem PySem.Spec PyProof.Rows PySem.W
end L2
namespace L2
open PySem PySem.Spec PyProof.Rows
end L2
namespace L2
open PySem PySem.Spec PyProof.Rows PySem.SeqAt
mutual
def okW:D→Bool
 |.dct n=>n == 0
 |.exc _ _ _=>false
 |.fn _ _=>false
 |.tup xs=>okWs xs
 |.lst xs=>okWs xs
 |.str x=>PyData.strOk x
 |_=>true
def okWs:List D→Bool
 |[]=>true
 |x::xs=>okW x && okWs xs
end
section
variable{X:Cx}{pins:List (Addr×Obj)}{σ:St}{H:Hp}{s:Shared}
theorem Inv.ne_sys(I:Inv X pins σ H s){a:Addr}{u:HO}(h:H a=some u):sysModules≠a:=fun e=>by
 obtain⟨mm,o,es,ep,q,_⟩:=I.mod.sysm
 subst e
 rw[(I.bs _ o q).2]at h
 cases h
theorem Inv.lst_sys(I:Inv X pins σ H s){a:Addr}{xs:List V}(h:SqZ X.K H a xs):sysModules≠a:=by
 rcases h with⟨o,h⟩|⟨o,its,n,h,_,_,hd,_⟩
 ·
  exact I.ne_sys h
 ·
  intro e
  obtain⟨mm,o',es,ep,q,hd',_⟩:=I.mod.sysm
  subst e
  rw[I.mod.kin _ o h]at q
  cases q
  rw[hd]at hd'
  cases hd'
mutual
theorem Fw(I:Inv X pins σ H s):∀(d:D)(x:V)(u:Value),RelV x u→Rep X.K H x d→okW d=true→∃as,Reads s.heap u (toP d) as∧sysModules∉as
 |.non,_,_,rv,r,_=>by cases r;cases rv;exact⟨_,.none,List.not_mem_nil⟩
 |.bl b,_,_,rv,r,_=>by cases r;cases rv;exact⟨_,.bool b,List.not_mem_nil⟩
 |.int i,_,_,rv,r,_=>by cases r;obtain⟨t,rfl⟩:=rv;exact⟨_,.int i t,List.not_mem_nil⟩
 |.str z,_,_,rv,r,_=>by cases r;obtain⟨t,rfl⟩:=rv;exact⟨_,.str z t,List.not_mem_nil⟩
 | .tup xs,_,_,rv,r,hc=>by
  cases r with
  | tup h rs =>
   cases rv
   obtain⟨its,vs,⟨o,e,c,n,d⟩,_⟩:=I.tuple h
   obtain⟨as,ra,hn⟩:=xc I xs _ _ vs rs (by simpa only[okW]using hc)
   exact⟨_,.tuple (xs:=toPs xs) e c d (by simpa using ra),hn⟩
 | .lst xs,_,_,rv,r,hc=>by
  cases r with
  | lst h rs =>
   cases rv
   obtain⟨its,vs,⟨o,n,e,c,_,d⟩,_⟩:=I.list h.l
   obtain⟨as,ra,hn⟩:=xc I xs _ _ vs rs (by simpa only[okW]using hc)
   exact⟨_,.list (xs:=toPs xs) e c d (by simpa using ra),fun z=>(List.mem_cons.mp z).elim (I.lst_sys h) hn⟩
 | .dct n,_,_,rv,r,hc=>by
  cases r with
  | dct h =>
   rename_i a o kvs
   cases rv
   have hk:kvs=[]:=by
    have:kvs.length=0:=by simpa only[okW,beq_iff_eq]using hc
    exact List.length_eq_zero_iff.mp this
   subst hk
   obtain⟨_,_,_,vs,kv,o',es,ep,e,ex,d,_,pr,_⟩:=I.hok a _ h
   cases kv
   have he:es.toList=[]:=by
    cases q:es.toList with
    |nil=>rfl
    |cons x xs=>rw[q]at pr;cases pr
   refine⟨_,.dict (kvs:=[]) (as:=[]) (bs:=[]) e ex.1 d (by rw[he];exact .nil) (by rw[he];exact .nil),fun z=>?_⟩
   exact(I.ne_sys h) (by simpa using z)
 |.exc _ _ _,_,_,_,_,hc=>by simp[okW]at hc
 |.fn _ _,_,_,_,_,hc=>by simp[okW]at hc
theorem xc(I:Inv X pins σ H s):∀(ds:List D)(vs:List V)(us:List Value),Vals vs us→Reps X.K H vs ds→okWs ds=true→∃as,ReadsAll s.heap us (toPs ds) as∧sysModules∉as
 |[],_,_,rv,r,_=>by cases r;cases rv;exact⟨_,.nil,List.not_mem_nil⟩
 | d::ds,_,_,rv,r,hc=>by
  have hc':okW d=true∧okWs ds=true:=by simpa[okWs]using hc
  cases r with
  | cons r0 rs =>
   cases rv with
   | cons v0 vs =>
    obtain⟨as,ra,na⟩:=Fw I d _ _ v0 r0 hc'.1
    obtain⟨bs,rb,nb⟩:=xc I ds _ _ vs rs hc'.2
    exact⟨_,.cons ra rb,fun z=>(List.mem_append.mp z).elim na nb⟩
end
end
mutual
theorem pj:∀d:D,okW d=true→bj d=true→(toP d).leavesShort 601=true
 |.non,_,_=>rfl
 |.bl _,_,_=>rfl
 |.dct _,_,_=>rfl
 |.exc _ _ _,h,_=>by simp[okW]at h
 |.fn _ _,h,_=>by simp[okW]at h
 | .int i,_,h=>by
  have:=(gz (.int i) h).1
  simpa only[toP,PyData.leavesShort,PyData.intsShort]using this
 |.str x,h,hs=>PyData.leavesShort_of_canLay0 601 (.str x) (by simpa only[okW,PyData.canLay0]using h) (gz (.str x) hs).1
 | .tup xs,h,hs=>by
  have:=mO xs (by simpa only[okW]using h) (by simpa only[bj]using hs)
  simpa only[toP,PyData.leavesShort]using this
 | .lst xs,h,hs=>by
  have:=mO xs (by simpa only[okW]using h) (by simpa only[bj]using hs)
  simpa only[toP,PyData.leavesShort]using this
theorem mO:∀ds:List D,okWs ds=true→bY ds=true→PyData.leavesShortAll 601 (toPs ds)=true
 |[],_,_=>rfl
 | d::ds,h,hs=>by
  simp only[okWs,Bool.and_eq_true]at h
  simp only[bY,Bool.and_eq_true]at hs
  simp only[toPs,PyData.leavesShortAll,pj d h.1 hs.1,mO ds h.2 hs.2,Bool.and_self]
end
structure StrW (d:D):Prop where
 ok:okW d=true
 sh:bj d=true
 dp:(toP d).depth≤40
 sg:sgnD d≤16777216
 ni:∀i,d≠.int i
theorem StrW.len{d:D}(h:StrW d):(toP d).shown.length≤sizeLine:=by
 have e:sizeLine=16777216:=by decide
 rw[e]
 exact Nat.le_trans (y6 d (pj d h.ok h.sh)) h.sg
end L2
namespace L2
open PySem PySem.Spec PyProof.Rows
section
def IT(o:Option L)(i k:Nat)(ρ:Ev)(post:L→Ev→Prop):Prop:=match o with
 |some (.bx none ls)=>∃l,ls[k]?=some l∧post l (ρ.set i (.bx none (ls.set k .un)))
 |some (.d (.tup ds))=>∃d,ds[k]?=some d∧post (.d d) ρ
 |_=>False
theorem DW(ls:List L)(i k:Nat)(ρ:Ev)(post:L→Ev→Prop):IT (some (.bx none ls)) i k ρ post=∃l,ls[k]?=some l∧post l (ρ.set i (.bx none (ls.set k .un))):=(rfl)
theorem GK(ds:List D)(i k:Nat)(ρ:Ev)(post:L→Ev→Prop):IT (some (.d (.tup ds))) i k ρ post=∃d,ds[k]?=some d∧post (.d d) ρ:=(rfl)
end
section
def JV(r:L)(ρ:Ev)(post:L→Ev→Prop):Prop:=match r with
 |.bx (some _) ls=>post (.bx none ls) ρ
 |_=>False
theorem DX(a:Addr)(ls:List L)(ρ:Ev)(post:L→Ev→Prop):JV (.bx (some a) ls) ρ post=post (.bx none ls) ρ:=(rfl)
end
end L2
namespace L2
open PySem PySem.Spec PyProof.Rows PySem.W
theorem Un.one{P:Program}{w:World}{fs:List Addr}{H H':Hp}{h h':Heap}{c:Addr}{oc:Obj}(hc:H c=none)(gc:h.get? c=some oc)(cc:∀q,¬yB oc q)(u:Un fs [] (upd H c (.frz oc (.own c))) H' h h')(ok:HOk P w H' h') :
  Un fs [] H (del H' c) h h'∧HOk P w (del H' c) h':=by
 have zc:H' c=some (.frz oc (.own c)):=u.frzs c oc _ bO
 have gc':h'.get? c=some oc:=(ok c _ zc).1
 have nz:∀b o,H' b=some o→o≠.frz oc (.own c)→b≠c:=fun b o e n z=>by subst z;rw[zc]at e;cases e;exact n rfl
 refine⟨⟨fun b o e n hb hx=>?_,fun b o e n hb hx=>?_,fun b o e n hx=>?_,fun b o e hx=>u.there b o e hx,fun b xs e=>?_,fun b o v e=>?_,fun b t e=>?_⟩,fun b o e=>?_⟩
 ·
  by_cases z:b=c
  ·
   subst z;rw[gc]at e;cases e;exact gc'
  ·
   exact u.keep b o e (by rw[aL z];exact n) hb hx
 ·
  by_cases z:b=c
  ·
   subst z;rw[gc]at e;cases e;exact⟨oc.slots,gc'⟩
  ·
   exact u.slot b o e (by rw[aL z];exact n) hb hx
 ·
  by_cases z:b=c
  ·
   subst z;exact y3
  ·
   rw[nM z];exact u.free b o e (by rw[aL z];exact n) hx
 ·
  have z:=bt e hc
  rw[nM z];exact u.tups b xs (by rw[aL z];exact e)
 ·
  have z:=bt e hc
  rw[nM z];exact u.frzs b o v (by rw[aL z];exact e)
 ·
  have z:=bt e hc
  rw[nM z];exact u.tbls b t (by rw[aL z];exact e)
 ·
  have hb:b≠c:=fun z=>by subst z;rw[y3]at e;cases e
  rw[nM hb]at e
  refine(ok b o e).stay (fun _ _ _ z=>z) (fun d z=>?_) (fun d xs z=>?_) fun d od q co z=>?_
  ·
   rw[nM (nz d _ z fun y=>nomatch y)];exact z
  ·
   rw[nM (nz d _ z fun y=>nomatch y)];exact z
  ·
   rw[nM (nz d _ z fun y=>by cases y;exact cc q co)];exact z
end L2
namespace L2
open PySem PySem.W
end L2
namespace L2
open PySem PySem.Spec PyProof.Rows PySem.SeqAt
structure RepW (d:D):Prop where
 ok:okW d=true
 sh:bj d=true
 dp:(toP d).depth≤40
 sg:sgnD d≤16777216
theorem RepW.len{d:D}(h:RepW d):(toP d).shown.length≤sizeLine:=by
 have e:sizeLine=16777216:=by decide
 rw[e]
 exact Nat.le_trans (y6 d (pj d h.ok h.sh)) h.sg
section
variable{X:Cx}
def pk:OpN:=fun ds k=>∃d,ds=[d]∧RepW d∧k (.d (.str (IM d)))
theorem oE{k:Nat}(hr:Room k X.A):d3 X (.builtin "repr") pk:=by
 intro pins s σ H Pr ρ vs us ds post I r E ps ⟨d,e,ho,h⟩
 subst e
 obtain⟨v,rfl,rd⟩:=lI ps
 obtain⟨u,rfl,ru⟩:=oO r
 have ref:∀ a,u=.ref a→wpAny (model X.prog X.w) X.A (call (.builtin "repr") [u]) (fun w s'=>∃ z H' r,Inv X pins σ H' s'∧RelV z w∧REnv X.K Pr H' (some z::σ) (r::ρ)∧post r) X.xe s:=by
  rintro a rfl
  obtain⟨as,rr,hn⟩:=Fw I d v _ ru rd ho.ok
  have hdp:=ho.dp
  refine repr_of_reads' rr (gz d ho.sh).2 (fun _=>hn) hr.gd (by have:=hr.units;omega) (fun _ _ e=>e) (fun h' t tk hk=>?_) ho.len
  exact⟨.str _,H,_,I.kept (h':=h') (t':=tk) hk,⟨t,rfl⟩,E.cons_d (.str _),h⟩
 cases rd with
 |non=>cases ru;exact PySem.P.repr_of_none ⟨.str _,H,_,I.tok _,⟨_,rfl⟩,E.cons_d (.str _),h⟩
 |bl b=>cases ru;exact PySem.P.repr_of_bool ⟨.str _,H,_,I.tok _,⟨_,rfl⟩,E.cons_d (.str _),by cases b<;>exact h⟩
 | int i =>
  obtain⟨t,rfl⟩:=ru
  have h2:=(gz (.int i) ho.sh).2
  simp only[toP,PyData.showable,decide_eq_true_eq]at h2
  exact PySem.P.repr_of_int h2 ⟨.str _,H,_,I.tok _,⟨_,rfl⟩,E.cons_d (.str _),h⟩
 |str x=>obtain⟨t,rfl⟩:=ru;exact PySem.P.repr_of_str ⟨.str _,H,_,I.tok _,⟨_,rfl⟩,E.cons_d (.str _),h⟩ ho.len
 |tup h1 h2=>cases ru;exact ref _ rfl
 |lst h1 h2=>cases ru;exact ref _ rfl
 |dct h1=>cases ru;exact ref _ rfl
 |exc=>have:=ho.ok;simp[okW]at this
 |fn=>have:=ho.ok;simp[okW]at this
end
end L2
namespace L2
open PySem PySem.Spec PyProof.Rows
def pkS(o q:Option L)(i j:Nat)(t:W L)(ρ:Ev)(post:L→Ev→Prop):Prop:=match o,q with
 |some (.own _ xs),some (.own b _)=>i≠j∧eN i ρ=true∧t (ρ.set i (.d (.lst xs))) fun r ρ'=>noLr r=true∧∃zs,noLs zs=true∧ρ'=(ρ.set i (.d (.lst xs))).set j (.own b zs)∧post r (ρ.set j (.own b zs))
 |_,_=>False
theorem GL(a b:Addr)(xs ys:List D)(i j:Nat)(t:W L)(ρ:Ev)(post:L→Ev→Prop):pkS (some (.own a xs)) (some (.own b ys)) i j t ρ post=(i≠j∧eN i ρ=true∧t (ρ.set i (.d (.lst xs))) fun r ρ'=>noLr r=true∧∃zs,noLs zs=true∧ρ'=(ρ.set i (.d (.lst xs))).set j (.own b zs)∧post r (ρ.set j (.own b zs))):=(rfl)
def trdW(o:Option L)(ρ:Ev)(post:Bool→Ev→Prop):Prop:=match o with
 |some (.d (.lst xs))=>post (!xs.isEmpty) ρ
 |_=>False
theorem DY(xs:List D)(ρ:Ev)(post:Bool→Ev→Prop):trdW (some (.d (.lst xs))) ρ post=post (!xs.isEmpty) ρ:=(rfl)
end L2
namespace HT
open PySem PySem.Spec PyProof.Rows
section
variable{prog:Program}{w:World}{A:Around}{E:Value→Shared→Prop}{s:Shared}
theorem oh{sl:Addr}{t:Tok}{n:Nat}{Q:Int×Int×Nat→Shared→Prop}(hs:s.heap.IsSliceOf sl .none .none (.int (-1) t))(h:Q ((n:Int)-1,-1,n) s):wpAny (model prog w) A (Builtin.Slice.sliceApplied (.ref sl) (pure (n:Int))) Q E s:=by
 obtain⟨os,hos,hcs,hds⟩:=id hs
 unfold Builtin.Slice.sliceApplied Builtin.Slice.sliceFields
 refine wpAny_bind (wpAny_bind (wpAny_field hos hds (x:=.none) rfl (wpAny_bind (wpAny_field hos hds (x:=.none) rfl (wpAny_bind (wpAny_field hos hds (x:=.int (-1) t) rfl (wpAny_pure ?_)))))))
 refine wpAny_bind (slicePart_int ?_)
 show wpAny _ _ (if((-1:Int) == 0)=true then _ else _) _ _ s
 rw[if_neg (by decide)]
 refine wpAny_bind (slicePart_none (wpAny_bind (slicePart_none (wpAny_bind (wpAny_pure ?_)))))
 show wpAny _ _ (match Builtin.Slice.sliceAdjust none none (-1) (n:Int)with|(lo,hi)=>pure (lo,(-1:Int),Builtin.Slice.slicePlaces lo hi (-1))) _ _ s
 have e1:Builtin.Slice.sliceAdjust none none (-1) (n:Int)=((n:Int)-1,-1):=by
  unfold Builtin.Slice.sliceAdjust
  rfl
 have e2:Builtin.Slice.slicePlaces ((n:Int)-1) (-1) (-1)=n:=by
  unfold Builtin.Slice.slicePlaces
  have h1:¬((-1:Int) > 0):=by omega
  simp only[h1,if_false,Int.neg_neg,Int.ediv_one]
  split<;>omega
 rw[e1]
 show wpAny _ _ (pure ((n:Int)-1,(-1:Int),Builtin.Slice.slicePlaces ((n:Int)-1) (-1) (-1))) _ _ s
 rw[e2]
 exact wpAny_pure h
theorem DZ(xs:Array Value):((List.range xs.size).filterMap fun (k:Nat)=>xs[((xs.size:Int)-1+(k:Int)*-1).toNat]?).toArray=xs.toList.reverse.toArray:=by
 have e:(fun (k:Nat)=>xs[((xs.size:Int)-1+(k:Int)*-1).toNat]?)=fun k=>xs[xs.size-1-k]?:=by
  funext k
  rw[show((xs.size:Int)-1+(k:Int)*-1).toNat=xs.size-1-k by omega]
 rw[e]
 have:=PySem.W.krv_range xs.size
 have e2:(List.range xs.size).filterMap (fun k=>xs[xs.size-1-k]?)=((List.range xs.size).map fun k=>xs.size-1-k).filterMap (xs[·]?):=by
  rw[List.filterMap_map]
  rfl
 rw[e2,this,List.filterMap_reverse,PySem.W.krv_all]
theorem getItem_tuple_rev{t sl:Addr}{items:Array Value}{k:Tok}{Q:Value→Shared→Prop}(ht:IsTup s.heap t items)(hs:s.heap.IsSliceOf sl .none .none (.int (-1) k))
  (h:Q (.ref s.heap.objs.size) {s with heap:=s.heap.push {cls:=.type "tuple",data:=.seq items.toList.reverse.toArray} }) (hsz:items.size≤sizeLine):wpAny (model prog w) A (getItem (.ref t) (.ref sl)) Q E s:=by
 have htake:sizeOk (.seq items.toList.reverse.toArray):=by
  show items.toList.reverse.toArray.size≤sizeLine
  rw[List.size_toArray,List.length_reverse,Array.length_toList]
  exact hsz
 obtain⟨os,hos,hcs,hds⟩:=id hs
 have hTs:s.TypeIs (.ref sl) "slice":=⟨os,hos,hcs⟩
 unfold getItem
 try with_reducible refine wpAny_holding ?_
 first|refine wpAny_bind (wpAny_pure ?_)|skip
 refine wpAny_bind (wpAny_sequenceKey ht.typeIs (by decide) ?_)
 refine wpAny_bind (wpAny_callSpecial?_slot (name:=Str.ofString "__getitem__") ht.typeIs PyProof.Rows.slot_tuple_getitem
  (wpAny_call_entry PyProof.Rows.slot_tuple_getitem ht.typeIs entry_tuple_getitem ?_ (args_tuple_getitem _ _)))
 show wpAny _ _ (Builtin.Tuple.tupleItemsOf (.ref t) >>= _) _ _ s
 refine wpAny_bind (tupleItemsOf_ ht ?_)
 refine wpAny_bind (wpAny_typeOf hTs ?_)
 rw[if_pos (by decide)]
 refine wpAny_bind (oh hs ?_)
 show wpAny _ _ (if((((items.size:Int)-1) == 0 && (-1:Int) == 1 && items.size == items.size)=true)then _ else _) _ _ s
 rw[if_neg (by simp),DZ]
 first
  |exact wpAny_bind (m:=Builtin.Tuple.tupleExact _) (wpAny_newObj_type (wpAny_pure ⟨_,rfl,wpAny_pure h⟩) htake)
  |exact wpAny_bind (m:=Builtin.Tuple.tupleExact _) (wpAny_newObj_type (wpAny_bind (wpAny_pure (wpAny_pure ⟨_,rfl,wpAny_pure h⟩))) htake)
  |exact wpAny_bind (wpAny_bind (m:=Builtin.Tuple.tupleExact _) (wpAny_newObj_type (wpAny_pure (wpAny_pure ⟨_,rfl,wpAny_pure h⟩)) htake))
  |exact wpAny_bind (wpAny_bind (m:=Builtin.Tuple.tupleExact _) (wpAny_newObj_type (wpAny_pure ⟨_,rfl,wpAny_pure h⟩) htake))
end
end HT
namespace L2
open PySem PySem.Spec PyProof.Rows
section
variable{X:Cx}{a:Expr}{pos p2 p3 p4:Pos}{ta:W L}{k4:Nat}
def GM(ta:W L):W L:=fun ρ post=>ta ρ fun r ρ1=>toD r fun d=>match d with
 |.tup xs=>post (.d (.tup xs.reverse)) ρ1
 |_=>False
theorem GN(ha:PL X a ta):PL X (.Subscript a (.Slice none none (some (.UnaryOp .USub (.Constant (.int 1) k4 p3) p4)) p2) pos) (GM ta):=by
 intro pins s σ H Pr ρ post I E h
 refine Subscript_ (thn (ha pins s σ H Pr ρ _ I E h) fun v s1 q=>?_)
 obtain⟨x,H1,d,ρ1,I1,r1,E1,q1⟩:=EL.frz (post:=fun d ρ1=>match d with
  |.tup xs=>post (.d (.tup xs.reverse)) ρ1
  |_=>False) q
 refine wpAny_Slice ?_
 rw[evalPart_none]
 refine wpAny_pure ?_
 refine wpAny_pure ?_
 rw[evalPart_some]
 refine thn (yJ (X:=X) (ag (i:=1)) pins s1 σ H1 _ ρ1 (fun r ρ2=>r=.d (.int (-1))∧ρ2=ρ1) I1 E1.tail.wide ⟨rfl,rfl⟩) fun u s2 ⟨z,H2,r,ρ2,I2,rz,E2,er,eρ⟩=>?_
 subst er eρ
 obtain⟨_,e1,p1⟩:=E2.head_d
 cases e1
 cases p1
 obtain⟨t,rfl⟩:=rz
 have F2:REnv X.K Pr H2 (some x::σ) (.d d::ρ2):=REnv.step (τ:=[some x]) (lam:=[.d d]) (w:=[]) (μ:=[]) E1 rfl E2.tail rfl
 have I3:Inv X pins σ H2 {s2 with heap:=s2.heap.push {cls:=.type "slice",data:=.fields #[.none,.none,.int (-1) t] } }:=I2.kept (t':=s2.toks) fun b ob q=>Heap.get?_push_of_some _ q
 obtain⟨_,e1,p1⟩:=F2.head_d
 cases e1
 cases p1 with
 | @tup l0 vs0 ds0 hz rs =>
  cases r1
  obtain⟨its,r,pl,hzz⟩:=I3.tuple hz
  have hlen:=r.length
  show wpAny (model X.prog X.w) X.A (subscriptTail a _ (.ref _) (.ref s2.heap.objs.size)) (EL X pins σ Pr post) X.xe {s2 with heap:=s2.heap.push {cls:=.type "slice",data:=.fields #[.none,.none,.int (-1) t] } }
  refine tail_any pl.typeIs PyProof.Rows.slot_tuple_getitem.lookup ?_ (by with_unfolding_all rfl)
  refine HT.getItem_tuple_rev pl (Heap.IsSliceOf.new ..) ?_ (by rw[List.size_toArray];omega)
  have I4:=I3.laid (t':=s2.toks) (o:=.tup vs0.reverse) (fun b ob q=>Heap.get?_push_of_some _ q) (Nat.le_refl _) ⟨by rw[List.length_reverse];exact hzz,_,r.reverse,IsTup.new _ _⟩
  exact⟨.ref _,_,_,ρ2,I4,rfl,F2.tail.cons_tup (I3.hok.fresh (Nat.le_refl _)) rs.reverse,q1⟩
 |_=>exact q1.elim
end
end L2
namespace L2
open PySem
theorem lK{g:Tg}{b:W Fl}{post:Fl→Ev→Prop}:∀(xs:List D)(I:Nat→Ev→Prop)(ρ:Ev),I 0 ρ →
  (∀j x ρ,xs[j]?=some x→I j ρ→∀Q:Fl→Ev→Prop,(∀ρ',I (j+1) ρ'→Q .nx ρ')→(∀ρ',I (j+1) ρ'→Q .ct ρ')→(∀ρ',post .nx ρ'→Q .bk ρ')→(∀r ρ',post (.rt r) ρ'→Q (.rt r) ρ')→g x ρ fun ρ1=>b ρ1 Q) →
  (∀ρ,I xs.length ρ→post .nx ρ)→fW g b xs ρ post
 |[],I,ρ,h0,_,fin=>fin ρ h0
 | x::xs,I,ρ,h0,step,fin=>by
  unfold fW
  refine step 0 x ρ rfl h0 _ (fun ρ' h=>?_) (fun ρ' h=>?_) (fun ρ' h=>h) (fun r ρ' h=>h)
  ·
   exact lK xs (fun j=>I (j+1)) ρ' h (fun j y ρ e hi=>step (j+1) y ρ e hi) fin
  ·
   exact lK xs (fun j=>I (j+1)) ρ' h (fun j y ρ e hi=>step (j+1) y ρ e hi) fin
theorem dN{α:Type}{enc:α→D}{g:Tg}{b:W Fl}{post:Fl→Ev→Prop}(as:List α)(I:List α→Ev→Prop)(ρ:Ev)(h0:I [] ρ)
  (step:∀pre a suf ρ,as=pre++a::suf→I pre ρ→∀Q:Fl→Ev→Prop,(∀ρ',I (pre++[a]) ρ'→Q .nx ρ')→(∀ρ',I (pre++[a]) ρ'→Q .ct ρ')→(∀ρ',post .nx ρ'→Q .bk ρ')→(∀r ρ',post (.rt r) ρ'→Q (.rt r) ρ')→g (enc a) ρ fun ρ1=>b ρ1 Q)
  (fin:∀ρ,I as ρ→post .nx ρ):fW g b (as.map enc) ρ post:=by
 refine lK _ (fun j ρ=>I (as.take j) ρ) ρ h0 (fun j x ρ e hi Q h1 h2 h3 h4=>?_) fun ρ h=>fin ρ (by simpa using h)
 rw[List.getElem?_map]at e
 cases ea:as[j]? with
 |none=>rw[ea]at e;cases e
 | some a =>
  rw[ea]at e
  cases e
  obtain⟨hj,ea'⟩:=List.getElem?_eq_some_iff.mp ea
  have es:as.take (j+1)=as.take j++[a]:=by rw[List.take_succ,ea];rfl
  have ed:as=as.take j++a::as.drop (j+1):=by
   have:=(List.take_append_drop j as).symm
   rw[List.drop_eq_getElem_cons hj,ea']at this
   exact this
  rw[es]at h1 h2
  exact step _ a _ ρ ed hi Q h1 h2 h3 h4
theorem y7{g:Tg}{ti:W Bool}{te:W L}{k:List D→Ev→Prop}:∀(xs:List D)(I:Nat→Ev→List D→Prop)(ρ:Ev)(acc:List D),I 0 ρ acc →
  (∀j x ρ acc,xs[j]?=some x→I j ρ acc→∀Q:Ev→List D→Prop,(∀ρ' acc',I (j+1) ρ' acc'→Q ρ' acc')→g x ρ fun ρ1=>ti ρ1 fun b ρ2=>if b=true then te ρ2 fun r ρ3=>toD r fun y=>Q ρ3 (acc++[y])else Q ρ2 acc) →
  (∀ρ acc,I xs.length ρ acc→k acc ρ)→d4 g ti te xs ρ acc k
 |[],I,ρ,acc,h0,_,fin=>fin ρ acc h0
 | x::xs,I,ρ,acc,h0,step,fin=>by
  unfold d4
  exact step 0 x ρ acc rfl h0 (fun ρ acc=>d4 g ti te xs ρ acc k) fun ρ' acc' h=>y7 xs (fun j=>I (j+1)) ρ' acc' h (fun j y ρ acc e hi=>step (j+1) y ρ acc e hi) fin
theorem gb{α:Type}{enc:α→D}{h:α→Option D}{caps:Ev}{ti:W Bool}{te:W L}{k:List D→Ev→Prop}:∀(as:List α)(acc:List D)(l:L),
  (∀a∈as,∀Q:Ev→Option D→Prop,Q (.d (enc a)::caps) (h a)→ti (.d (enc a)::caps) fun b ρ2=>if b=true then te ρ2 fun r ρ3=>toD r fun y=>Q ρ3 (some y)else Q ρ2 none) →
  (∀l',k (acc++as.filterMap h) (l'::caps))→d4 (aY 0) ti te (as.map enc) (l::caps) acc k
 |[],acc,l,_,fin=>by have:=fin l;simpa[d4]using this
 | a::as,acc,l,step,fin=>by
  show d4 (aY 0) ti te (enc a::as.map enc) (l::caps) acc k
  unfold d4
  show ti (.d (enc a)::caps) _
  refine step a List.mem_cons_self (fun ρ o=>match o with|some y=>d4 (aY 0) ti te (as.map enc) ρ (acc++[y]) k|none=>d4 (aY 0) ti te (as.map enc) ρ acc k) ?_
  cases e:h a with
  |none=>exact gb as acc _ (fun b hb=>step b (List.mem_cons_of_mem _ hb)) (by simpa[List.filterMap_cons,e]using fin)
  |some y=>exact gb as (acc++[y]) _ (fun b hb=>step b (List.mem_cons_of_mem _ hb)) (by simpa[List.filterMap_cons,e]using fin)
theorem c6{α:Type}{enc:α→D}{h:α→D}{caps:Ev}{te:W L}{k:List D→Ev→Prop}(as:List α)(acc:List D)(l:L)
  (step:∀a∈as,∀Q:Ev→D→Prop,Q (.d (enc a)::caps) (h a)→te (.d (enc a)::caps) fun r ρ3=>toD r fun y=>Q ρ3 y)
  (fin:∀l',k (acc++as.map h) (l'::caps)):d4 (aY 0) fY te (as.map enc) (l::caps) acc k:=by
 refine gb (h:=fun a=>some (h a)) as acc l (fun a ha Q q=>?_) (by simpa using fin)
 simp only[fY,if_true]
 exact step a ha (fun ρ y=>Q ρ (some y)) q
theorem mP{α:Type}{e1 e2:α→D}{h:α→Option D}{caps:Ev}{ti:W Bool}{te:W L}{k:List D→Ev→Prop}:∀(as:List α)(acc:List D)(l m:L),
  (∀a∈as,∀Q:Ev→Option D→Prop,Q (.d (e1 a)::.d (e2 a)::caps) (h a)→ti (.d (e1 a)::.d (e2 a)::caps) fun b ρ2=>if b=true then te ρ2 fun r ρ3=>toD r fun y=>Q ρ3 (some y)else Q ρ2 none) →
  (∀l' m',k (acc++as.filterMap h) (l'::m'::caps))→d4 (fF [0,1]) ti te (as.map fun a=>D.tup [e1 a,e2 a]) (l::m::caps) acc k
 |[],acc,l,m,_,fin=>by have:=fin l m;simpa[d4]using this
 | a::as,acc,l,m,step,fin=>by
  show d4 (fF [0,1]) ti te (D.tup [e1 a,e2 a]::as.map fun a=>D.tup [e1 a,e2 a]) (l::m::caps) acc k
  unfold d4
  show ti (.d (e1 a)::.d (e2 a)::caps) _
  refine step a List.mem_cons_self (fun ρ o=>match o with|some y=>d4 (fF [0,1]) ti te (as.map fun a=>D.tup [e1 a,e2 a]) ρ (acc++[y]) k|none=>d4 (fF [0,1]) ti te (as.map fun a=>D.tup [e1 a,e2 a]) ρ acc k) ?_
  cases e:h a with
  |none=>exact mP as acc _ _ (fun b hb=>step b (List.mem_cons_of_mem _ hb)) (by simpa[List.filterMap_cons,e]using fin)
  |some y=>exact mP as (acc++[y]) _ _ (fun b hb=>step b (List.mem_cons_of_mem _ hb)) (by simpa[List.filterMap_cons,e]using fin)
theorem vg{α:Type}{e1 e2:α→D}{h:α→D}{caps:Ev}{te:W L}{k:List D→Ev→Prop}(as:List α)(acc:List D)(l m:L)
  (step:∀a∈as,∀Q:Ev→D→Prop,Q (.d (e1 a)::.d (e2 a)::caps) (h a)→te (.d (e1 a)::.d (e2 a)::caps) fun r ρ3=>toD r fun y=>Q ρ3 y)
  (fin:∀l' m',k (acc++as.map h) (l'::m'::caps)):d4 (fF [0,1]) fY te (as.map fun a=>D.tup [e1 a,e2 a]) (l::m::caps) acc k:=by
 refine mP (h:=fun a=>some (h a)) as acc l m (fun a ha Q q=>?_) (by simpa using fin)
 simp only[fY,if_true]
 exact step a ha (fun ρ y=>Q ρ (some y)) q
theorem sI{α:Type}{x:α}{xs:List α}:atI (x::xs) 0=some x:=gp (j:=0) rfl
theorem sJ{α:Type}{x y:α}{xs:List α}:atI (x::y::xs) 1=some y:=gp (j:=1) rfl
theorem D0{α:Type}{x y z:α}{xs:List α}:atI (x::y::z::xs) 2=some z:=gp (j:=2) rfl
theorem IU{α:Type}{x y z w:α}{xs:List α}:atI (x::y::z::w::xs) 3=some w:=gp (j:=3) rfl
theorem JW{α:Type}{x y z w v:α}{xs:List α}:atI (x::y::z::w::v::xs) 4=some v:=gp (j:=4) rfl
theorem BO{α:Type}{xs:List α}{i:Int}{x:α}(h0:0≤i)(h:xs[i.toNat]?=some x):atI xs i=some x:=by
 have:=gp h
 rwa [Int.toNat_of_nonneg h0]at this
theorem bD{α:Type}{f:α→D}{xs:List α}{k:Nat}(h:k<xs.length):atI (xs.map f) (k:Int)=some (f xs[k]):=gp (by rw[List.getElem?_map,List.getElem?_eq_getElem h];rfl)
theorem ix30:ixN 3 0=some 0:=by decide
theorem ix31:ixN 3 1=some 1:=by decide
theorem ix32:ixN 3 2=some 2:=by decide
theorem gA(n:Nat):rngD 0 n=(List.range n).map fun (i:Nat)=>D.int (i:Int):=by
 unfold rngD
 simp
theorem y9{g:Tg}{b:W Fl}{post:Fl→Ev→Prop}(lo:Int)(n:Nat)(I:Nat→Ev→Prop)(ρ:Ev)(h0:I 0 ρ)
  (step:∀j ρ,j<n→I j ρ→∀Q:Fl→Ev→Prop,(∀ρ',I (j+1) ρ'→Q .nx ρ')→(∀ρ',I (j+1) ρ'→Q .ct ρ')→(∀ρ',post .nx ρ'→Q .bk ρ')→(∀r ρ',post (.rt r) ρ'→Q (.rt r) ρ')→g (.int (lo+(j:Int))) ρ fun ρ1=>b ρ1 Q)
  (fin:∀ρ,I n ρ→post .nx ρ):fW g b (rngD lo n) ρ post:=by
 have hl:(rngD lo n).length=n:=by simp[rngD]
 refine lK _ I ρ h0 (fun j x ρ hj hi Q h1 h2 h3 h4=>?_) fun ρ h=>fin ρ (by rwa [hl]at h)
 have hj':j<n:=by rw[← hl];exact(List.getElem?_eq_some_iff.mp hj).1
 have e:x=.int (lo+(j:Int)):=by
  unfold rngD at hj
  rw[List.getElem?_map,List.getElem?_range hj']at hj
  exact(Option.some.inj hj).symm
 subst e
 exact step j ρ hj' hi Q h1 h2 h3 h4
theorem lL{g:Tg}{b:W Fl}{post:Fl→Ev→Prop}(n:Nat)(I:Nat→Ev→Prop)(ρ:Ev)(h0:I 0 ρ)
  (step:∀j ρ,j<n→I j ρ→∀Q:Fl→Ev→Prop,(∀ρ',I (j+1) ρ'→Q .nx ρ')→(∀ρ',I (j+1) ρ'→Q .ct ρ')→(∀ρ',post .nx ρ'→Q .bk ρ')→(∀r ρ',post (.rt r) ρ'→Q (.rt r) ρ')→g (.int (j:Int)) ρ fun ρ1=>b ρ1 Q)
  (fin:∀ρ,I n ρ→post .nx ρ):fW g b (rngD 0 n) ρ post :=
 y9 0 n I ρ h0 (fun j ρ hj hi Q h1 h2 h3 h4=>by rw[Int.zero_add];exact step j ρ hj hi Q h1 h2 h3 h4) fin
theorem a8{i:Int}(h:i.natAbs<2^200):bV i:=Nat.lt_of_lt_of_le h (Nat.pow_le_pow_right (by decide) (by decide))
theorem lM{i:Int}{n:Nat}(h:i.natAbs<2^n)(hn:n≤1000000):bV i:=Nat.lt_of_lt_of_le h (Nat.pow_le_pow_right (by decide) hn)
theorem gB(x:Int){m:Int}(h:0<m):0≤x.fmod m∧x.fmod m<m:=by
 rw[Int.fmod_eq_emod_of_nonneg _ (by omega)]
 exact⟨Int.emod_nonneg _ (by omega),Int.emod_lt_of_pos _ h⟩
theorem xf{i:Int}{n:Nat}(h0:0≤i)(h:i<2^n)(hn:n≤1000000):bV i:=by
 have:i.natAbs<2^n:=by
  have e:((2^n:Nat):Int)=(2:Int)^n:=by simp
  omega
 exact Nat.lt_of_lt_of_le this (Nat.pow_le_pow_right (by decide) hn)
theorem JX:(10:Int)^60<2^200:=by decide
theorem vh{i:Int}(h0:0≤i)(h:i≤10^60):i.natAbs<2^9000:=by
 have:i.natAbs<2^200:=by
  have:=JX
  have e:((2^200:Nat):Int)=(2:Int)^200:=by decide
  omega
 exact Nat.lt_of_lt_of_le this (Nat.pow_le_pow_right (by decide) (by decide))
theorem RB.sub{m n:Nat}{p q:Rat}(hp:RB m p)(hq:RB n q):RB (m+n+1) (p-q):=by
 rw[Rat.sub_eq_add_neg]
 exact hp.add hq.neg
theorem Fx(p q:Rat):Rat.divInt (p.num*q.num) ((p.den:Int)*(q.den:Int))=p*q:=by
 rw[← Rat.divInt_mul_divInt,Rat.num_divInt_den,Rat.num_divInt_den]
theorem RB.of_divInt{t b:Int}{n:Nat}(h:b≠0)(ht:t.natAbs<2^n)(hb:b.natAbs<2^n):RB n (Rat.divInt t b):=⟨Nat.lt_of_le_of_lt (Fs h) ht,Nat.lt_of_le_of_lt (yV h) hb⟩
theorem mQ(p q:Rat):((p.den:Int)*(q.den:Int))≠0:=by
 have dp:=den_pos p
 have dq:=den_pos q
 exact Int.mul_ne_zero (by omega) (by omega)
theorem jE(p q:Rat):((p.den:Int)*(q.den:Int)).natAbs=p.den*q.den:=by rw[Int.natAbs_mul,Int.natAbs_natCast,Int.natAbs_natCast]
theorem RB.mul{m n:Nat}{p q:Rat}(hp:RB m p)(hq:RB n q):RB (m+n) (p*q):=by
 rw[← Fx]
 exact RB.of_divInt (mQ p q) (by rw[Int.natAbs_mul];exact aP hp.1 hq.1) (by rw[jE];exact aP hp.2 hq.2)
theorem vi{q:Rat}(h:q≠0):q.num≠0:=fun z=>h (Rat.num_eq_zero.mp z)
theorem iE(q:Rat):(q.den:Int)≠0:=by have:=den_pos q;omega
theorem za(p:Rat){q:Rat}(h:q≠0):Rat.divInt (p.num*(q.den:Int)) ((p.den:Int)*q.num)=p / q:=by
 rw[Rat.div_def,← Rat.divInt_mul_divInt,Rat.num_divInt_den]
 congr 1
 conv=>rhs;rw[← Rat.num_divInt_den q,Rat.inv_divInt]
theorem RB.div{m n:Nat}{p q:Rat}(hp:RB m p)(hq:RB n q)(h:q≠0):RB (m+n) (p / q):=by
 rw[← za p h]
 refine RB.of_divInt (Int.mul_ne_zero (iE p) (vi h)) ?_ ?_
 ·
  rw[Int.natAbs_mul];exact aP hp.1 (by simpa using hq.2)
 ·
  rw[Int.natAbs_mul];exact aP (by simpa using hp.2) hq.1
theorem RB.zero:RB 1 0:=⟨by decide,by decide⟩
theorem IV(p q:Rat):decide (p.num*(q.den:Int)<q.num*(p.den:Int))=decide (p<q):=by
 rw[decide_eq_decide,Rat.lt_iff]
structure Ask where
 nm:Str
 one:Nat
 other:Nat
 size:Rat
structure Ring where
 rooms:List Rat
 asks:List Ask
def Ring.n(R:Ring):Nat:=R.rooms.length
def askD(a:Ask):D:=.tup [.str a.nm,.int a.one,.int a.other,frD a.size]
def aK(R:Ring):D:=.tup [.lst (R.rooms.map frD),.lst (R.asks.map askD)]
theorem vj(q:Rat):(q.num:Rat)=q*(q.den:Rat):=by
 have h:=Rat.num_divInt_den q
 have hd:(q.den:Rat)≠0:=fun w=>by
  have:=Rat.natCast_pos.mpr q.den_pos
  rw[w]at this
  exact absurd this (by decide)
 rw[Rat.divInt_eq_div]at h
 have e:(((q.den:Nat):Int):Rat)=(q.den:Rat):=rfl
 rw[e]at h
 have e2:q*(q.den:Rat)=(q.num:Rat) / (q.den:Rat)*(q.den:Rat):=by rw[h]
 rw[e2,Rat.div_mul_cancel hd]
theorem vk{q:Rat}{V:Nat}(h0:0≤q)(hv:q<(V:Rat)):q.num.natAbs<V*q.den:=by
 have hd:(0:Rat)<(q.den:Rat):=Rat.natCast_pos.mpr q.den_pos
 have h1:q*(q.den:Rat)<(V:Rat)*(q.den:Rat):=Rat.mul_lt_mul_of_pos_right hv hd
 rw[← vj]at h1
 have h2:((q.num:Int):Rat)<(((V*q.den:Nat):Int):Rat):=by
  have e:(((V*q.den:Nat):Int):Rat)=(V:Rat)*(q.den:Rat):=by
   push_cast
   rfl
  rw[e];exact h1
 have h3:q.num<((V*q.den:Nat):Int):=Rat.intCast_lt_intCast.mp h2
 have h4:0≤q.num:=Rat.num_nonneg.mpr h0
 omega
theorem RB.of_val{q:Rat}{d v:Nat}(h0:0≤q)(hd:q.den<2^d)(hv:q<((2^v:Nat):Rat)):RB (v+d) q:=by
 refine⟨Nat.lt_of_lt_of_le (vk h0 hv) ?_,Nat.lt_of_lt_of_le hd (Nat.pow_le_pow_right (by decide) (by omega))⟩
 rw[Nat.pow_add]
 exact Nat.mul_le_mul_left _ (Nat.le_of_lt hd)
structure jU (n:Nat) (a:Ask):Prop where
 one:a.one<n
 other:a.other<n
 ne:a.one≠a.other
 size:0≤a.size
 lt:a.size<((2^300:Nat):Rat)
 nm:PyData.strOk a.nm=true
structure Ring.Ok (R:Ring):Prop where
 lo:2≤R.n
 hi:R.n≤12
 few:R.asks.length≤20
 room:∀q∈R.rooms,0<q∧RB 60 q
 ask:∀a∈R.asks,jU R.n a
 cd:∃D:Nat,0<D∧D<2^1240∧∀a∈R.asks,a.size.den∣D
theorem Ring.Ok.rb{R:Ring}(h:R.Ok){a:Ask}(ha:a∈R.asks):RB 1540 a.size:=by
 obtain⟨D,d0,d1,hd⟩:=h.cd
 exact RB.of_val (v:=300) (d:=1240) (h.ask a ha).size (Nat.lt_of_le_of_lt (Nat.le_of_dvd d0 (hd a ha)) d1) (h.ask a ha).lt
theorem zb{α:Type}{n:Nat}{f:α→D}:∀xs:List α,(∀x∈xs,okD n (f x)=true)→okDs n (xs.map f)=true
 |[],_=>rfl
 |x::xs,h=>by simp[okDs,h x List.mem_cons_self,zb xs fun y hy=>h y (List.mem_cons_of_mem _ hy)]
theorem Fy(n:Nat)(q:Rat):okD (n+1) (frD q)=true:=by cases n<;>simp[frD,okD,okDs]
theorem zd:∀(as bs:List Rat),PyData.eqvAll (toPs (as.map frD)) (toPs (bs.map frD))=decide (as=bs)
 |[],[]=>by simp[oB]
 |[],b::bs=>by simp[toPs,PyData.eqvAll]
 |a::as,[]=>by simp[toPs,PyData.eqvAll]
 | a::as,b::bs=>by
  rw[List.map_cons,List.map_cons,eM,zd as bs,Fu]
  simp
theorem GO(as bs:List Rat):eqD (.lst (as.map frD)) (.lst (bs.map frD))=decide (as=bs):=by rw[By,zd]
theorem vm(qs:List Rat):eH (.lst (qs.map frD)):=ft (n:=2) (by simp only[okD];exact zb _ fun q _=>Fy 0 q) (by decide)
def StOk(xs:List D):Prop:=∃(c sd:Int)(t:Bool),xs=[.int c,.int sd,.bl t]∧0≤sd∧sd<2147483647
theorem ze{t b g:Int}(h:b≠0)(e:g=cw t b):D.tup [.int (t.fdiv g),.int (b.fdiv g)]=frD (Rat.divInt t b):=by
 subst e
 rw[Bw h,Gq h]
 rfl
def denP(qs:List Rat):Nat:=(qs.map (·.den)).foldr (·*·) 1
theorem jF:∀qs:List Rat,0<denP qs
 |[]=>Nat.one_pos
 |a::t=>Nat.mul_pos (den_pos a) (jF t)
def sumQ(qs:List Rat):Rat:=qs.foldl (·+·) 0
theorem BQ(qs:List Rat):∀acc:Rat,qs.foldl (·+·) acc=acc+sumQ qs:=by
 unfold sumQ
 induction qs with
 |nil=>intro acc;simp[Rat.add_zero]
 |cons q qs ih=>intro acc;rw[List.foldl_cons,List.foldl_cons,ih,ih (0+q),Rat.zero_add,Rat.add_assoc]
theorem a0(q:Rat)(qs:List Rat):sumQ (q::qs)=q+sumQ qs:=by
 show(q::qs).foldl (·+·) 0=_
 rw[List.foldl_cons,BQ,Rat.zero_add]
theorem D1(as bs:List Rat):sumQ (as++bs)=sumQ as+sumQ bs:=by
 induction as with
 |nil=>rw[List.nil_append];show _=(0:Rat)+_;rw[Rat.zero_add]
 |cons a as ih=>rw[List.cons_append,a0,a0,ih,Rat.add_assoc]
theorem D2{xs:List D}{i:Int}{k:L→Prop}:opIx (.lst xs) (.int i) k=∃v,atI xs i=some v∧k (.d v):=rfl
theorem D3{xs:List D}{i:Int}{k:L→Prop}:opIx (.tup xs) (.int i) k=∃v,atI xs i=some v∧k (.d v):=rfl
theorem D4{z:Str}{i:Int}{k:L→Prop}:opIx (.str z) (.int i) k=(z.length≤sizeLine∧∃c,atI z.cps.toList i=some c∧k (.d (.str ⟨#[c]⟩))):=rfl
theorem D5{R:Ring}{k:L→Prop}:opIx (aK R) (.int 0) k=k (.d (.lst (R.rooms.map frD))):=by
 show(∃v,atI _ _=some v∧_)=_
 simp only[sI,Option.some.injEq,exists_eq_left']
theorem D6{R:Ring}{k:L→Prop}:opIx (aK R) (.int 1) k=k (.d (.lst (R.asks.map askD))):=by
 show(∃v,atI _ _=some v∧_)=_
 simp only[sJ,Option.some.injEq,exists_eq_left']
theorem GP{a:Ask}{k:L→Prop}:opIx (askD a) (.int 0) k=k (.d (.str a.nm)):=by
 show(∃v,atI _ _=some v∧_)=_
 simp only[sI,Option.some.injEq,exists_eq_left']
theorem GQ{a:Ask}{k:L→Prop}:opIx (askD a) (.int 1) k=k (.d (.int a.one)):=by
 show(∃v,atI _ _=some v∧_)=_
 simp only[sJ,Option.some.injEq,exists_eq_left']
theorem GR{a:Ask}{k:L→Prop}:opIx (askD a) (.int 2) k=k (.d (.int a.other)):=by
 show(∃v,atI _ _=some v∧_)=_
 simp only[D0,Option.some.injEq,exists_eq_left']
theorem GS{a:Ask}{k:L→Prop}:opIx (askD a) (.int 3) k=k (.d (frD a.size)):=by
 show(∃v,atI _ _=some v∧_)=_
 simp only[IU,Option.some.injEq,exists_eq_left']
theorem IW{q:Rat}{k:L→Prop}:opIx (frD q) (.int 0) k=k (.d (.int q.num)):=by
 show(∃v,atI _ _=some v∧_)=_
 simp only[sI,Option.some.injEq,exists_eq_left']
theorem IX{q:Rat}{k:L→Prop}:opIx (frD q) (.int 1) k=k (.d (.int (q.den:Int))):=by
 show(∃v,atI _ _=some v∧_)=_
 simp only[sJ,Option.some.injEq,exists_eq_left']
theorem Fz(q:Rat):noL (frD q)=true:=by simp[frD,noL,noLs]
theorem oF{α:Type}{f:α→D}:∀(xs:List α),(∀x∈xs,noL (f x)=true)→noLs (xs.map f)=true
 |[],_=>rfl
 |x::xs,h=>by simp[noLs,h x List.mem_cons_self,oF xs fun y hy=>h y (List.mem_cons_of_mem _ hy)]
theorem zf(qs:List Rat):noLs (qs.map frD)=true:=oF _ fun q _=>Fz q
theorem BR{α:Type}(f:α→Int)(xs:List α):noLs (xs.map fun x=>D.int (f x))=true:=oF _ fun _ _=>rfl
theorem BS(R:Ring):R.rooms.length=R.n:=rfl
def wayS(w:Bool):Str:=if w then "on" else "back"
theorem zg:eH (.str "on"):=ft (n:=0) (by decide +kernel) (by decide)
theorem rD:eH (.str "back"):=ft (n:=0) (by decide +kernel) (by decide)
theorem BU(w:Bool):eH (.str (wayS w)):=by
 cases w
 ·
  exact rD
 ·
  exact zg
theorem IY(w:Bool):(wayS w="on")=(w=true):=by cases w <;> simp[wayS] <;> decide
theorem D7(w:Bool):(wayS w="back")=(w=false):=by cases w <;> simp[wayS] <;> decide
theorem BV{is:List Nat}{xs:List D}{ρ:Ev}{k:Ev→Prop}:fF is (.tup xs) ρ k=gu is xs ρ k:=rfl
theorem BW{is:List Nat}{a:Ask}{ρ:Ev}{k:Ev→Prop}:fF is (askD a) ρ k=gu is [.str a.nm,.int a.one,.int a.other,frD a.size] ρ k:=rfl
theorem D8{is:List Nat}{q:Rat}{ρ:Ev}{k:Ev→Prop}:fF is (frD q) ρ k=gu is [.int q.num,.int (q.den:Int)] ρ k:=rfl
theorem xg{xs:List D}{k:List D→Prop}:iz (.lst xs) k=k xs:=rfl
theorem xh{xs:List D}{k:List D→Prop}:iz (.tup xs) k=k xs:=rfl
theorem Ab{q:Rat}{k:List D→Prop}:iz (frD q) k=k [.int q.num,.int (q.den:Int)]:=rfl
theorem BX{xs:List D}{k:L→Prop}:bL [.lst xs] k=k (.d (.int xs.length)):=rfl
theorem BY{xs:List D}{k:L→Prop}:bL [.tup xs] k=k (.d (.int xs.length)):=rfl
theorem BZ{x:Str}{k:L→Prop}:bL [.str x] k=(x.length≤sizeLine∧k (.d (.int x.length))):=rfl
theorem D9{q:Rat}{k:L→Prop}:bL [frD q] k=k (.d (.int 2)):=rfl
theorem Ac{R:Ring}{k:L→Prop}:bL [aK R] k=k (.d (.int 2)):=rfl
theorem B0{a:Ask}{k:L→Prop}:bL [askD a] k=k (.d (.int 4)):=rfl
theorem xi(q:Rat):isTy "tuple" (frD q)=true:=rfl
theorem xj(q:Rat):isTy "list" (frD q)=false:=rfl
theorem xk(q:Rat):isTy "int" (frD q)=false:=rfl
theorem vn(q:Rat):isTy "bool" (frD q)=false:=rfl
theorem xm(q:Rat):isTy "str" (frD q)=false:=rfl
theorem sL(R:Ring):isTy "tuple" (aK R)=true:=rfl
def frL(n:Nat)(f:Nat→Rat):List D:=(List.range n).map fun (t:Nat)=>frD (f t)
theorem xn(n:Nat)(f:Nat→Rat):(frL n f).length=n:=by simp[frL]
theorem B1{n:Nat}{f:Nat→Rat}{t:Nat}(h:t<n):atI (frL n f) (t:Int)=some (frD (f t)):=by
 refine gp ?_
 unfold frL
 rw[List.getElem?_map,List.getElem?_range h]
 rfl
theorem GT{n:Nat}{f:Nat→Rat}{t:Nat}(v:Rat):(frL n f).set t (frD v)=frL n fun s=>if s=t then v else f s:=by
 refine List.ext_getElem (by simp[frL]) fun j h1 h2=>?_
 have e1:∀(g:Nat→Rat)(h:j<(frL n g).length),(frL n g)[j]=frD (g j):=fun g h=>by simp[frL]
 rw[List.getElem_set,e1 _ h2]
 by_cases hj:t=j
 ·
  subst hj;simp
 ·
  rw[if_neg hj,if_neg (Ne.symm hj)]
  exact e1 _ _
theorem I0{n:Nat}{f:Nat→Rat}{t:Nat}(h:t<n):ixN (frL n f).length (t:Int)=some t:=by
 rw[xn]
 unfold ixN
 rw[if_pos (by omega),if_pos (by omega),Int.toNat_natCast]
theorem B2(n:Nat)(f:Nat→Rat):frL n f=((List.range n).map f).map frD:=by
 unfold frL
 rw[List.map_map]
 rfl
theorem vo{n:Nat}{f g:Nat→Rat}(h:∀t,t<n→f t=g t):frL n f=frL n g:=by
 unfold frL
 refine List.map_congr_left fun t ht=>?_
 rw[h t (List.mem_range.mp ht)]
theorem Ea(n:Nat)(f:Nat→Rat):noLs (frL n f)=true:=by rw[B2];exact zf _
def cutP(c:Nat×Nat):D:=.tup [.int (c.1:Int),.int (c.2:Int)]
theorem GU{c:Nat×Nat}{k:L→Prop}:opIx (cutP c) (.int 0) k=k (.d (.int c.1)):=by
 show(∃v,atI _ _=some v∧_)=_
 simp only[sI,Option.some.injEq,exists_eq_left']
theorem GV{c:Nat×Nat}{k:L→Prop}:opIx (cutP c) (.int 1) k=k (.d (.int c.2)):=by
 show(∃v,atI _ _=some v∧_)=_
 simp only[sJ,Option.some.injEq,exists_eq_left']
theorem GW(n:Nat)(c:Nat×Nat):okD (n+1) (cutP c)=true:=by cases n<;>simp[cutP,okD,okDs]
theorem B3(c:Nat×Nat):noL (cutP c)=true:=by simp[cutP,noL,noLs]
theorem B4(c:Nat×Nat):eH (cutP c):=ft (GW 0 c) (by decide)
theorem GX(c d:Nat×Nat):eqD (cutP c) (cutP d)=decide (c=d):=by
 unfold cutP
 rw[w4,eM,eM,oB,kA,kA,Bool.and_true,← Bool.decide_and,decide_eq_decide]
 constructor
 ·
  rintro⟨h1,h2⟩
  exact Prod.ext (by omega) (by omega)
 ·
  rintro rfl;exact⟨rfl,rfl⟩
def gP(g:Rat×(Nat×Nat)):D:=.tup [frD g.1,cutP g.2]
theorem JY{g:Rat×(Nat×Nat)}{k:L→Prop}:opIx (gP g) (.int 0) k=k (.d (frD g.1)):=by
 show(∃v,atI _ _=some v∧_)=_
 simp only[sI,Option.some.injEq,exists_eq_left']
theorem JZ{g:Rat×(Nat×Nat)}{k:L→Prop}:opIx (gP g) (.int 1) k=k (.d (cutP g.2)):=by
 show(∃v,atI _ _=some v∧_)=_
 simp only[sJ,Option.some.injEq,exists_eq_left']
theorem Eb(T:String):isTy T .non=(T == "NoneType"):=rfl
theorem GY(T:String)(b:Bool):isTy T (.bl b)=(T == "bool" ||T == "int"):=rfl
theorem Ec(T:String)(i:Int):isTy T (.int i)=(T == "int"):=rfl
theorem Ed(T:String)(x:Str):isTy T (.str x)=(T == "str"):=rfl
theorem zh(T:String)(xs:List D):isTy T (.tup xs)=(T == "tuple"):=rfl
theorem Ee(T:String)(xs:List D):isTy T (.lst xs)=(T == "list"):=rfl
theorem Ad(g:Rat×(Nat×Nat)):isTy "tuple" (gP g)=true:=rfl
theorem nN(c:Nat×Nat):isTy "tuple" (cutP c)=true:=rfl
theorem vp(a:Ask):isTy "tuple" (askD a)=true:=rfl
theorem B5{c:Nat×Nat}{k:L→Prop}:bL [cutP c] k=k (.d (.int 2)):=rfl
theorem GZ{c:Rat×(Nat×Nat)}{k:L→Prop}:bL [gP c] k=k (.d (.int 2)):=rfl
theorem B6(cs:List (Nat×Nat)):noLs (cs.map cutP)=true:=oF _ fun c _=>B3 c
end L2
namespace L2
open PySem PySem.Builtin.Str
theorem G0{x y:Str}(h:x.cps.toList=y.cps.toList):x=y:=by
 cases x;cases y
 exact congrArg Str.mk (Array.toList_inj.mp h)
theorem Ef{x:Str}{j:Int}(h0:0≤j)(h2:j≤x.length):(Txt.slice x none (some j)).cps.toList=x.cps.toList.take j.toNat:=by
 have:=eq_of_beq (PyProof.Rows.slice_closes_toL h0 h2)
 rw[this]
 simp
theorem Ae{x:Str}{i:Int}(h0:0≤i)(h2:i≤x.length):(Txt.slice x (some i) none).cps.toList=x.cps.toList.drop i.toNat:=by
 rw[PyProof.Rows.slice_from_eq h0 h2 rfl]
 have e:x.cps.toList.length=x.length:=by simp[Str.length]
 rw[List.take_of_length_le]
 rw[List.length_drop,e]
 omega
theorem lN(x y:Str):(x++y).cps.toList=x.cps.toList++y.cps.toList:=by
 show(x.cps++y.cps).toList=_
 simp
theorem jG(x:Str):x.length=x.cps.toList.length:=by simp[Str.length]
def pq(c:Nat):Prop:=97≤c∧c≤122
structure NmOk (z:Str):Prop where
 lo:1≤z.cps.toList.length
 hi:z.cps.toList.length≤8
 let_:∀c∈z.cps.toList,pq c
theorem NmOk.ok{z:Str}(h:NmOk z):PyData.strOk z=true:=by
 unfold PyData.strOk
 rw[← Array.all_toList,List.all_eq_true]
 intro c hc
 have:=h.let_ c hc
 unfold pq at this
 simp
 omega
def sM:Str:="abcdefghijklmnopqrstuvwxyz"
theorem vq:sM.cps.toList=(List.range 26).map (·+97):=by decide
theorem rE{i:Int}(h0:0≤i)(h1:i<26):atI sM.cps.toList i=some (i.toNat+97):=by
 refine BO h0 ?_
 rw[vq,List.getElem?_map,List.getElem?_range (by omega)]
 rfl
theorem rF:∀(zs:List Str),(Str.join "" zs).cps.toList=(zs.map fun z=>z.cps.toList).flatten
 |[]=>rfl
 |[x]=>by simp[Str.join]
 | x::y::r=>by
  have ih:=rF (y::r)
  show(x++("" : Str)++Str.join "" (y::r)).cps.toList=_
  rw[lN,lN,ih]
  show x.cps.toList++[]++_=_
  simp
theorem Eg(zs:List Str):(Txt.join "" zs).cps.toList=(zs.map fun z=>z.cps.toList).flatten:=by
 rw[eq_of_beq (PyProof.Rows.join_closes (sep:="") (sep':="") (ys:=zs) rfl),rF]
theorem vt:∀cs:List Nat,(cs.map fun c=>[c]).flatten=cs
 |[]=>rfl
 |c::cs=>by rw[List.map_cons,List.flatten_cons,vt cs];rfl
theorem mR(cs:List Nat):(Txt.join "" (cs.map fun c=>(⟨#[c]⟩:Str))).cps.toList=cs:=by
 rw[Eg,List.map_map]
 exact vt cs
theorem zi:∀cs:List Nat,((cs.map fun c=>(⟨#[c]⟩:Str)).map (·.length)).sum=cs.length
 |[]=>rfl
 | c::cs=>by
  rw[List.map_cons,List.map_cons,List.sum_cons,zi cs,List.length_cons]
  show 1+_=_
  omega
def nameAt(b:Str)(p t k:Nat):Str:=⟨(b.cps.toList.take p++[(t+k) % 26+97]++b.cps.toList.drop (p+1)).toArray⟩
theorem B7{b:Str}{p t k:Nat}(h:NmOk b)(hp:p<b.cps.toList.length):NmOk (nameAt b p t k):=by
 have e:(nameAt b p t k).cps.toList=b.cps.toList.take p++[(t+k) % 26+97]++b.cps.toList.drop (p+1):=by simp[nameAt]
 have l:(b.cps.toList.take p++[(t+k) % 26+97]++b.cps.toList.drop (p+1)).length=b.cps.toList.length:=by
  rw[List.length_append,List.length_append,List.length_take,List.length_drop,List.length_singleton]
  omega
 refine⟨by rw[e,l];exact h.lo,by rw[e,l];exact h.hi,fun c hc=>?_⟩
 rw[e]at hc
 rcases List.mem_append.mp hc with hc|hc
 ·
  rcases List.mem_append.mp hc with hc|hc
  ·
   exact h.let_ c (List.mem_of_mem_take hc)
  ·
   rw[List.mem_singleton.mp hc]
   unfold pq
   have:=Nat.mod_lt (t+k) (y:=26) (by decide)
   omega
 ·
  exact h.let_ c (List.mem_of_mem_drop hc)
theorem Af{b:Str}{p t j k:Nat}(hp:p<b.cps.toList.length)(hj:j<26)(hk:k<26)(h:nameAt b p t j=nameAt b p t k):j=k:=by
 have e:b.cps.toList.take p++[(t+j) % 26+97]++b.cps.toList.drop (p+1)=b.cps.toList.take p++[(t+k) % 26+97]++b.cps.toList.drop (p+1):=by
  have:=congrArg (fun z:Str=>z.cps.toList) h
  simpa[nameAt]using this
 rw[List.append_assoc,List.append_assoc]at e
 have e2:=List.append_cancel_left e
 have e3:=(List.cons.inj e2).1
 omega
theorem vv{α β:Type}{f:α→β}:∀{xs:List α},xs.Nodup→(∀x∈xs,∀y∈xs,f x=f y→x=y)→(xs.map f).Nodup
 |[],_,_=>List.nodup_nil
 | x::xs,hn,h=>by
  rw[List.map_cons,List.nodup_cons]
  obtain⟨h1,h2⟩:=List.nodup_cons.mp hn
  refine⟨fun hm=>?_,vv h2 fun a ha b hb=>h a (List.mem_cons_of_mem _ ha) b (List.mem_cons_of_mem _ hb)⟩
  obtain⟨y,hy,e⟩:=List.mem_map.mp hm
  have:=h y (List.mem_cons_of_mem _ hy) x List.mem_cons_self e
  rw[this]at hy
  exact h1 hy
theorem Eh{q:Rat}(h:RB 60 q):q<((2^300:Nat):Rat):=by
 have h1:=vj q
 have hd:(1:Rat)≤(q.den:Rat):=by
  have:=q.den_pos
  exact_mod_cast this
 have h2:(q.num:Rat)<((2^300:Nat):Rat):=by
  have h3:q.num<((2^300:Nat):Int):=by
   have:=Nat.lt_of_lt_of_le h.1 (Nat.pow_le_pow_right (show 0<2 by decide) (show 60≤300 by decide))
   omega
  exact Rat.intCast_lt_intCast.mpr h3
 have hV:(0:Rat)<((2^300:Nat):Rat):=Rat.natCast_pos.mpr (Nat.pow_pos (by decide))
 generalize ((2^300:Nat):Rat)=V at *
 refine Rat.not_le.mp fun hq=>?_
 have h4:V*1≤q*(q.den:Rat):=Rat.le_trans (Rat.mul_le_mul_of_nonneg_left hd (Rat.le_of_lt hV)) (Rat.mul_le_mul_of_nonneg_right hq (by grind))
 rw[← h1]at h4
 grind
def denL:List Ask→Nat
 |[]=>1
 |a::as=>a.size.den*denL as
theorem lO:∀as,0<denL as
 |[]=>Nat.one_pos
 |a::as=>Nat.mul_pos a.size.den_pos (lO as)
theorem sN:∀{as:List Ask},(∀a∈as,RB 60 a.size)→denL as≤2^(60*as.length)
 |[],_=>Nat.le_refl 1
 | a::as,h=>by
  have h1:=(h a List.mem_cons_self).2
  have h2:=sN (as:=as) fun p hp=>h p (List.mem_cons_of_mem _ hp)
  show a.size.den*denL as≤2^(60*(as.length+1))
  rw[Nat.mul_add,Nat.mul_one,Nat.pow_add,Nat.mul_comm (2^_)]
  exact Nat.mul_le_mul (Nat.le_of_lt h1) h2
theorem oG:∀{as:List Ask}{a:Ask},a∈as→a.size.den∣denL as
 | b::as,a,h=>by
  rcases List.mem_cons.mp h with rfl|h
  ·
   exact Nat.dvd_mul_right _ _
  ·
   exact Nat.dvd_trans (oG h) (Nat.dvd_mul_left _ _)
theorem J0{as:List Ask}(h:∀a∈as,RB 60 a.size)(hl:as.length≤20):∃D:Nat,0<D∧D<2^1240∧∀a∈as,a.size.den∣D:=by
 refine⟨denL as,lO as,Nat.lt_of_le_of_lt (sN h) (Nat.pow_lt_pow_right (by decide) (by omega)),fun a ha=>oG ha⟩
end L2
namespace L2
open PySem
def onL(n i j:Nat):List Nat:=(List.range ((j+n-i) % n)).map fun s=>(i+s) % n
def xq(n i j:Nat):List Nat:=(List.range ((i+n-j) % n)).map fun s=>(i+n-1-s) % n
def wayL(n:Nat)(a:Ask)(w:Bool):List Nat:=if w then onL n a.one a.other else xq n a.one a.other
theorem sO{n i j:Nat}(hi:i<n)(hj:j<n):(((j:Int)-i).fmod n)=(((j+n-i) % n:Nat):Int):=by
 rw[Int.fmod_eq_emod_of_nonneg _ (by omega)]
 have e:((j:Int)-i) % n=((j:Int)-i+n) % n:=(Int.add_emod_right _ _).symm
 rw[e]
 have:(j:Int)-i+n=((j+n-i:Nat):Int):=by omega
 rw[this]
 exact(Int.natCast_emod _ _).symm
theorem zj{n i s:Nat}:(((i:Int)+s).fmod n)=(((i+s) % n:Nat):Int):=by
 rw[Int.fmod_eq_emod_of_nonneg _ (by omega),Int.natCast_emod,Int.natCast_add]
theorem Ei{n i s:Nat}(hn:0<n)(hs:s<n):(((i:Int)-1-s).fmod n)=(((i+n-1-s) % n:Nat):Int):=by
 rw[Int.fmod_eq_emod_of_nonneg _ (by omega)]
 have e:((i:Int)-1-s) % n=((i:Int)-1-s+n) % n:=(Int.add_emod_right _ _).symm
 rw[e]
 have:(i:Int)-1-s+n=((i+n-1-s:Nat):Int):=by omega
 rw[this]
 exact(Int.natCast_emod _ _).symm
def far(n i j:Nat):Nat:=(j+n-i) % n
theorem lP{x n:Nat}(h:x<2*n):x % n=if x<n then x else x-n:=by
 by_cases hx:x<n
 ·
  rw[if_pos hx,Nat.mod_eq_of_lt hx]
 ·
  rw[if_neg hx,Nat.mod_eq_sub_mod (by omega),Nat.mod_eq_of_lt (by omega)]
theorem pw{n i j:Nat}(hi:i<n)(hj:j<n):far n i j=if i≤j then j-i else j+n-i:=by
 unfold far
 rw[lP (by omega)]
 split<;>split<;>omega
theorem FC(n i j:Nat):(onL n i j).length=far n i j:=by simp[onL,far]
theorem Ej(n i j:Nat):(xq n i j).length=far n j i:=by simp[xq,far]
theorem G1{n:Nat}{a:Ask}(h:jU n a)(w:Bool):(wayL n a w).length<n:=by
 have h1:=h.one
 have h2:=h.other
 cases w
 ·
  show(xq n a.one a.other).length<n
  rw[Ej];exact Nat.mod_lt _ (by omega)
 ·
  show(onL n a.one a.other).length<n
  rw[FC];exact Nat.mod_lt _ (by omega)
theorem B8{n i j:Nat}(hn:0<n):far n i j<n:=Nat.mod_lt _ hn
theorem zk{n i s:Nat}(hi:i<n)(hs:s<n):far n i ((i+s) % n)=s:=by
 have h1:=Nat.mod_lt (i+s) (y:=n) (by omega)
 rw[pw hi h1,lP (by omega)]
 split<;>split<;>omega
theorem zl{n i t:Nat}(hi:i<n)(ht:t<n):(i+far n i t) % n=t:=by
 have h1:=B8 (n:=n) (i:=i) (j:=t) (by omega)
 rw[lP (by omega),pw hi ht]
 split<;>split<;>omega
theorem G2{n i j:Nat}(hi:i<n)(hj:j<n)(h:i≠j):far n i j+far n j i=n:=by
 rw[pw hi hj,pw hj hi]
 split<;>split<;>omega
theorem Ja{n i j t:Nat}(hi:i<n):t∈onL n i j↔t<n∧far n i t<far n i j:=by
 constructor
 ·
  intro h
  obtain⟨s,hs,rfl⟩:=List.mem_map.mp h
  have hs:s<far n i j:=List.mem_range.mp hs
  have:=B8 (n:=n) (i:=i) (j:=j) (by omega)
  exact⟨Nat.mod_lt _ (by omega),by rw[zk hi (by omega)];exact hs⟩
 ·
  rintro⟨ht,h⟩
  exact List.mem_map.mpr ⟨far n i t,List.mem_range.mpr h,zl hi ht⟩
theorem B9{n i s:Nat}(hi:i<n)(hs:s<n):(i+n-1-s) % n=(i+(n-1-s)) % n:=by
 congr 1
 omega
theorem Ek{n i j t:Nat}(hi:i<n)(hj:j<n)(hij:i≠j):t∈xq n i j↔t<n∧¬far n i t<far n i j:=by
 have hsum:=G2 hi hj hij
 constructor
 ·
  intro h
  obtain⟨s,hs,rfl⟩:=List.mem_map.mp h
  have hs:s<far n j i:=List.mem_range.mp hs
  refine⟨Nat.mod_lt _ (by omega),?_⟩
  rw[B9 hi (by omega),zk hi (by omega)]
  omega
 ·
  rintro⟨ht,h⟩
  have:=B8 (n:=n) (i:=i) (j:=t) (by omega)
  refine List.mem_map.mpr ⟨n-1-far n i t,List.mem_range.mpr (show _<far n j i by omega),?_⟩
  rw[B9 hi (by omega)]
  have e:n-1-(n-1-far n i t)=far n i t:=by omega
  rw[e,zl hi ht]
def isOn(n:Nat)(a:Ask)(t:Nat):Bool:=decide (far n a.one t<far n a.one a.other)
theorem xr{n:Nat}{a:Ask}(h:jU n a)(w:Bool){t:Nat}(ht:t<n):t∈wayL n a w↔(isOn n a t == w)=true:=by
 have h1:=h.one
 have h2:=h.other
 cases w
 ·
  show t∈xq n a.one a.other↔_
  rw[Ek h1 h2 h.ne]
  simp[isOn,ht]
 ·
  show t∈onL n a.one a.other↔_
  rw[Ja h1]
  simp[isOn,ht]
theorem zm(t:Nat):∀(T:List Nat),inF (.int (t:Int)) (T.map fun (s:Nat)=>D.int (s:Int))=decide (t∈T)
 |[]=>rfl
 | s::T=>by
  have ih:=zm t T
  unfold inF at ih ⊢
  rw[List.map_cons,List.any_cons,ih]
  show(eqF (.int (s:Int)) (.int (t:Int)) ||_)=_
  have e:eqF (.int (s:Int)) (.int (t:Int))=decide (t=s):=by
   show decide ((s:Int)=(t:Int))=_
   rw[decide_eq_decide];omega
  rw[e]
  simp[Bool.decide_or]
theorem Ca(T:List Nat):(T.map fun (s:Nat)=>D.int (s:Int)).all oY=true:=by
 rw[List.all_eq_true]
 intro x hx
 obtain⟨s,_,rfl⟩:=List.mem_map.mp hx
 rfl
theorem RB.sum{b:Nat}:∀(qs:List Rat),(∀q∈qs,RB b q)→RB (1+(b+1)*qs.length) (sumQ qs)
 |[],_=>RB.mono (m:=1) ⟨by decide,by decide⟩ (by omega)
 | q::qs,h=>by
  have ih:=RB.sum qs fun z hz=>h z (List.mem_cons_of_mem _ hz)
  rw[a0]
  refine((h q List.mem_cons_self).add ih).mono ?_
  rw[List.length_cons,Nat.mul_succ]
  omega
theorem Cb{b:Nat}:∀(qs:List Rat),(∀q∈qs,RB b q)→denP qs≤2^(b*qs.length)
 |[],_=>Nat.le_refl 1
 | q::qs,h=>by
  have ih:=Cb qs fun z hz=>h z (List.mem_cons_of_mem _ hz)
  show q.den*denP qs≤_
  refine Nat.le_trans (Nat.mul_le_mul (Nat.le_of_lt (h q List.mem_cons_self).2) ih) ?_
  rw[← Nat.pow_add,List.length_cons,Nat.mul_succ]
  exact Nat.pow_le_pow_right (by decide) (by omega)
theorem lQ:sumQ []=0:=rfl
theorem nO(qs:List Rat)(q:Rat):sumQ (qs++[q])=sumQ qs+q:=by
 rw[D1,a0,lQ,Rat.add_zero]
def sent(n:Nat)(a:Ask)(p:Rat)(t:Nat):Rat:=if isOn n a t then p else a.size-p
def bM(n:Nat)(as:List Ask)(ps:List Rat)(t:Nat):Rat:=sumQ ((as.zip ps).map fun x=>sent n x.1 x.2 t)
structure kC (R:Ring) (ps:List Rat) (c:Nat):Prop where
 len:ps.length=R.asks.length
 lo:∀x∈R.asks.zip ps,0≤x.2∧x.2≤x.1.size
 rb:∀p∈ps,RB c p
theorem xt{n c:Nat}{a:Ask}{p:Rat}(h:RB 60 a.size)(hp:RB c p)(t:Nat):RB (61+c) (sent n a p t):=by
 unfold sent
 split
 ·
  exact hp.mono (by omega)
 ·
  exact(h.sub hp).mono (by omega)
theorem zo{α β:Type}(as:List α)(bs:List β)(k:Nat):(as.zip bs).take k=(as.take k).zip (bs.take k):=by
 unfold List.zip
 exact List.take_zipWith
theorem El{α β:Type}{as:List α}{bs:List β}{k:Nat}(h1:k<as.length)(h2:k<bs.length):(as.take (k+1)).zip (bs.take (k+1))=(as.take k).zip (bs.take k)++[(as[k],bs[k])]:=by
 rw[← zo,← zo,List.take_succ,List.getElem?_eq_getElem (by rw[List.length_zip];omega),List.getElem_zip]
 rfl
theorem rG{n:Nat}{as:List Ask}{ps:List Rat}{k:Nat}(h1:k<as.length)(h2:k<ps.length)(t:Nat):bM n (as.take (k+1)) (ps.take (k+1)) t=bM n (as.take k) (ps.take k) t+sent n as[k] ps[k] t:=by
 unfold bM
 rw[El h1 h2,List.map_append]
 exact nO _ _
theorem Em{n c:Nat}{as:List Ask}{ps:List Rat}(ha:∀a∈as,RB 60 a.size)(hp:∀p∈ps,RB c p)(hl:as.length≤20)(t:Nat):RB (1+(62+c)*20) (bM n as ps t):=by
 unfold bM
 have h:=RB.sum (b:=61+c) ((as.zip ps).map fun x=>sent n x.1 x.2 t) fun q hq=>by
  obtain⟨x,hx,rfl⟩:=List.mem_map.mp hq
  obtain⟨h1,h2⟩:=List.of_mem_zip (a:=x.1) (b:=x.2) hx
  exact xt (ha _ h1) (hp _ h2) t
 refine h.mono ?_
 rw[List.length_map,List.length_zip]
 have:min as.length ps.length≤20:=by omega
 have e:61+c+1=62+c:=by omega
 rw[e]
 exact Nat.add_le_add_left (Nat.mul_le_mul_left _ this) 1
theorem zp{α:Type}{xs:List α}{k:Nat}{P:α→Prop}(h:∀x∈xs,P x):∀x∈xs.take k,P x:=fun x hx=>h x (List.mem_of_mem_take hx)
theorem Cc{α β:Type}{xs:List α}{f:α→β}(n:Nat)(h:xs.length=n)(g:Nat→β)(hg:∀k (hk:k<xs.length),g k=f xs[k]):(List.range n).map g=xs.map f:=by
 subst h
 refine List.ext_getElem (by simp) fun j h1 h2=>?_
 simp only[List.getElem_map,List.getElem_range]
 exact hg j (by simpa using h2)
theorem zq{α:Type}(f g:α→Rat):∀xs:List α,sumQ (xs.map f)-sumQ (xs.map g)=sumQ (xs.map fun x=>f x-g x)
 |[]=>by simp only[List.map_nil,lQ];grind
 | x::xs=>by
  have ih:=zq f g xs
  rw[List.map_cons,List.map_cons,List.map_cons,a0,a0,a0,← ih]
  grind
theorem zr{α:Type}(f g:α→Rat):∀xs:List α,sumQ (xs.map f)+sumQ (xs.map g)=sumQ (xs.map fun x=>f x+g x)
 |[]=>by simp only[List.map_nil,lQ];grind
 | x::xs=>by
  have ih:=zr f g xs
  rw[List.map_cons,List.map_cons,List.map_cons,a0,a0,a0,← ih]
  grind
theorem gC{α:Type}(f:α→Rat):∀xs:List α,(∀x∈xs,0≤f x)→0≤sumQ (xs.map f)
 |[],_=>by simp[lQ]
 | x::xs,h=>by
  have ih:=gC f xs fun y hy=>h y (List.mem_cons_of_mem _ hy)
  have h1:=h x List.mem_cons_self
  rw[List.map_cons,a0]
  grind
theorem G3{α:Type}(f g:α→Rat)(xs:List α)(h:∀x∈xs,f x≤g x):sumQ (xs.map f)≤sumQ (xs.map g):=by
 have e:=zq g f xs
 have e2:=gC (fun x=>g x-f x) xs fun x hx=>by have:=h x hx;grind
 grind
theorem G4{α β γ:Type}(f:α→γ){as:List α}{bs:List β}(h:as.length≤bs.length):(as.zip bs).map (fun x=>f x.1)=as.map f:=by
 have:(as.zip bs).map (fun x=>f x.1)=((as.zip bs).map Prod.fst).map f:=by rw[List.map_map];rfl
 rw[this,List.map_fst_zip h]
theorem pA{n:Nat}{a:Ask}{p:Rat}(h0:0≤p)(h1:p≤a.size)(t:Nat):0≤sent n a p t∧sent n a p t≤a.size:=by
 unfold sent
 split
 ·
  exact⟨h0,h1⟩
 ·
  constructor<;>grind
def fV(c:Nat×Nat)(p:Nat):Bool:=decide (c.1<p∧p≤c.2)
def apart(c:Nat×Nat)(i j:Nat):Bool:=fV c i != fV c j
def bh(as:List Ask)(c:Nat×Nat):Rat:=sumQ ((as.filter fun a=>apart c a.one a.other).map (·.size))
def Ring.room(R:Ring)(t:Nat):Rat:=R.rooms.getD t 0
def eO(R:Ring)(c:Nat×Nat):Rat:=R.room c.1+R.room c.2
def a7(R:Ring)(c:Nat×Nat):Rat:=bh R.asks c / eO R c
def bP(n:Nat)(c:Nat×Nat):Prop:=c.1≤c.2∧c.2<n
def vw(n:Nat):List (Nat×Nat):=(List.range n).flatMap fun g=>(List.range (n-g)).map fun i=>(g,g+i)
theorem sP{n:Nat}{c:Nat×Nat}:c∈vw n↔bP n c:=by
 unfold vw bP
 rw[List.mem_flatMap]
 constructor
 ·
  rintro⟨g,hg,h⟩
  obtain⟨i,hi,rfl⟩:=List.mem_map.mp h
  have:=List.mem_range.mp hg
  have:=List.mem_range.mp hi
  exact⟨Nat.le_add_right _ _,by show g+i<n;omega⟩
 ·
  rintro⟨h1,h2⟩
  exact⟨c.1,List.mem_range.mpr (by omega),List.mem_map.mpr ⟨c.2-c.1,List.mem_range.mpr (by omega),by ext<;>simp;omega⟩⟩
theorem sQ{R:Ring}{t:Nat}(h:t<R.n):atI (R.rooms.map frD) (t:Int)=some (frD (R.room t)):=by
 have h':t<R.rooms.length:=h
 rw[bD h']
 unfold Ring.room
 rw[List.getD_eq_getElem?_getD,List.getElem?_eq_getElem h']
 rfl
theorem cH{R:Ring}(hR:R.Ok){t:Nat}(h:t<R.n):0<R.room t∧RB 60 (R.room t):=by
 have h':t<R.rooms.length:=h
 unfold Ring.room
 rw[List.getD_eq_getElem?_getD,List.getElem?_eq_getElem h']
 exact hR.room _ (List.getElem_mem h')
theorem eP{R:Ring}(hR:R.Ok){c:Nat×Nat}(h:bP R.n c):0<eO R c∧RB 121 (eO R c):=by
 have a:=cH hR (t:=c.1) (by have:=h.1;have:=h.2;omega)
 have b:=cH hR (t:=c.2) h.2
 unfold eO
 exact⟨by have:=a.1;have:=b.1;grind,a.2.add b.2⟩
theorem mS{q:Rat}{D:Nat}{z:Int}(h0:0<D)(e:q*(D:Rat)=(z:Rat)):q.den∣D:=by
 have hQ:(D:Rat)≠0:=fun w=>by
  have:=Rat.natCast_pos.mpr h0
  rw[w]at this
  exact absurd this (by decide)
 have e2:q=Rat.divInt z (D:Int):=by
  rw[Rat.divInt_eq_div]
  have:((D:Int):Rat)=(D:Rat):=rfl
  rw[this,← e,Rat.mul_div_cancel hQ]
 rw[e2]
 have:=Rat.den_divInt z (D:Int)
 rw[this,if_neg (by omega),Int.natAbs_natCast]
 exact Nat.div_dvd_of_dvd (Nat.gcd_dvd_left _ _)
theorem rH{q:Rat}{D:Nat}(h:q.den∣D):∃z:Int,q*(D:Rat)=(z:Rat):=by
 obtain⟨m,rfl⟩:=h
 refine⟨q.num*(m:Int),?_⟩
 rw[Rat.intCast_mul,vj]
 have e1:((m:Int):Rat)=(m:Rat):=rfl
 have e2:((q.den*m:Nat):Rat)=(q.den:Rat)*(m:Rat):=Rat.natCast_mul _ _
 rw[e1,e2,Rat.mul_assoc]
theorem sR{p q:Rat}{D:Nat}(h0:0<D)(hp:p.den∣D)(hq:q.den∣D):(p+q).den∣D:=by
 obtain⟨a,ha⟩:=rH hp
 obtain⟨b,hb⟩:=rH hq
 exact mS (z:=a+b) h0 (by rw[Rat.add_mul,ha,hb,Rat.intCast_add])
theorem pB{D:Nat}(h0:0<D):∀qs:List Rat,(∀q∈qs,q.den∣D)→(sumQ qs).den∣D
 |[],_=>by show(0:Rat).den∣D;exact Nat.one_dvd _
 | q::qs,h=>by
  rw[a0]
  exact sR h0 (h q List.mem_cons_self) (pB h0 qs fun p hp=>h p (List.mem_cons_of_mem _ hp))
theorem xu{V:Rat}(hV:0≤V):∀qs:List Rat,(∀q∈qs,q<V)→sumQ qs≤(qs.length:Rat)*V
 |[],_=>by show(0:Rat)≤_;rw[List.length_nil];show(0:Rat)≤0*V;grind
 | q::qs,h=>by
  rw[a0,List.length_cons]
  have h1:=h q List.mem_cons_self
  have h2:=xu hV qs fun p hp=>h p (List.mem_cons_of_mem _ hp)
  have e:((qs.length+1:Nat):Rat)=(qs.length:Rat)+1:=Rat.natCast_add _ _
  rw[e]
  grind
def Jb(qs:List Rat):Prop:=denP qs<2^9000∨∃D:Nat,0<D∧D<2^4400∧∀q∈qs,q.den∣D
theorem rJ{R:Ring}(hR:R.Ok){as:List Ask}(hs:∀a∈as,a∈R.asks)(hl:as.length≤20)(c:Nat×Nat):RB 1546 (bh as c):=by
 obtain⟨D,d0,d1,hd⟩:=hR.cd
 have hm:∀q∈(as.filter (fun a=>apart c a.one a.other)).map (·.size),∃a∈R.asks,q=a.size:=fun q hq=>by
  obtain⟨a,ha,rfl⟩:=List.mem_map.mp hq
  exact⟨a,hs a (List.mem_filter.mp ha).1,rfl⟩
 have h1:(bh as c).den∣D:=pB d0 _ fun q hq=>by
  obtain⟨a,ha,rfl⟩:=hm q hq
  exact hd a ha
 have h0:0≤bh as c:=gC _ _ fun a ha=>(hR.ask a (hs a (List.mem_filter.mp ha).1)).size
 have hV:(0:Rat)<((2^300:Nat):Rat):=Rat.natCast_pos.mpr (Nat.pow_pos (by decide))
 have h2:bh as c≤_:=xu (Rat.le_of_lt hV) _ fun q hq=>by
  obtain⟨a,ha,rfl⟩:=hm q hq
  exact(hR.ask a ha).lt
 have h3:((as.filter (fun a=>apart c a.one a.other)).map (·.size)).length≤20:=by
  rw[List.length_map]
  have:=List.length_filter_le (fun a:Ask=>apart c a.one a.other) as
  omega
 have h4:bh as c<((2^306:Nat):Rat):=by
  have e:((2^306:Nat):Rat)=64*((2^300:Nat):Rat):=by
   rw[show(2^306:Nat)=64*2^300 by rw[show 306=6+300 from rfl,Nat.pow_add],Rat.natCast_mul]
   rfl
  rw[e]
  generalize ((2^300:Nat):Rat)=V at *
  generalize ((as.filter (fun a=>apart c a.one a.other)).map (·.size)).length=m at *
  have h5:(m:Rat)*V≤20*V:=Rat.mul_le_mul_of_nonneg_right (by exact_mod_cast h3) (Rat.le_of_lt hV)
  grind
 exact(RB.of_val (v:=306) (d:=1240) h0 (Nat.lt_of_le_of_lt (Nat.le_of_dvd d0 h1) d1) h4).mono (by decide)
theorem pC{R:Ring}(hR:R.Ok)(c:Nat×Nat):RB 1546 (bh R.asks c):=rJ hR (fun _ h=>h) hR.few c
theorem sS{R:Ring}(hR:R.Ok)(c:Nat×Nat):0≤bh R.asks c:=gC _ _ fun a ha=>(hR.ask a ((List.mem_filter.mp ha).1)).size
theorem zt{R:Ring}(hR:R.Ok){c:Nat×Nat}(h:bP R.n c):RB 1667 (a7 R c):=by
 obtain⟨h1,h2⟩:=eP hR h
 exact(pC hR c).div h2 (by grind)
def cz(R:Ring)(acc:Rat×(Nat×Nat))(c:Nat×Nat):Rat×(Nat×Nat):=if acc.1<a7 R c then(a7 R c,c)else acc
theorem Cd{R:Ring}{acc:Rat×(Nat×Nat)}{c:Nat×Nat}(h:acc.1<a7 R c):cz R acc c=(a7 R c,c):=if_pos h
theorem Ce{R:Ring}{acc:Rat×(Nat×Nat)}{c:Nat×Nat}(h:¬acc.1<a7 R c):cz R acc c=acc:=if_neg h
def gcut(R:Ring):Rat×(Nat×Nat):=(vw R.n).foldl (cz R) (0,(0,0))
theorem xv(R:Ring):a7 R (0,0)=0:=by
 unfold a7 bh
 have:R.asks.filter (fun a=>apart (0,0) a.one a.other)=[]:=by
  rw[List.filter_eq_nil_iff]
  intro a _
  have e:∀p,fV (0,0) p=false:=fun p=>decide_eq_false (by show ¬(0<p∧p≤0);omega)
  unfold apart
  rw[e,e]
  decide
 rw[this]
 show(0:Rat) / _=0
 rw[Rat.div_def,Rat.zero_mul]
theorem Cf{n:Nat}(h:0<n):∃rest,vw n=(0,0)::rest:=by
 obtain⟨m,rfl⟩:∃m,n=m+1:=⟨n-1,by omega⟩
 unfold vw
 rw[List.range_succ_eq_map,List.flatMap_cons]
 exact⟨_,by rw[Nat.sub_zero,List.range_succ_eq_map];rfl⟩
theorem vx(R:Ring):∀(cs:List (Nat×Nat))(acc:Rat×(Nat×Nat)),acc.1≤(cs.foldl (cz R) acc).1∧(∀c∈cs,a7 R c≤(cs.foldl (cz R) acc).1)∧((cs.foldl (cz R) acc)=acc∨((cs.foldl (cz R) acc).2∈cs∧(cs.foldl (cz R) acc).1=a7 R (cs.foldl (cz R) acc).2))
 |[],acc=>⟨Rat.le_refl,fun c hc=>by simp at hc,.inl rfl⟩
 | c::cs,acc=>by
  obtain⟨h1,h2,h3⟩:=vx R cs (cz R acc c)
  rw[List.foldl_cons]
  have g1:acc.1≤(cz R acc c).1∧a7 R c≤(cz R acc c).1:=by
   unfold cz
   split
   ·
    rename_i h;exact⟨Rat.le_of_lt h,Rat.le_refl⟩
   ·
    rename_i h;exact⟨Rat.le_refl,Rat.not_lt.mp h⟩
  refine⟨Rat.le_trans g1.1 h1,fun d hd=>?_,?_⟩
  ·
   rcases List.mem_cons.mp hd with rfl|hd
   ·
    exact Rat.le_trans g1.2 h1
   ·
    exact h2 d hd
  ·
   rcases h3 with h3|⟨h3,h4⟩
   ·
    rw[h3]
    unfold cz
    split
    ·
     exact .inr ⟨List.mem_cons_self,rfl⟩
    ·
     exact .inl rfl
   ·
    exact .inr ⟨List.mem_cons_of_mem _ h3,h4⟩
theorem fH{R:Ring}(hR:R.Ok):bP R.n (gcut R).2∧(gcut R).1=a7 R (gcut R).2∧(∀c,bP R.n c→a7 R c≤(gcut R).1)∧0≤(gcut R).1:=by
 have hlo:=hR.lo
 obtain⟨h1,h2,h3⟩:=vx R (vw R.n) (0,(0,0))
 refine⟨?_,?_,fun c hc=>h2 c (sP.mpr hc),h1⟩
 ·
  rcases h3 with h3|⟨h3,_⟩
  ·
   unfold gcut;rw[h3];exact⟨Nat.le_refl _,by show 0<R.n;omega⟩
  ·
   exact sP.mp h3
 ·
  rcases h3 with h3|⟨_,h4⟩
  ·
   unfold gcut;rw[h3];exact(xv R).symm
  ·
   exact h4
theorem kD{R:Ring}(hR:R.Ok):RB 1667 (gcut R).1:=by
 obtain⟨h1,h2,_⟩:=fH hR
 rw[h2]
 exact zt hR h1
def aF(R:Ring)(ps:List Rat)(t:Nat):Rat:=bM R.n R.asks ps t / R.room t
def topI(n:Nat)(f:Nat→Rat):Nat:=(List.range n).foldl (fun b t=>if f b<f t then t else b) 0
theorem zu(f:Nat→Rat):∀(ts:List Nat)(b:Nat),(∀t∈ts,f t≤f (ts.foldl (fun b t=>if f b<f t then t else b) b))∧f b≤f (ts.foldl (fun b t=>if f b<f t then t else b) b)∧(ts.foldl (fun b t=>if f b<f t then t else b) b=b∨ts.foldl (fun b t=>if f b<f t then t else b) b∈ts)
 |[],b=>⟨fun t ht=>by simp at ht,Rat.le_refl,.inl rfl⟩
 | s::ts,b=>by
  obtain⟨h1,h2,h3⟩:=zu f ts (if f b<f s then s else b)
  rw[List.foldl_cons]
  have g:f b≤f (if f b<f s then s else b)∧f s≤f (if f b<f s then s else b):=by
   split
   ·
    rename_i h;exact⟨Rat.le_of_lt h,Rat.le_refl⟩
   ·
    rename_i h;exact⟨Rat.le_refl,Rat.not_lt.mp h⟩
  refine⟨fun t ht=>?_,Rat.le_trans g.1 h2,?_⟩
  ·
   rcases List.mem_cons.mp ht with rfl|ht
   ·
    exact Rat.le_trans g.2 h2
   ·
    exact h1 t ht
  ·
   rcases h3 with h3|h3
   ·
    rw[h3]
    split
    ·
     exact .inr List.mem_cons_self
    ·
     exact .inl rfl
   ·
    exact .inr (List.mem_cons_of_mem _ h3)
theorem sT{n:Nat}(hn:0<n)(f:Nat→Rat):topI n f<n∧∀t,t<n→f t≤f (topI n f):=by
 obtain⟨h1,_,h3⟩:=zu f (List.range n) 0
 refine⟨?_,fun t ht=>h1 t (List.mem_range.mpr ht)⟩
 rcases h3 with h3|h3
 ·
  unfold topI;rw[h3];exact hn
 ·
  exact List.mem_range.mp h3
theorem G5(n:Nat)(f:Nat→Rat):kB (frL n f)=(List.range n).map fun (t:Nat)=>D.tup [.int (t:Int),frD (f t)]:=by
 unfold kB frL
 refine List.ext_getElem (by simp) fun j h1 h2=>?_
 simp
theorem En(qs:List Rat):kB (qs.map frD)=(List.range qs.length).map fun (t:Nat)=>D.tup [.int (t:Int),frD (qs.getD t 0)]:=by
 unfold kB
 refine List.ext_getElem (by simp) fun j h1 h2=>?_
 have hj:j<qs.length:=by simpa using h1
 simp[hj]
theorem zv(R:Ring):R.rooms.map frD=frL R.n R.room:=by
 rw[B2]
 congr 1
 refine List.ext_getElem (by simp[Ring.n]) fun j h1 h2=>?_
 simp[Ring.room,h1]
theorem Cg(n:Nat)(f g:Nat→Rat):zipD (frL n f) (frL n g)=(List.range n).map fun (t:Nat)=>D.tup [frD (f t),frD (g t)]:=by
 unfold zipD frL
 refine List.ext_getElem (by simp) fun j h1 h2=>?_
 simp
theorem mT{n : Nat}{a : Ask}(h : jU n a){t : Nat}(ht : t<n) : isOn n a t = ((decide (a.one ≤ t) != decide (a.other ≤ t)) != decide (a.other<a.one)) := by
  have h1 := h.one
  have h2 := h.other
  have hne := h.ne
  unfold isOn
  rw[pw h1 ht, pw h1 h2]
  by_cases a1 : a.one ≤ t<;>by_cases a2 : a.other ≤ t<;>by_cases a3 : a.other<a.one<;>by_cases a4 : a.one ≤ a.other
  all_goals
    simp only[a1, a2, a3, a4, if_true, if_false, decide_true, decide_false]
  all_goals first
    |omega
    | (first
        |(rw[decide_eq_true (by omega)];rfl)
        |(rw[decide_eq_false (by omega)];rfl))
theorem pD{n:Nat}{a:Ask}(h:jU n a){c:Nat×Nat}(hc:bP n c):apart c a.one a.other=(isOn n a c.1 != isOn n a c.2):=by
 have h1:=hc.1
 have h2:=hc.2
 rw[mT h (by omega),mT h h2]
 unfold apart fV
 have e:∀p:Nat,decide (c.1<p∧p≤c.2)=(decide (p≤c.1) != decide (p≤c.2)):=fun p=>by
  by_cases q1:p≤c.1<;>by_cases q2:p≤c.2
  ·
   rw[decide_eq_false (by omega)];simp[q1,q2]
  ·
   omega
  ·
   rw[decide_eq_true (by omega)];simp[q1,q2]
  ·
   rw[decide_eq_false (by omega)];simp[q1,q2]
 rw[e,e]
 cases decide (a.one≤c.1)<;>cases decide (a.one≤c.2)<;>cases decide (a.other≤c.1)<;>cases decide (a.other≤c.2)<;>cases decide (a.other<a.one)<;>rfl
theorem Eo{n:Nat}{a:Ask}(h:jU n a){c:Nat×Nat}(hc:bP n c)(p:Rat)(ha:apart c a.one a.other=true):sent n a p c.1+sent n a p c.2=a.size:=by
 rw[pD h hc]at ha
 unfold sent
 revert ha
 cases isOn n a c.1<;>cases isOn n a c.2<;>intro ha
 ·
  cases ha
 ·
  simp only[Bool.false_eq_true,if_false,if_true];grind
 ·
  simp only[Bool.false_eq_true,if_false,if_true];grind
 ·
  cases ha
theorem Ag{as:List Ask}{ps:List Rat}(hl:as.length≤ps.length)(c:Nat×Nat):bh as c=sumQ ((as.zip ps).map fun x=>if apart c x.1.one x.1.other=true then x.1.size else 0):=by
 rw[G4 (fun a:Ask=>if apart c a.one a.other=true then a.size else 0) hl]
 unfold bh
 induction as with
 |nil=>rfl
 | cons a as ih =>
  have ih:=ih (Nat.le_trans (by simp) hl)
  rw[List.map_cons,a0,← ih,List.filter_cons]
  split
  ·
   rw[List.map_cons,a0]
  ·
   rw[Rat.zero_add]
theorem Ep{R:Ring}(hR:R.Ok){ps:List Rat}{b:Nat}(hp:kC R ps b){c:Nat×Nat}(hc:bP R.n c):bh R.asks c≤bM R.n R.asks ps c.1+bM R.n R.asks ps c.2:=by
 have hl:=hp.len
 rw[Ag (ps:=ps) (by omega)]
 unfold bM
 rw[zr]
 refine G3 _ _ _ fun x hx=>?_
 obtain⟨h1,_⟩:=List.of_mem_zip (a:=x.1) (b:=x.2) hx
 obtain⟨a1,a2⟩:=hp.lo x hx
 have b1:=(pA (n:=R.n) a1 a2 c.1).1
 have b2:=(pA (n:=R.n) a1 a2 c.2).1
 split
 ·
  rename_i e
  rw[Eo (hR.ask _ h1) hc x.2 e]
  exact Rat.le_refl
 ·
  grind
theorem gD{a b c:Rat}(hb:0<b):a / b≤c↔a≤c*b:=by
 rw[← Rat.not_lt,← Rat.not_lt,Rat.lt_div_iff hb]
theorem rK{R:Ring}(hR:R.Ok){ps:List Rat}{t:Nat}(ht:t<R.n):bM R.n R.asks ps t≤aF R ps (topI R.n (aF R ps))*R.room t:=by
 have hlo:=hR.lo
 have h:=(sT (n:=R.n) (by omega) (aF R ps)).2 t ht
 have hr:=(cH hR ht).1
 exact(gD hr).mp h
theorem xw{R:Ring}(hR:R.Ok){ps:List Rat}{b:Nat}(hp:kC R ps b){c:Nat×Nat}(hc:bP R.n c):a7 R c≤aF R ps (topI R.n (aF R ps)):=by
 have h1:c.1<R.n:=by have:=hc.1;have:=hc.2;omega
 have e1:=rK hR (ps:=ps) h1
 have e2:=rK hR (ps:=ps) hc.2
 have e3:=Ep hR hp hc
 have r:=(eP hR hc).1
 refine(gD r).mpr ?_
 unfold eO
 generalize aF R ps (topI R.n (aF R ps))=T at e1 e2 ⊢
 rw[Rat.mul_add]
 grind
def optI:Option Nat→D
 |none=>.non
 |some k=>.int (k:Int)
def c7(P:Nat→Bool)(n:Nat):Option Nat:=(List.range n).find? P
theorem gf{P:Nat→Bool}{n:Nat}:c7 P n=none↔∀k,k<n→P k=false:=by
 unfold c7
 rw[List.find?_eq_none]
 constructor
 ·
  intro h k hk
  have:=h k (List.mem_range.mpr hk)
  simpa using this
 ·
  intro h k hk
  rw[h k (List.mem_range.mp hk)]
  exact Bool.false_ne_true
theorem zw{P:Nat→Bool}{n k:Nat}(hk:k<n)(h1:P k=true)(h0:∀j,j<k→P j=false):c7 P n=some k:=by
 have e:List.range n=List.range k++k::(List.range' (k+1) (n-k-1)):=by
  rw[List.range_eq_range',List.range_eq_range']
  have:n=k+(1+(n-k-1)):=by omega
  conv=>lhs;rw[this]
  rw[← List.range'_append_1,Nat.zero_add]
  congr 1
  rw[Nat.add_comm,List.range'_succ]
 unfold c7
 rw[e,List.find?_append]
 have:(List.range k).find? P=none:=by
  rw[List.find?_eq_none]
  intro j hj
  rw[h0 j (List.mem_range.mp hj)]
  exact Bool.false_ne_true
 rw[this,List.find?_cons,h1]
 rfl
def Ring.sz(R:Ring)(k:Nat):Rat:=(R.asks.map (·.size)).getD k 0
theorem xx{R:Ring}{k:Nat}(h:k<R.asks.length):R.sz k=R.asks[k].size:=by
 unfold Ring.sz
 rw[List.getD_eq_getElem?_getD,List.getElem?_map,List.getElem?_eq_getElem h]
 rfl
theorem iF{qs:List Rat}{k:Nat}(h:k<qs.length):qs.getD k 0=qs[k]:=by
 rw[List.getD_eq_getElem?_getD,List.getElem?_eq_getElem h]
 rfl
def bF(R:Ring)(ps:List Rat)(k:Nat):Bool:=decide (ps.getD k 0<0) ||decide (R.sz k<ps.getD k 0)
end L2
namespace My
open PySem L2
def vz(R:Ring)(q:Rat)(c:Nat×Nat):Rat:=q*eO R c-bh R.asks c
def bZ(R:Ring)(j:Nat):Ask:=(R.asks[j]?).getD ⟨"",0,0,0⟩
def onA(R:Ring)(j t:Nat):Bool:=isOn R.n (bZ R j) t
def dI(R:Ring)(w:Nat→Int)(k g h:Nat):Int:=((List.range (R.asks.length-k)).map fun i=>if onA R (k+i) g != onA R (k+i) h then w (k+i)else 0).sum
theorem gE{R:Ring}(hR:R.Ok){j:Nat}(h:j<R.asks.length):jU R.n (bZ R j):=by
 unfold bZ
 rw[List.getElem?_eq_getElem h]
 exact hR.ask _ (List.getElem_mem h)
theorem c8{R:Ring}{j:Nat}(h:j<R.asks.length):bZ R j=R.asks[j]:=by
 unfold bZ
 rw[List.getElem?_eq_getElem h]
 rfl
theorem mU(R:Ring)(w:Nat→Int)(k g h:Nat):dI R w k g h=dI R w k h g:=by
 unfold dI
 congr 1
 refine List.map_congr_left fun i _=>?_
 cases onA R (k+i) g<;>cases onA R (k+i) h<;>rfl
theorem mV(R:Ring)(w:Nat→Int){k:Nat}(hk:k<R.asks.length)(g h:Nat):dI R w k g h=(if onA R k g != onA R k h then w k else 0)+dI R w (k+1) g h:=by
 unfold dI
 have e:R.asks.length-k=(R.asks.length-(k+1))+1:=by omega
 rw[e,List.range_succ_eq_map,List.map_cons,List.sum_cons,List.map_map]
 congr 2
 refine List.map_congr_left fun i _=>?_
 show(if onA R (k+(i+1)) g != onA R (k+(i+1)) h then w (k+(i+1))else 0)=_
 rw[show k+(i+1)=k+1+i by omega]
theorem Jc(R:Ring)(w:Nat→Int)(g h:Nat):dI R w R.asks.length g h=0:=by
 unfold dI
 rw[Nat.sub_self]
 rfl
theorem sU{α:Type}(f1 f2 g1 g2:α→Int):∀(xs:List α),(∀x∈xs,f1 x+f2 x≤g1 x+g2 x)→(xs.map f1).sum+(xs.map f2).sum≤(xs.map g1).sum+(xs.map g2).sum
 |[],_=>by simp
 | x::xs,h=>by
  have h1:=h x List.mem_cons_self
  have h2:=sU f1 f2 g1 g2 xs fun y hy=>h y (List.mem_cons_of_mem _ hy)
  simp only[List.map_cons,List.sum_cons]
  omega
theorem Ci:∀(u1 u2 u3 u4 v1 v2 v3 v4 c:Bool),(u1→u2)→(u2→u3)→(u3→u4)→(v1→v2)→(v2→v3)→(v3→v4) →
  ((((u1 != v1) != c) != ((u2 != v2) != c)).toNat+(((u3 != v3) != c) != ((u4 != v4) != c)).toNat≤(((u1 != v1) != c) != ((u3 != v3) != c)).toNat+(((u2 != v2) != c) != ((u4 != v4) != c)).toNat) ∧
  ((((u1 != v1) != c) != ((u4 != v4) != c)).toNat+(((u2 != v2) != c) != ((u3 != v3) != c)).toNat≤(((u1 != v1) != c) != ((u3 != v3) != c)).toNat+(((u2 != v2) != c) != ((u4 != v4) != c)).toNat) ∧
  (((u1 != v1) != c)=((u3 != v3) != c)→((u2 != v2) != c)=((u4 != v4) != c)→((u1 != v1) != c)=((u2 != v2) != c)):=by decide
theorem Cj{w:Int}(hw:0≤w){b1 b2 b3 b4:Bool}(h:b1.toNat+b2.toNat≤b3.toNat+b4.toNat):(if b1 then w else 0)+(if b2 then w else 0)≤(if b3 then w else 0)+(if b4 then w else 0):=by
 cases b1<;>cases b2<;>cases b3<;>cases b4<;>simp at h⊢<;> omega
theorem xy{R:Ring}(hR:R.Ok){j:Nat}(hj:j<R.asks.length){p1 p2 p3 p4:Nat}(h12:p1≤p2)(h23:p2≤p3)(h34:p3≤p4)(h4:p4<R.n) :
  ((onA R j p1 != onA R j p2).toNat+(onA R j p3 != onA R j p4).toNat≤(onA R j p1 != onA R j p3).toNat+(onA R j p2 != onA R j p4).toNat) ∧
  ((onA R j p1 != onA R j p4).toNat+(onA R j p2 != onA R j p3).toNat≤(onA R j p1 != onA R j p3).toNat+(onA R j p2 != onA R j p4).toNat) ∧
  (onA R j p1=onA R j p3→onA R j p2=onA R j p4→onA R j p1=onA R j p2):=by
 have ha:=gE hR hj
 unfold onA
 rw[mT ha (show p1<R.n by omega),mT ha (show p2<R.n by omega),mT ha (show p3<R.n by omega),mT ha h4]
 exact Ci _ _ _ _ _ _ _ _ _ (by simp only[decide_eq_true_eq];omega) (by simp only[decide_eq_true_eq];omega) (by simp only[decide_eq_true_eq];omega) (by simp only[decide_eq_true_eq];omega) (by simp only[decide_eq_true_eq];omega) (by simp only[decide_eq_true_eq];omega)
theorem oH{R:Ring}(hR:R.Ok){w:Nat→Int}(hw:∀j,j<R.asks.length→0≤w j)(k:Nat){p1 p2 p3 p4:Nat}(h12:p1≤p2)(h23:p2≤p3)(h34:p3≤p4)(h4:p4<R.n) :
  dI R w k p1 p2+dI R w k p3 p4≤dI R w k p1 p3+dI R w k p2 p4∧dI R w k p1 p4+dI R w k p2 p3≤dI R w k p1 p3+dI R w k p2 p4:=by
 unfold dI
 refine⟨sU _ _ _ _ _ fun i hi=>?_,sU _ _ _ _ _ fun i hi=>?_⟩
 all_goals
  have hj:k+i<R.asks.length:=by have:=List.mem_range.mp hi;omega
  have h:=xy hR hj h12 h23 h34 h4
 ·
  exact Cj (hw _ hj) h.1
 ·
  exact Cj (hw _ hj) h.2.1
def sV(R:Ring)(w f:Nat→Int)(k:Nat):Prop:=∀g h,g<R.n→h<R.n→dI R w k g h≤f g+f h∧(f g+f h-dI R w k g h) % 2=0
def pE(R:Ring)(w f:Nat→Int)(k:Nat)(p:Int)(t:Nat):Int:=f t-if onA R k t then p else w k-p
theorem Er{R:Ring}(hR:R.Ok){w f:Nat→Int}(hw:∀j,j<R.asks.length→0≤w j){k:Nat}(hk:k<R.asks.length)(hc:sV R w f k){p:Int}
  (hp:∀g h,g<R.n→h<R.n→onA R k g=true→onA R k h=true→g≤h→2*p≤f g+f h-dI R w (k+1) g h)
  (hq:p=w k∨∃a b,a<R.n∧b<R.n∧onA R k a=true∧onA R k b=true∧a≤b∧2*p=f a+f b-dI R w (k+1) a b):sV R w (pE R w f k p) (k+1):=by
 have main:∀g h,g<R.n→h<R.n→g≤h→dI R w (k+1) g h≤pE R w f k p g+pE R w f k p h∧(pE R w f k p g+pE R w f k p h-dI R w (k+1) g h) % 2=0:=by
  intro g h hg hh hgh
  obtain⟨c1,c2⟩:=hc g h hg hh
  have st:=mV R w hk g h
  unfold pE
  cases eg:onA R k g<;>cases eh:onA R k h<;>rw[eg,eh]at st
  ·
   simp only[bne_self_eq_false,Bool.false_eq_true,if_false]at st ⊢
   refine⟨?_,by omega⟩
   rcases hq with hq|⟨a,b,ha,hb,ea,eb,hab,e2⟩
   ·
    omega
   ·
    have sag:dI R w k a g=w k+dI R w (k+1) a g:=by rw[mV R w hk,ea,eg];rfl
    have sbh:dI R w k b h=w k+dI R w (k+1) b h:=by rw[mV R w hk,eb,eh];rfl
    have sah:dI R w k a h=w k+dI R w (k+1) a h:=by rw[mV R w hk,ea,eh];rfl
    have sbg:dI R w k b g=w k+dI R w (k+1) b g:=by rw[mV R w hk,eb,eg];rfl
    have cag:=(hc a g ha hg).1
    have cbh:=(hc b h hb hh).1
    have cah:=(hc a h ha hh).1
    have cbg:=(hc b g hb hg).1
    by_cases o1:b≤g
    ·
     have:=(oH hR hw (k+1) hab o1 hgh hh).1
     omega
    ·
     by_cases o2:h≤a
     ·
      have:=(oH hR hw (k+1) hgh o2 hab hb).1
      rw[mU R w (k+1) g a,mU R w (k+1) h b]at this
      omega
     ·
      by_cases o3:g≤a
      ·
       by_cases o4:b≤h
       ·
        have:=(oH hR hw (k+1) o3 hab o4 hh).2
        rw[mU R w (k+1) g b]at this
        omega
       ·
        exfalso
        have:=(xy hR hk o3 (show a≤h by omega) (show h≤b by omega) hb).2.2
        rw[eg,ea,eh,eb]at this
        exact absurd (this rfl rfl) (by decide)
      ·
       by_cases o4:h≤b
       ·
        have:=(oH hR hw (k+1) (show a≤g by omega) hgh o4 hb).2
        rw[mU R w (k+1) g b]at this
        omega
       ·
        exfalso
        have:=(xy hR hk (show a≤g by omega) (show g≤b by omega) (show b≤h by omega) hh).2.2
        rw[eg,ea,eh,eb]at this
        exact absurd (this rfl rfl) (by decide)
  ·
   simp only[Bool.false_bne,if_true,if_false,Bool.false_eq_true]at st ⊢
   exact⟨by omega,by omega⟩
  ·
   simp only[Bool.bne_false,if_true,if_false,Bool.false_eq_true]at st ⊢
   exact⟨by omega,by omega⟩
  ·
   simp only[bne_self_eq_false,Bool.false_eq_true,if_false,if_true]at st ⊢
   have:=hp g h hg hh eg eh hgh
   exact⟨by omega,by omega⟩
 intro g h hg hh
 by_cases hgh:g≤h
 ·
  exact main g h hg hh hgh
 ·
  have:=main h g hh hg (by omega)
  rw[mU R w (k+1) h g]at this
  exact⟨by omega,by omega⟩
def mnI(i j:Int):Int:=if j<i then j else i
theorem Ck{α:Type}(c:α→Bool)(v:α→Int):∀(xs:List α)(acc r:Int),xs.foldl (fun t x=>if c x then mnI t (v x)else t) acc=r →
  r≤acc∧(∀x∈xs,c x=true→r≤v x)∧(r=acc∨∃x∈xs,c x=true∧r=v x)
 | [],acc,r,e=>by
  rw[List.foldl_nil]at e
  subst e
  exact⟨Int.le_refl _,fun x hx=>by simp at hx,.inl rfl⟩
 | x::xs,acc,r,e=>by
  rw[List.foldl_cons]at e
  obtain⟨h1,h2,h3⟩:=Ck c v xs _ r e
  unfold mnI at h1 h3
  by_cases hc:c x=true
  ·
   rw[if_pos hc]at h1 h3
   by_cases hl:v x<acc
   ·
    rw[if_pos hl]at h1 h3
    refine⟨by omega,fun y hy hy'=>?_,?_⟩
    ·
     rcases List.mem_cons.mp hy with rfl|hy
     ·
      exact h1
     ·
      exact h2 y hy hy'
    ·
     rcases h3 with h3|⟨y,hy,hc',e⟩
     ·
      exact .inr ⟨x,List.mem_cons_self,hc,h3⟩
     ·
      exact .inr ⟨y,List.mem_cons_of_mem _ hy,hc',e⟩
   ·
    rw[if_neg hl]at h1 h3
    refine⟨by omega,fun y hy hy'=>?_,?_⟩
    ·
     rcases List.mem_cons.mp hy with rfl|hy
     ·
      omega
     ·
      exact h2 y hy hy'
    ·
     rcases h3 with h3|⟨y,hy,hc',e⟩
     ·
      exact .inl h3
     ·
      exact .inr ⟨y,List.mem_cons_of_mem _ hy,hc',e⟩
  ·
   rw[if_neg hc]at h1 h3
   refine⟨h1,fun y hy hy'=>?_,?_⟩
   ·
    rcases List.mem_cons.mp hy with rfl|hy
    ·
     exact absurd hy' hc
    ·
     exact h2 y hy hy'
   ·
    rcases h3 with h3|⟨y,hy,hc',e⟩
    ·
     exact .inl h3
    ·
     exact .inr ⟨y,List.mem_cons_of_mem _ hy,hc',e⟩
def onT(R:Ring)(k:Nat):List Nat:=(PySem.W.sortI ((wayL R.n (bZ R k) true).map fun (t:Nat)=>(t:Int))).map Int.toNat
theorem Es(R:Ring)(k:Nat):PySem.W.sortI ((wayL R.n (bZ R k) true).map fun (t:Nat)=>(t:Int))=(onT R k).map fun (t:Nat)=>(t:Int):=by
 unfold onT
 rw[List.map_map]
 have:∀x∈PySem.W.sortI ((wayL R.n (bZ R k) true).map fun (t:Nat)=>(t:Int)),((fun (t:Nat)=>(t:Int)) ∘ Int.toNat) x=x:=fun x hx=>by
  obtain⟨t,_,rfl⟩:=List.mem_map.mp ((PySem.W.sortI_perm _).mem_iff.mp hx)
  rfl
 exact((List.map_congr_left this).trans (List.map_id' _)).symm
theorem G6{R:Ring}{k t:Nat}:t∈onT R k↔t∈wayL R.n (bZ R k) true:=by
 unfold onT
 constructor
 ·
  intro h
  obtain⟨x,hx,rfl⟩:=List.mem_map.mp h
  obtain⟨s,hs,rfl⟩:=List.mem_map.mp ((PySem.W.sortI_perm _).mem_iff.mp hx)
  exact hs
 ·
  intro h
  exact List.mem_map.mpr ⟨(t:Int),(PySem.W.sortI_perm _).mem_iff.mpr (List.mem_map.mpr ⟨t,h,rfl⟩),rfl⟩
theorem Jd{n:Nat}{a:Ask}(h:jU n a){t:Nat}(ht:t∈wayL n a true):t<n:=by
 have h1:=h.one
 unfold wayL onL at ht
 simp only[if_true]at ht
 obtain⟨s,_,rfl⟩:=List.mem_map.mp ht
 exact Nat.mod_lt _ (by omega)
theorem kE{R:Ring}(hR:R.Ok){k:Nat}(hk:k<R.asks.length){t:Nat}:t∈onT R k↔t<R.n∧onA R k t=true:=by
 have ha:=gE hR hk
 rw[G6]
 constructor
 ·
  intro h
  have ht:=Jd ha h
  have:=(xr ha true ht).mp h
  exact⟨ht,by unfold onA;simpa using this⟩
 ·
  rintro⟨ht,h⟩
  refine(xr ha true ht).mpr ?_
  unfold onA at h
  rw[h];rfl
def valI(R:Ring)(w f:Nat→Int)(k g h:Nat):Int:=f g+f h-dI R w (k+1) g h
def iG(R:Ring)(w f:Nat→Int)(k:Nat)(acc:Int)(g:Nat)(hs:List Nat):Int:=hs.foldl (fun t h=>if decide (g≤h)then mnI t (valI R w f k g h)else t) acc
def j3(R:Ring)(w f:Nat→Int)(k:Nat)(gs:List Nat):Int:=gs.foldl (fun t g=>iG R w f k t g (onT R k)) (2*w k)
def sW(R:Ring)(w f:Nat→Int)(k:Nat):Int:=(j3 R w f k (onT R k)).fdiv 2
theorem zx(R:Ring)(w f:Nat→Int)(k:Nat):∀(gs:List Nat)(acc r:Int),gs.foldl (fun t g=>iG R w f k t g (onT R k)) acc=r →
  r≤acc∧(∀g∈gs,∀h∈onT R k,g≤h→r≤valI R w f k g h)∧(r=acc∨∃g∈gs,∃h∈onT R k,g≤h∧r=valI R w f k g h)
 | [],acc,r,e=>by
  rw[List.foldl_nil]at e
  subst e
  exact⟨Int.le_refl _,fun x hx=>by simp at hx,.inl rfl⟩
 | g::gs,acc,r,e=>by
  rw[List.foldl_cons]at e
  obtain⟨i1,i2,i3⟩:=Ck (fun h=>decide (g≤h)) (valI R w f k g) (onT R k) acc _ rfl
  obtain⟨h1,h2,h3⟩:=zx R w f k gs _ r e
  unfold iG at h1 h3
  generalize (onT R k).foldl (fun t h=>if decide (g≤h)then mnI t (valI R w f k g h)else t) acc=z at *
  refine⟨by omega,fun y hy h hh hyh=>?_,?_⟩
  ·
   rcases List.mem_cons.mp hy with rfl|hy
   ·
    have:=i2 h hh (decide_eq_true hyh)
    omega
   ·
    exact h2 y hy h hh hyh
  ·
   rcases h3 with h3|⟨y,hy,h,hh,c,e⟩
   ·
    rcases i3 with i3|⟨h,hh,c,e⟩
    ·
     exact .inl (h3.trans i3)
    ·
     exact .inr ⟨g,List.mem_cons_self,h,hh,of_decide_eq_true c,h3.trans e⟩
   ·
    exact .inr ⟨y,List.mem_cons_of_mem _ hy,h,hh,c,e⟩
theorem Cm{R:Ring}(hR:R.Ok){w f:Nat→Int}(hw:∀j,j<R.asks.length→0≤w j){k:Nat}(hk:k<R.asks.length)(hc:sV R w f k) :
  0≤sW R w f k∧sW R w f k≤w k∧sV R w (pE R w f k (sW R w f k)) (k+1):=by
 obtain⟨h1,h2,h3⟩:=zx R w f k (onT R k) (2*w k) _ rfl
 have e:j3 R w f k (onT R k)=(onT R k).foldl (fun t g=>iG R w f k t g (onT R k)) (2*w k):=rfl
 have hwk:=hw k hk
 have hv:∀g h,g∈onT R k→h∈onT R k→0≤valI R w f k g h∧valI R w f k g h % 2=0:=fun g h hg hh=>by
  obtain⟨g1,g2⟩:=(kE hR hk).mp hg
  obtain⟨k1,k2⟩:=(kE hR hk).mp hh
  obtain⟨c1,c2⟩:=hc g h g1 k1
  have st:=mV R w hk g h
  rw[g2,k2]at st
  simp only[bne_self_eq_false,Bool.false_eq_true,if_false]at st
  unfold valI
  exact⟨by omega,by omega⟩
 unfold sW
 rw[e,Int.fdiv_eq_ediv_of_nonneg _ (by decide)]
 generalize (onT R k).foldl (fun t g=>iG R w f k t g (onT R k)) (2*w k)=r at *
 have hr:0≤r∧r % 2=0:=by
  rcases h3 with rfl|⟨g,hg,h,hh,_,rfl⟩
  ·
   omega
  ·
   exact hv g h hg hh
 have hp:2*(r / 2)=r:=by omega
 refine⟨by omega,by omega,Er hR hw hk hc (fun g h hg hh eg eh hgh=>?_) ?_⟩
 ·
  rw[hp]
  exact h2 g ((kE hR hk).mpr ⟨hg,eg⟩) h ((kE hR hk).mpr ⟨hh,eh⟩) hgh
 ·
  rcases h3 with h3|⟨g,hg,h,hh,hgh,h3⟩
  ·
   exact .inl (by omega)
  ·
   obtain⟨g1,g2⟩:=(kE hR hk).mp hg
   obtain⟨k1,k2⟩:=(kE hR hk).mp hh
   exact .inr ⟨g,h,g1,k1,g2,k2,hgh,by rw[hp];exact h3⟩
def fAt(R:Ring)(w f:Nat→Int):Nat→Nat→Int
 |0=>f
 |k+1=>pE R w (fAt R w f k) k (sW R w (fAt R w f k) k)
def pAt(R:Ring)(w f:Nat→Int)(k:Nat):Int:=sW R w (fAt R w f k) k
theorem Cn{R:Ring}(hR:R.Ok){w f:Nat→Int}(hw:∀j,j<R.asks.length→0≤w j)(hc:sV R w f 0):∀k,k≤R.asks.length→sV R w (fAt R w f k) k
 |0,_=>hc
 |k+1,h=>(Cm hR hw (by omega) (Cn hR hw hc k (by omega))).2.2
theorem sX{R:Ring}(hR:R.Ok){w f:Nat→Int}(hw:∀j,j<R.asks.length→0≤w j)(hc:sV R w f 0){k:Nat}(hk:k<R.asks.length):0≤pAt R w f k∧pAt R w f k≤w k :=
 let h:=Cm hR hw hk (Cn hR hw hc k (by omega))
 ⟨h.1,h.2.1⟩
theorem Je{R:Ring}(hR:R.Ok){w f:Nat→Int}(hw:∀j,j<R.asks.length→0≤w j)(hc:sV R w f 0){t:Nat}(ht:t<R.n):0≤fAt R w f R.asks.length t:=by
 have:=(Cn hR hw hc _ (Nat.le_refl _) t t ht ht).1
 rw[Jc]at this
 omega
theorem Co(R:Ring)(w f:Nat→Int)(t:Nat):∀k,fAt R w f k t=f t-((List.range k).map fun j=>if onA R j t then pAt R w f j else w j-pAt R w f j).sum
 |0=>by simp[fAt]
 | k+1=>by
  show fAt R w f k t-(if onA R k t then sW R w (fAt R w f k) k else w k-sW R w (fAt R w f k) k)=_
  rw[Co R w f t k,List.range_succ,List.map_append,List.sum_append]
  show _=f t-(_+([if onA R k t then pAt R w f k else w k-pAt R w f k]).sum)
  rw[List.sum_cons,List.sum_nil]
  unfold pAt
  omega
theorem sY{t b:Int}(h:b≠0):(Rat.divInt t b).den∣b.natAbs:=by
 rw[Rat.den_divInt,if_neg h]
 exact Nat.div_dvd_of_dvd (by rw[Int.gcd];exact Nat.gcd_dvd_left _ _)
theorem gF(p q:Rat):(p*q).den∣p.den*q.den:=by
 have e:p*q=Rat.divInt (p.num*q.num) ((p.den:Int)*q.den):=by
  rw[← Rat.divInt_mul_divInt,Rat.num_divInt_den,Rat.num_divInt_den]
 rw[e]
 have:=sY (t:=p.num*q.num) (b:=(p.den:Int)*q.den) (Int.mul_ne_zero (iE _) (iE _))
 rwa [Int.natAbs_mul,Int.natAbs_natCast,Int.natAbs_natCast]at this
theorem Et(q:Rat):(q.num:Rat)=q*(q.den:Rat):=by
 have h:((q.den:Int):Rat)≠0:=fun e=>iE q (by
  have:((q.den:Int):Rat)=((0:Int):Rat):=e
  exact Rat.intCast_inj.mp this)
 have e:q=(q.num:Rat) / ((q.den:Int):Rat):=by
  conv=>lhs;rw[← Rat.num_divInt_den q,Rat.divInt_eq_div]
 have:=Rat.div_mul_cancel (a:=(q.num:Rat)) h
 rw[← e]at this
 exact this.symm
def cbN(qs:List Rat):Nat:=qs.foldl (fun b q=>Nat.lcm b q.den) 1
theorem xA:∀(qs:List Rat)(b:Nat),b∣qs.foldl (fun b q=>Nat.lcm b q.den) b∧(∀q∈qs,q.den∣qs.foldl (fun b q=>Nat.lcm b q.den) b)∧∀P,b∣P→(∀q∈qs,q.den∣P)→qs.foldl (fun b q=>Nat.lcm b q.den) b∣P
 |[],b=>⟨Nat.dvd_refl _,fun q hq=>by simp at hq,fun P h _=>h⟩
 | q::qs,b=>by
  obtain⟨h1,h2,h3⟩:=xA qs (Nat.lcm b q.den)
  rw[List.foldl_cons]
  refine⟨Nat.dvd_trans (Nat.dvd_lcm_left _ _) h1,fun p hp=>?_,fun P hb hP=>h3 P (Nat.lcm_dvd hb (hP q List.mem_cons_self)) fun p hp=>hP p (List.mem_cons_of_mem _ hp)⟩
  rcases List.mem_cons.mp hp with rfl|hp
  ·
   exact Nat.dvd_trans (Nat.dvd_lcm_right _ _) h1
  ·
   exact h2 p hp
theorem Cp{qs:List Rat}{q:Rat}(h:q∈qs):q.den∣cbN qs:=(xA qs 1).2.1 q h
theorem Eu{qs:List Rat}{P:Nat}(h:∀q∈qs,q.den∣P):cbN qs∣P:=(xA qs 1).2.2 P (Nat.one_dvd _) h
def jV(u:Nat)(q:Rat):Int:=q.num*((u / q.den:Nat):Int)
theorem lR{u:Nat}{q:Rat}(h:q.den∣u):((jV u q:Int):Rat)=q*(u:Rat):=by
 obtain⟨c,rfl⟩:=h
 unfold jV
 rw[Nat.mul_div_cancel_left _ (den_pos q),Rat.intCast_mul,Et,Rat.intCast_natCast,Rat.natCast_mul,Rat.mul_assoc]
theorem pF{B:Nat}{q:Rat}(h:q.den∣B):jV (2*B) q % 2=0:=by
 obtain⟨c,rfl⟩:=h
 unfold jV
 rw[show 2*(q.den*c)=q.den*(2*c) by rw[← Nat.mul_assoc,← Nat.mul_assoc,Nat.mul_comm 2],Nat.mul_div_cancel_left _ (den_pos q)]
 rw[show((2*c:Nat):Int)=2*(c:Int) by omega,← Int.mul_assoc,Int.mul_comm q.num 2,Int.mul_assoc]
 exact Int.mul_emod_right _ _
theorem xB{u:Nat}{q:Rat}(h:0≤q):0≤jV u q:=Int.mul_nonneg (Rat.num_nonneg.mpr h) (Int.natCast_nonneg _)
def j4(R:Ring):List Rat:=R.asks.map (·.size)
def qL(R:Ring)(q:Rat):List Rat:=R.rooms.map fun r=>q*r
def cbR(R:Ring)(q:Rat):Nat:=cbN (j4 R++qL R q)
def aT(R:Ring)(q:Rat):Nat:=2*cbR R q
def wI(R:Ring)(q:Rat)(j:Nat):Int:=jV (aT R q) (bZ R j).size
def f0I(R:Ring)(q:Rat)(t:Nat):Int:=jV (aT R q) (q*R.room t)
theorem tj{R:Ring}{j:Nat}(h:j<R.asks.length)(q:Rat):(bZ R j).size.den∣cbR R q:=by
 refine Cp (List.mem_append_left _ (List.mem_map.mpr ⟨bZ R j,?_,rfl⟩))
 rw[c8 h]
 exact List.getElem_mem h
theorem Ew{R:Ring}{t:Nat}(h:t<R.n):R.room t∈R.rooms:=by
 unfold Ring.room
 have h':t<R.rooms.length:=h
 rw[List.getD_eq_getElem?_getD,List.getElem?_eq_getElem h']
 exact List.getElem_mem h'
theorem tq{R:Ring}{t:Nat}(h:t<R.n)(q:Rat):(q*R.room t).den∣cbR R q :=
 Cp (List.mem_append_right _ (List.mem_map.mpr ⟨R.room t,Ew h,rfl⟩))
theorem Cq{a b:Nat}(h:a∣b):a∣2*b:=Nat.dvd_trans h (Nat.dvd_mul_left _ _)
theorem zy{R:Ring}{q:Rat}{j:Nat}(h:j<R.asks.length):((wI R q j:Int):Rat)=(bZ R j).size*(aT R q:Rat):=lR (Cq (tj h q))
theorem Cr{R:Ring}{q:Rat}{t:Nat}(h:t<R.n):((f0I R q t:Int):Rat)=q*R.room t*(aT R q:Rat):=lR (Cq (tq h q))
theorem lS{R:Ring}(hR:R.Ok)(q:Rat):∀j,j<R.asks.length→0≤wI R q j:=fun j h=>xB (gE hR h).size
theorem lT:∀{qs:List Rat}{q:Rat},q∈qs→q.den∣denP qs
 | p::qs,q,h=>by
  show q.den∣p.den*denP qs
  rcases List.mem_cons.mp h with rfl|h
  ·
   exact Nat.dvd_mul_right _ _
  ·
   exact Nat.dvd_trans (lT h) (Nat.dvd_mul_left _ _)
theorem xC:∀{qs:List Rat},(∀q∈qs,RB 60 q)→denP qs≤2^(60*qs.length)
 |[],_=>Nat.le_refl 1
 | q::qs,h=>by
  have h1:=(h q List.mem_cons_self).2
  have h2:=xC fun p hp=>h p (List.mem_cons_of_mem _ hp)
  show q.den*denP qs≤2^(60*(qs.length+1))
  rw[Nat.mul_add,Nat.mul_one,Nat.pow_add,Nat.mul_comm (2^_)]
  exact Nat.mul_le_mul (Nat.le_of_lt h1) h2
theorem Cs(R:Ring)(q:Rat):0<cbR R q:=by
 have hd:cbR R q∣denP (j4 R++qL R q):=Eu fun p hp=>lT hp
 exact Nat.pos_of_dvd_of_pos hd (jF _)
theorem ej{R:Ring}(hR:R.Ok){q:Rat}(hq:RB 1750 q):0<aT R q∧aT R q<2^3750:=by
 obtain⟨D,d0,d1,hD⟩:=hR.cd
 have hd:cbR R q∣D*(q.den*denP R.rooms):=by
  refine Eu fun p hp=>?_
  rcases List.mem_append.mp hp with hp|hp
  ·
   obtain⟨a,ha,rfl⟩:=List.mem_map.mp hp
   exact Nat.dvd_trans (hD a ha) (Nat.dvd_mul_right _ _)
  ·
   obtain⟨r,hr,rfl⟩:=List.mem_map.mp hp
   refine Nat.dvd_trans (gF q r) (Nat.dvd_trans (Nat.mul_dvd_mul_left _ (lT hr)) (Nat.dvd_mul_left _ _))
 have h1:D≤2^1240:=Nat.le_of_lt d1
 have h2:denP R.rooms≤2^720:=by
  refine Nat.le_trans (xC fun p hp=>(hR.room p hp).2) (Nat.pow_le_pow_right (by decide) ?_)
  have:R.rooms.length≤12:=hR.hi
  omega
 have h3:q.den≤2^1750:=Nat.le_of_lt hq.2
 have h4:cbR R q≤D*(q.den*denP R.rooms):=Nat.le_of_dvd (Nat.mul_pos d0 (Nat.mul_pos (den_pos _) (jF _))) hd
 have h5:D*(q.den*denP R.rooms)≤2^1240*(2^1750*2^720):=Nat.mul_le_mul h1 (Nat.mul_le_mul h3 h2)
 have h6:2^1240*(2^1750*2^720)=2^3710:=by rw[← Nat.pow_add,← Nat.pow_add]
 rw[h6]at h5
 have h0:=Cs R q
 have h7:(2:Nat)^3711=2*2^3710:=by rw[Nat.pow_succ,Nat.mul_comm]
 have h8:(2:Nat)^3711<2^3750:=Nat.pow_lt_pow_right (by decide) (by decide)
 unfold aT
 refine⟨by omega,?_⟩
 generalize (2:Nat)^3750=z at *
 generalize (2:Nat)^3710=y at *
 generalize (2:Nat)^3711=x at *
 omega
theorem jH(R:Ring):R.asks=(List.range R.asks.length).map (bZ R):=by
 refine List.ext_getElem (by simp) fun j h1 h2=>?_
 rw[List.getElem_map,List.getElem_range,c8 h1]
theorem pG{α:Type}(p:α→Bool)(f:α→Rat):∀xs:List α,sumQ ((xs.filter p).map f)=sumQ (xs.map fun a=>if p a then f a else 0)
 |[]=>rfl
 | x::xs=>by
  rw[List.filter_cons,List.map_cons,a0,← pG p f xs]
  cases p x
  ·
   simp[Rat.zero_add]
  ·
   simp[a0]
theorem vA(R:Ring)(c:Nat×Nat):bh R.asks c=sumQ ((List.range R.asks.length).map fun j=>if apart c (bZ R j).one (bZ R j).other then(bZ R j).size else 0):=by
 unfold bh
 rw[pG]
 conv=>lhs;rw[jH R,List.map_map]
 rfl
theorem tD(F:Nat→Int)(G:Nat→Rat)(u:Rat):∀xs:List Nat,(∀j∈xs,((F j:Int):Rat)=G j*u)→(((xs.map F).sum:Int):Rat)=sumQ (xs.map G)*u
 | [],_=>by
  show((0:Int):Rat)=0*u
  rw[Rat.zero_mul];rfl
 | x::xs,h=>by
  rw[List.map_cons,List.sum_cons,Rat.intCast_add,h x List.mem_cons_self,tD F G u xs fun j hj=>h j (List.mem_cons_of_mem _ hj),List.map_cons,a0,Rat.add_mul]
theorem G7{R:Ring}(hR:R.Ok){q:Rat}{g h:Nat}(hc:bP R.n (g,h)):((dI R (wI R q) 0 g h:Int):Rat)=bh R.asks (g,h)*(aT R q:Rat):=by
 rw[vA]
 unfold dI
 rw[Nat.sub_zero]
 refine tD _ _ _ _ fun j hj=>?_
 have hj:=List.mem_range.mp hj
 rw[Nat.zero_add,pD (gE hR hj) hc]
 show(((if onA R j g != onA R j h then wI R q j else 0:Int)):Rat)=(if onA R j g != onA R j h then(bZ R j).size else 0)*_
 cases(onA R j g != onA R j h)
 ·
  simp only[Bool.false_eq_true,if_false]
  rw[Rat.zero_mul];rfl
 ·
  simp only[if_true]
  exact zy hj
theorem zz(F:Nat→Int):∀xs:List Nat,(∀j∈xs,F j % 2=0)→(xs.map F).sum % 2=0
 |[],_=>rfl
 | x::xs,h=>by
  have h1:=h x List.mem_cons_self
  have h2:=zz F xs fun j hj=>h j (List.mem_cons_of_mem _ hj)
  rw[List.map_cons,List.sum_cons]
  omega
theorem oI{R:Ring}(hR:R.Ok){q:Rat}(hq:RB 1750 q)(hs:∀c,bP R.n c→a7 R c≤q):sV R (wI R q) (f0I R q) 0:=by
 have u0:0<aT R q:=(ej hR hq).1
 have uQ:(0:Rat)<(aT R q:Rat):=Rat.natCast_pos.mpr u0
 have main:∀g h,g<R.n→h<R.n→g≤h→dI R (wI R q) 0 g h≤f0I R q g+f0I R q h:=by
  intro g h hg hh hgh
  have hc:bP R.n (g,h):=⟨hgh,hh⟩
  refine Rat.intCast_le_intCast.mp ?_
  rw[G7 hR hc,Rat.intCast_add,Cr hg,Cr hh]
  have h1:=hs (g,h) hc
  unfold a7 at h1
  rw[gD (eP hR hc).1]at h1
  have h2:=Rat.mul_le_mul_of_nonneg_right h1 (Rat.le_of_lt uQ)
  have e:q*eO R (g,h)*(aT R q:Rat)=q*R.room g*(aT R q:Rat)+q*R.room h*(aT R q:Rat):=by
   show q*(R.room g+R.room h)*_=_
   rw[Rat.mul_add,Rat.add_mul]
  rw[← e]
  exact h2
 have ev:∀g h,g<R.n→h<R.n→(f0I R q g+f0I R q h-dI R (wI R q) 0 g h) % 2=0:=by
  intro g h hg hh
  have e1:f0I R q g % 2=0:=pF (tq hg q)
  have e2:f0I R q h % 2=0:=pF (tq hh q)
  have e3:dI R (wI R q) 0 g h % 2=0:=by
   unfold dI
   refine zz _ _ fun j hj=>?_
   have hj:j<R.asks.length:=by have:=List.mem_range.mp hj;omega
   rw[Nat.zero_add]
   split
   ·
    exact pF (tj hj q)
   ·
    rfl
  omega
 intro g h hg hh
 refine⟨?_,ev g h hg hh⟩
 by_cases hgh:g≤h
 ·
  exact main g h hg hh hgh
 ·
  have:=main h g hh hg (by omega)
  rw[mU]at this
  omega
def pI(R:Ring)(q:Rat)(k:Nat):Int:=pAt R (wI R q) (f0I R q) k
def pH(R:Ring)(q:Rat)(k:Nat):Rat:=Rat.divInt (pI R q k) (aT R q:Int)
def bf(R:Ring)(q:Rat):List Rat:=(List.range R.asks.length).map (pH R q)
theorem dR{R:Ring}(hR:R.Ok){q:Rat}(hq:RB 1750 q)(k:Nat):pH R q k*(aT R q:Rat)=((pI R q k:Int):Rat):=by
 have u0:0<aT R q:=(ej hR hq).1
 have uQ:(0:Rat)<(aT R q:Rat):=Rat.natCast_pos.mpr u0
 unfold pH
 rw[Rat.divInt_eq_div,Rat.intCast_natCast]
 exact Rat.div_mul_cancel (by grind)
theorem xD{R:Ring}(hR:R.Ok){q:Rat}(hq:RB 1750 q)(hs:∀c,bP R.n c→a7 R c≤q){k:Nat}(hk:k<R.asks.length):0≤pH R q k∧pH R q k≤(bZ R k).size:=by
 have u0:0<aT R q:=(ej hR hq).1
 have uQ:(0:Rat)<(aT R q:Rat):=Rat.natCast_pos.mpr u0
 obtain⟨h1,h2⟩:=sX hR (lS hR q) (oI hR hq hs) hk
 constructor
 ·
  refine Rat.le_of_mul_le_mul_right (c:=(aT R q:Rat)) ?_ uQ
  rw[Rat.zero_mul,dR hR hq]
  exact Rat.intCast_nonneg.mpr h1
 ·
  refine Rat.le_of_mul_le_mul_right (c:=(aT R q:Rat)) ?_ uQ
  rw[dR hR hq,← zy hk]
  exact Rat.intCast_le_intCast.mpr h2
theorem pf{α β:Type}(f:Nat→α)(g:Nat→β)(m:Nat):((List.range m).map f).zip ((List.range m).map g)=(List.range m).map fun k=>(f k,g k):=by
 rw[List.zip_map']
theorem Ct{R:Ring}(hR:R.Ok){q:Rat}(hq:RB 1750 q)(hs:∀c,bP R.n c→a7 R c≤q){t:Nat}(ht:t<R.n):bM R.n R.asks (bf R q) t≤q*R.room t:=by
 have u0:0<aT R q:=(ej hR hq).1
 have uQ:(0:Rat)<(aT R q:Rat):=Rat.natCast_pos.mpr u0
 have he:=Je hR (lS hR q) (oI hR hq hs) ht
 rw[Co]at he
 refine Rat.le_of_mul_le_mul_right (c:=(aT R q:Rat)) ?_ uQ
 rw[← Cr ht]
 have e:bM R.n R.asks (bf R q) t=sumQ ((List.range R.asks.length).map fun k=>sent R.n (bZ R k) (pH R q k) t):=by
  unfold bM bf
  conv=>lhs;rw[jH R]
  rw[List.length_map,List.length_range,pf,List.map_map]
  rfl
 rw[e,← tD (fun j=>if onA R j t then pI R q j else wI R q j-pI R q j) _ _ _ fun j hj=>?_]
 ·
  refine Rat.intCast_le_intCast.mpr ?_
  have:((List.range R.asks.length).map fun j=>if onA R j t then pI R q j else wI R q j-pI R q j).sum≤f0I R q t:=by
   unfold pI
   omega
  exact this
 ·
  have hj:=List.mem_range.mp hj
  unfold sent
  show((if onA R j t then pI R q j else wI R q j-pI R q j:Int):Rat)=(if onA R j t then pH R q j else(bZ R j).size-pH R q j)*_
  cases onA R j t
  ·
   simp only[Bool.false_eq_true,if_false]
   rw[Rat.intCast_sub,zy hj,← dR hR hq]
   grind
  ·
   simp only[if_true]
   exact(dR hR hq j).symm
def intL(n:Nat)(f:Nat→Int):List D:=(List.range n).map fun (t:Nat)=>D.int (f t)
theorem tE{n:Nat}{f:Nat→Int}{t:Nat}(h:t<n):atI (intL n f) (t:Int)=some (.int (f t)):=by
 refine gp ?_
 unfold intL
 rw[List.getElem?_map,List.getElem?_range h]
 rfl
theorem G8{a b:Nat}(h:0<b):((a:Int).fdiv (Int.gcd a b:Int))*(b:Int)=((Nat.lcm a b:Nat):Int):=by
 rw[Int.fdiv_eq_ediv_of_nonneg _ (by omega)]
 show((a:Int) / ((Nat.gcd a b:Nat):Int))*(b:Int)=_
 rw[← Int.natCast_ediv,← Int.natCast_mul,Nat.div_mul_right_comm (Nat.gcd_dvd_left a b)]
 rfl
theorem Jf(R:Ring)(q:Rat):(j4 R).map (fun p=>D.int (jV (aT R q) p))=intL R.asks.length (wI R q):=by
 unfold j4 intL
 conv=>lhs;rw[jH R,List.map_map,List.map_map]
 rfl
theorem xE(R:Ring):R.rooms=(List.range R.n).map R.room:=by
 refine List.ext_getElem (by simp[Ring.n]) fun j h1 h2=>?_
 rw[List.getElem_map,List.getElem_range]
 unfold Ring.room
 rw[List.getD_eq_getElem?_getD,List.getElem?_eq_getElem h1]
 rfl
theorem Jg(R:Ring)(q:Rat):(qL R q).map (fun p=>D.int (jV (aT R q) p))=intL R.n (f0I R q):=by
 unfold qL intL
 conv=>lhs;rw[xE R,List.map_map,List.map_map]
 rfl
theorem gG(p:Nat→Bool)(g:Nat→Int):∀xs:List Nat,xs.filterMap (fun i=>if p i=true then some (D.int (g i))else none)=((xs.filter p).map g).map D.int
 |[]=>rfl
 | x::xs=>by
  rw[List.filterMap_cons,List.filter_cons]
  cases e:p x
  ·
   simp[gG p g xs]
  ·
   simp[gG p g xs]
theorem pJ(p:Nat→Bool)(g:Nat→Int):∀xs:List Nat,((xs.filter p).map g).sum=(xs.map fun i=>if p i=true then g i else 0).sum
 |[]=>rfl
 | x::xs=>by
  rw[List.filter_cons,List.map_cons,List.sum_cons,← pJ p g xs]
  cases e:p x
  ·
   simp
  ·
   simp
theorem ek(R:Ring)(q:Rat):(bf R q).length=R.asks.length:=by unfold bf;simp
def maxQ(f:Nat→Rat)(ts:List Nat):Rat:=ts.foldl (fun b t=>if b<f t then f t else b) 0
theorem Ex(f:Nat→Rat)(ts:List Nat)(t:Nat):maxQ f (ts++[t])=if maxQ f ts<f t then f t else maxQ f ts:=by unfold maxQ;rw[List.foldl_append];rfl
theorem iH(f:Nat→Rat):∀(ts:List Nat)(acc r:Rat),ts.foldl (fun b t=>if b<f t then f t else b) acc=r→acc≤r∧(∀t∈ts,f t≤r)∧(r=acc∨∃t∈ts,r=f t)
 | [],acc,r,e=>by
  rw[List.foldl_nil]at e
  subst e
  exact⟨Rat.le_refl,fun t ht=>by simp at ht,.inl rfl⟩
 | t::ts,acc,r,e=>by
  rw[List.foldl_cons]at e
  obtain⟨h1,h2,h3⟩:=iH f ts _ r e
  by_cases hl:acc<f t
  ·
   rw[if_pos hl]at h1 h3
   refine⟨by grind,fun s hs=>?_,?_⟩
   ·
    rcases List.mem_cons.mp hs with rfl|hs
    ·
     exact h1
    ·
     exact h2 s hs
   ·
    rcases h3 with h3|⟨s,hs,h3⟩
    ·
     exact .inr ⟨t,List.mem_cons_self,h3⟩
    ·
     exact .inr ⟨s,List.mem_cons_of_mem _ hs,h3⟩
  ·
   rw[if_neg hl]at h1 h3
   refine⟨h1,fun s hs=>?_,?_⟩
   ·
    rcases List.mem_cons.mp hs with rfl|hs
    ·
     grind
    ·
     exact h2 s hs
   ·
    rcases h3 with h3|⟨s,hs,h3⟩
    ·
     exact .inl h3
    ·
     exact .inr ⟨s,List.mem_cons_of_mem _ hs,h3⟩
def topQ(R:Ring)(ps:List Rat):Rat:=maxQ (aF R ps) (List.range R.n)
theorem Jh{R:Ring}(hR:R.Ok){q:Rat}(hq:RB 1750 q)(hs:∀c,bP R.n c→a7 R c≤q)(h0:0≤q):topQ R (bf R q)≤q:=by
 obtain⟨_,_,h3⟩:=iH (aF R (bf R q)) (List.range R.n) 0 _ rfl
 show maxQ _ _≤q
 unfold maxQ
 rcases h3 with h3|⟨t,ht,h3⟩
 ·
  rw[h3];exact h0
 ·
  rw[h3]
  have ht:=List.mem_range.mp ht
  unfold aF
  exact(gD (cH hR ht).1).mpr (Ct hR hq hs ht)
theorem Ji{R:Ring}(hR:R.Ok){b:Nat}(hp:kC R (bf R (gcut R).1) b):topQ R (bf R (gcut R).1)=(gcut R).1:=by
 obtain⟨g1,g2,g3,g4⟩:=fH hR
 have hlo:=hR.lo
 have h1:=Jh hR ((kD hR).mono (by decide)) g3 g4
 obtain⟨_,h2,_⟩:=iH (aF R (bf R (gcut R).1)) (List.range R.n) 0 _ rfl
 have h3:=xw hR hp g1
 have h4:=h2 _ (List.mem_range.mpr (sT (n:=R.n) (by omega) (aF R (bf R (gcut R).1))).1)
 rw[← g2]at h3
 have h5:(gcut R).1≤topQ R (bf R (gcut R).1):=Rat.le_trans h3 h4
 exact Rat.le_antisymm h1 h5
end My
set_option exponentiation.threshold 2000
namespace L2
open PySem
theorem FD{a n:Nat}(h:a<2^n)(hn:n≤1900):a<2^1900:=Nat.lt_of_lt_of_le h (Nat.pow_le_pow_right (by decide) hn)
theorem zA{q:Rat}{n:Nat}(h:RB n q)(hn:n≤1900):bj (frD q)=true:=by
 have h1:=FD h.1 hn
 have h2:=FD h.2 hn
 simp only[frD,bj,bY,Bool.and_true,Bool.and_eq_true,decide_eq_true_eq]
 exact⟨h1,by simpa using h2⟩
theorem okD_mono:∀{m n:Nat}(d:D),m≤n→okD m d=true→okD n d=true:=by
 intro m n d hmn h
 have:∀(m:Nat),(∀(n:Nat)(d:D),m≤n→okD m d=true→okD n d=true)∧∀(n:Nat)(ds:List D),m≤n→okDs m ds=true→okDs n ds=true:=by
  intro m
  induction m with
  | zero =>
   have h0:∀(n:Nat)(d:D),0≤n→okD 0 d=true→okD n d=true:=fun n d _ h=>by
    cases d<;>cases n<;>simp_all [okD]
   refine⟨h0,fun n ds hn h=>?_⟩
   induction ds with
   |nil=>simp[okDs]
   |cons x xs ih=>simp only[okDs,Bool.and_eq_true]at h ⊢;exact⟨h0 n x hn h.1,ih h.2⟩
  | succ m ih =>
   have h0:∀(n:Nat)(d:D),m+1≤n→okD (m+1) d=true→okD n d=true:=fun n d hn h=>by
    obtain⟨k,rfl⟩:∃k,n=k+1:=⟨n-1,by omega⟩
    cases d<;>simp_all [okD]
    all_goals exact ih.2 k _ (by omega) h
   refine⟨h0,fun n ds hn h=>?_⟩
   induction ds with
   |nil=>simp[okDs]
   |cons x xs ihx=>simp only[okDs,Bool.and_eq_true]at h ⊢;exact⟨h0 n x hn h.1,ihx h.2⟩
 exact(this m).1 n d hmn h
end L2
set_option exponentiation.threshold 5000
namespace My
open PySem L2
structure LB (R:Ring) (ps:List Rat):Prop where
 p:∀p∈ps,RB 4100 p
 ld:∀k t,RB 4100 (bM R.n (R.asks.take k) (ps.take k) t)
 st:∀(k:Nat)(h1:k<R.asks.length)(h2:k<ps.length)(t:Nat),RB 4100 (sent R.n R.asks[k] ps[k] t)
 sm:∀t,Jb ((R.asks.zip ps).map fun x=>sent R.n x.1 x.2 t)
theorem LB.all{R:Ring}{ps:List Rat}(h:LB R ps)(hl:ps.length=R.asks.length)(t:Nat):RB 4100 (bM R.n R.asks ps t):=by
 have:=h.ld R.asks.length t
 rwa [List.take_of_length_le (Nat.le_refl _),List.take_of_length_le (by omega)]at this
theorem LB.of{R:Ring}(hR:R.Ok)(hT:∀a∈R.asks,RB 60 a.size){ps:List Rat}{c:Nat}(hb:∀p∈ps,RB c p)(hc:c≤100):LB R ps:=by
 refine⟨fun p hp=>(hb p hp).mono (by omega),fun k t=>?_,fun k h1 h2 t=>?_,fun t=>.inl ?_⟩
 ·
  exact(Em (zp hT) (zp hb) (by rw[List.length_take];have:=hR.few;omega) t).mono (by omega)
 ·
  exact(xt (hT _ (List.getElem_mem h1)) (hb _ (List.getElem_mem h2)) t).mono (by omega)
 ·
  refine Nat.lt_of_le_of_lt (Cb (b:=161) _ fun q hq=>?_) (Nat.pow_lt_pow_right (by decide) ?_)
  ·
   obtain⟨x,hx,rfl⟩:=List.mem_map.mp hq
   obtain⟨h1,h2⟩:=List.of_mem_zip (a:=x.1) (b:=x.2) hx
   exact(xt (hT _ h1) (hb _ h2) t).mono (by omega)
  ·
   rw[List.length_map,List.length_zip]
   have:=hR.few
   omega
theorem tF{q:Rat}{N:Nat}{z:Int}(h0:0<N)(hN:N<2^3750)(e:q*(N:Rat)=(z:Rat))(hz:z.natAbs<2^4090):RB 4100 q:=by
 have hQ:(N:Rat)≠0:=fun w=>by
  have:=Rat.natCast_pos.mpr h0
  rw[w]at this
  exact absurd this (by decide)
 have e2:q=Rat.divInt z (N:Int):=by
  rw[Rat.divInt_eq_div]
  have:((N:Int):Rat)=(N:Rat):=rfl
  rw[this,← e,Rat.mul_div_cancel hQ]
 rw[e2]
 refine RB.of_divInt (by omega) (Nat.lt_of_lt_of_le hz (Nat.pow_le_pow_right (by decide) (by decide))) ?_
 rw[Int.natAbs_natCast]
 exact Nat.lt_of_lt_of_le hN (Nat.pow_le_pow_right (by decide) (by decide))
theorem G9{R:Ring}(hR:R.Ok){q:Rat}(hq:RB 1750 q){j:Nat}(h:j<R.asks.length):(wI R q j).natAbs<2^4050:=by
 have h1:=(ej hR hq).2
 have h2:=vk (V:=2^300) (gE hR h).size (gE hR h).lt
 unfold wI jV
 rw[Int.natAbs_mul,Int.natAbs_natCast]
 have h3:(bZ R j).size.den*(aT R q / (bZ R j).size.den)≤aT R q:=Nat.mul_div_le _ _
 have e:(2:Nat)^4050=2^300*2^3750:=by rw[← Nat.pow_add]
 have h4:(bZ R j).size.num.natAbs*(aT R q / (bZ R j).size.den)≤2^300*aT R q:=by
  refine Nat.le_trans (Nat.mul_le_mul_right _ (Nat.le_of_lt h2)) ?_
  rw[Nat.mul_assoc]
  exact Nat.mul_le_mul_left _ h3
 rw[e]
 exact Nat.lt_of_le_of_lt h4 (Nat.mul_lt_mul_of_pos_left h1 (Nat.pow_pos (by decide)))
theorem tG{R:Ring}{q:Rat}{k:Nat}(h:k<(bf R q).length):(bf R q)[k]=pH R q k:=by simp[bf]
def zI(R:Ring)(q:Rat)(t j:Nat):Int:=if isOn R.n (bZ R j) t then pI R q j else wI R q j-pI R q j
theorem Cu{R:Ring}(hR:R.Ok){q:Rat}(hq:RB 1750 q)(t:Nat){j:Nat}(h:j<R.asks.length):((zI R q t j:Int):Rat)=sent R.n (bZ R j) (pH R q j) t*(aT R q:Rat):=by
 unfold zI sent
 split
 ·
  exact(dR hR hq j).symm
 ·
  have e1:=dR hR hq j
  have e2:=zy (R:=R) (q:=q) h
  rw[Rat.intCast_sub,e2,← e1]
  grind
theorem z_abs{R:Ring}(hR:R.Ok){q:Rat}(hq:RB 1750 q)(hs:∀c,bP R.n c→a7 R c≤q)(t:Nat){j:Nat}(h:j<R.asks.length):0≤zI R q t j∧zI R q t j<2^4050:=by
 have hw:=G9 hR hq h
 have w0:=lS hR q j h
 obtain⟨p0,p1⟩:=sX hR (lS hR q) (oI hR hq hs) h
 have e:((2^4050:Nat):Int)=2^4050:=by norm_cast
 have hw':wI R q j<2^4050:=by rw[← e];omega
 have p0':0≤pI R q j:=p0
 have p1':pI R q j≤wI R q j:=p1
 generalize (2:Int)^4050=B at hw'
 unfold zI
 split<;>omega
theorem z_sum{R:Ring}(hR:R.Ok){q:Rat}(hq:RB 1750 q)(hs:∀c,bP R.n c→a7 R c≤q)(t:Nat):∀k,k≤R.asks.length→∃z:Int,bM R.n (R.asks.take k) ((bf R q).take k) t*(aT R q:Rat)=(z:Rat)∧0≤z∧z≤(k:Int)*2^4050
 | 0,_=>⟨0,by
   show sumQ []*_=_
   rw[lQ,Rat.zero_mul]
   rfl,by omega,by simp⟩
 | k+1,h=>by
  obtain⟨z,e,z0,z1⟩:=z_sum hR hq hs t k (by omega)
  have hk:k<R.asks.length:=by omega
  have hk2:k<(bf R q).length:=by rw[ek];exact hk
  obtain⟨y0,y1⟩:=z_abs hR hq hs t hk
  refine⟨z+zI R q t k,?_,by omega,?_⟩
  ·
   rw[rG hk hk2,Rat.add_mul,e,Rat.intCast_add,Cu hR hq t hk,tG,c8 hk]
  ·
   generalize (2:Int)^4050=B at *
   have:((k+1:Nat):Int)*B=(k:Int)*B+B:=by push_cast;rw[Int.add_mul,Int.one_mul]
   rw[this]
   omega
theorem LB.send{R:Ring}(hR:R.Ok){q:Rat}(hq:RB 1750 q)(hs:∀c,bP R.n c→a7 R c≤q):LB R (bf R q):=by
 obtain⟨u0,u1⟩:=ej hR hq
 have few:=hR.few
 have big:∀z:Int,0≤z→z≤20*2^4050→z.natAbs<2^4090:=fun z z0 z1=>by
  have e1:(2:Nat)^4090=2^40*2^4050:=by rw[← Nat.pow_add]
  have e2:((2^4050:Nat):Int)=2^4050:=by norm_cast
  have hp:0<2^4050:=Nat.pow_pos (by decide)
  rw[← e2]at z1
  rw[e1]
  generalize 2^4050=B at *
  have:(2:Nat)^40=1099511627776:=by decide
  rw[this]
  omega
 refine⟨fun p hp=>?_,fun k t=>?_,fun k h1 h2 t=>?_,fun t=>.inr ⟨aT R q,u0,Nat.lt_of_lt_of_le u1 (Nat.pow_le_pow_right (by decide) (by decide)),fun p hp=>?_⟩⟩
 ·
  obtain⟨j,hj,rfl⟩:=List.mem_map.mp hp
  have hj:=List.mem_range.mp hj
  obtain⟨p0,p1⟩:=sX hR (lS hR q) (oI hR hq hs) hj
  have hw:=G9 hR hq hj
  refine tF u0 u1 (dR hR hq j) ?_
  have p0':0≤pI R q j:=p0
  have p1':pI R q j≤wI R q j:=p1
  have:(pI R q j).natAbs≤(wI R q j).natAbs:=by omega
  exact Nat.lt_of_le_of_lt this (Nat.lt_of_lt_of_le hw (Nat.pow_le_pow_right (by decide) (by decide)))
 ·
  by_cases hk:k≤R.asks.length
  ·
   obtain⟨z,e,z0,z1⟩:=z_sum hR hq hs t k hk
   refine tF u0 u1 e (big z z0 ?_)
   have:(0:Int)≤2^4050:=by
    have e2:((2^4050:Nat):Int)=2^4050:=by norm_cast
    rw[← e2];omega
   generalize (2:Int)^4050=B at *
   have h2:(k:Int)*B≤20*B:=Int.mul_le_mul_of_nonneg_right (by omega) this
   omega
  ·
   obtain⟨z,e,z0,z1⟩:=z_sum hR hq hs t R.asks.length (Nat.le_refl _)
   rw[List.take_of_length_le (by omega),List.take_of_length_le (by rw[ek];omega)]
   rw[List.take_of_length_le (Nat.le_refl _),List.take_of_length_le (by rw[ek];omega)]at e
   refine tF u0 u1 e (big z z0 ?_)
   have:(0:Int)≤2^4050:=by
    have e2:((2^4050:Nat):Int)=2^4050:=by norm_cast
    rw[← e2];omega
   generalize (2:Int)^4050=B at *
   have h2:(R.asks.length:Int)*B≤20*B:=Int.mul_le_mul_of_nonneg_right (by omega) this
   omega
 ·
  obtain⟨y0,y1⟩:=z_abs hR hq hs t h1
  have e:=(Cu hR hq t h1).symm
  rw[tG,← c8 h1]
  refine tF u0 u1 e (big _ y0 ?_)
  have:(0:Int)≤2^4050:=by
   have e2:((2^4050:Nat):Int)=2^4050:=by norm_cast
   rw[← e2];omega
  generalize (2:Int)^4050=B at *
  omega
 ·
  obtain⟨x,hx,rfl⟩:=List.mem_map.mp hp
  obtain⟨j,hj,e⟩:=List.mem_iff_getElem.mp hx
  have hj':j<R.asks.length:=by rw[List.length_zip]at hj;omega
  have hj2:j<(bf R q).length:=by rw[ek];exact hj'
  rw[List.getElem_zip]at e
  rw[← e]
  show(sent R.n R.asks[j] (bf R q)[j] t).den∣_
  rw[tG,← c8 hj']
  exact mS u0 (Cu hR hq t hj').symm
theorem Ah{R:Ring}(hR:R.Ok){q:Rat}(hq:RB 1750 q)(hs:∀c,bP R.n c→a7 R c≤q):kC R (bf R q) 4100:=by
 refine⟨ek R q,fun x hx=>?_,(LB.send hR hq hs).p⟩
 unfold bf at hx
 rw[jH R]at hx
 rw[List.length_map,List.length_range,pf]at hx
 obtain⟨k,hk,rfl⟩:=List.mem_map.mp hx
 exact xD hR hq hs (List.mem_range.mp hk)
theorem Ha{R:Ring}(hR:R.Ok){q:Rat}(hq:RB 1750 q)(hs:∀c,bP R.n c→a7 R c≤q):∀k,k<(bf R q).length→0≤(bf R q).getD k 0∧(bf R q).getD k 0≤R.sz k:=fun k hk=>by
 have hk':k<R.asks.length:=by rw[ek]at hk;exact hk
 rw[iF hk,tG,xx hk',← c8 hk']
 exact xD hR hq hs hk'
def ratB:D→Bool
 |.tup [.int i,.int j]=>decide (1≤j) && decide ((Int.gcd i j:Int)=1)
 |_=>false
theorem xF{d:D}(h:∀i j,d≠.tup [.int i,.int j]):ratB d=false:=by
 unfold ratB
 split
 ·
  rename_i i j
  exact absurd rfl (h i j)
 ·
  rfl
theorem Hb{i j:Int}(hj:0<j):((Rat.divInt i j).num=i∧((Rat.divInt i j).den:Int)=j)↔(Int.gcd i j:Int)=1:=by
 have hn:=Rat.num_divInt i j
 have hd:=Rat.den_divInt i j
 constructor
 ·
  rintro⟨h1,h2⟩
  have hc:=(Rat.divInt i j).reduced
  unfold Nat.Coprime at hc
  rw[h1]at hc
  have:(Rat.divInt i j).den=j.natAbs:=by omega
  rw[this]at hc
  show((Nat.gcd i.natAbs j.natAbs:Nat):Int)=1
  rw[hc];rfl
 ·
  intro h
  have h1:Int.gcd i j=1:=by omega
  have e:Rat.divInt i j=(⟨i,j.natAbs,by omega,by unfold Nat.Coprime;exact h1⟩:Rat):=by
   rw[Rat.mk_eq_divInt]
   congr 1
   omega
  rw[e]
  exact⟨rfl,by show((j.natAbs:Nat):Int)=j;omega⟩
theorem Hc(ys:List D):eqD (.lst ys) (.lst [])=ys.isEmpty:=by
 rw[By]
 cases ys<;>rfl
def addA(R:Ring)(a:Ask):Ring:=⟨R.rooms,R.asks++[a]⟩
def T60:Rat:=((2^60:Nat):Rat)
theorem tH:1000000≤T60:=by
 unfold T60
 have:(1000000:Nat)≤2^60:=by decide
 exact_mod_cast this
theorem T300:((2^300:Nat):Rat)=T60*T60*T60*T60*T60:=by
 unfold T60
 rw[← Rat.natCast_mul,← Rat.natCast_mul,← Rat.natCast_mul,← Rat.natCast_mul,← Nat.pow_add,← Nat.pow_add,← Nat.pow_add,← Nat.pow_add]
theorem den1(q:Rat):(1:Rat)≤(q.den:Rat):=by
 have:=q.den_pos
 exact_mod_cast this
theorem Jj{q:Rat}(h:RB 60 q):q<T60:=by
 have h1:=vj q
 have hd:=den1 q
 have h2:(q.num:Rat)<T60:=by
  have h3:q.num<((2^60:Nat):Int):=by
   have:=h.1
   omega
  exact Rat.intCast_lt_intCast.mpr h3
 have hV:(0:Rat)<T60:=by have:=tH;grind
 generalize T60=V at *
 refine Rat.not_le.mp fun hq=>?_
 have h4:V*1≤q*(q.den:Rat):=Rat.le_trans (Rat.mul_le_mul_of_nonneg_left hd (Rat.le_of_lt hV)) (Rat.mul_le_mul_of_nonneg_right hq (by grind))
 rw[← h1]at h4
 grind
theorem J1{q:Rat}(h:RB 60 q)(h0:0<q):1≤q*T60:=by
 have h1:=vj q
 have h2:(1:Rat)≤(q.num:Rat):=by
  have h3:0<q.num:=by
   rcases Int.lt_trichotomy 0 q.num with h|h|h
   ·
    exact h
   ·
    exact absurd (Rat.num_eq_zero.mp h.symm) (by grind)
   ·
    have:=Rat.num_nonneg.mpr (Rat.le_of_lt h0);omega
  have:((1:Int):Rat)≤(q.num:Rat):=Rat.intCast_le_intCast.mpr h3
  exact this
 have h4:(q.den:Rat)≤T60:=by
  have:=Nat.le_of_lt h.2
  unfold T60
  exact_mod_cast this
 have h5:=Rat.mul_le_mul_of_nonneg_left h4 (Rat.le_of_lt h0)
 rw[← h1]at h5
 exact Rat.le_trans h2 h5
theorem Cv{R:Ring}(hR:R.Ok){c:Nat×Nat}(h:bP R.n c):eO R c≤2*T60∧1≤eO R c*T60:=by
 have a:=cH hR (t:=c.1) (by have:=h.1;have:=h.2;omega)
 have b:=cH hR (t:=c.2) h.2
 have a1:=Jj a.2
 have b1:=Jj b.2
 have a2:=J1 a.2 a.1
 unfold eO
 refine⟨by grind,?_⟩
 rw[Rat.add_mul]
 have hV:(0:Rat)<T60:=by have:=tH;grind
 have:0≤R.room c.2*T60:=Rat.mul_nonneg (Rat.le_of_lt b.1) (Rat.le_of_lt hV)
 grind
theorem Ey{R:Ring}(hR:R.Ok){q:Rat}(hq:q≤20*T60*T60+T60){c:Nat×Nat}(h:bP R.n c):vz R q c+T60<((2^300:Nat):Rat):=by
 obtain⟨h1,_⟩:=Cv hR h
 have hp:=(eP hR h).1
 have h0:=sS hR c
 have hV:=tH
 rw[T300]
 unfold vz
 have h2:q*eO R c≤(20*T60*T60+T60)*(2*T60):=by
  refine Rat.le_trans (Rat.mul_le_mul_of_nonneg_right hq (Rat.le_of_lt hp)) (Rat.mul_le_mul_of_nonneg_left h1 ?_)
  have:0≤T60*T60:=Rat.mul_nonneg (by grind) (by grind)
  grind
 generalize T60=V at *
 have e1:V*1≤V*V:=Rat.mul_le_mul_of_nonneg_left (by grind) (by grind)
 have e2:V*V*1≤V*V*V:=Rat.mul_le_mul_of_nonneg_left (by grind) (Rat.mul_nonneg (by grind) (by grind))
 have e3:V*V*V*1000000≤V*V*V*V:=Rat.mul_le_mul_of_nonneg_left (by grind) (Rat.mul_nonneg (Rat.mul_nonneg (by grind) (by grind)) (by grind))
 have e4:V*V*V*V*1≤V*V*V*V*V:=Rat.mul_le_mul_of_nonneg_left (by grind) (Rat.mul_nonneg (Rat.mul_nonneg (Rat.mul_nonneg (by grind) (by grind)) (by grind)) (by grind))
 grind
theorem Cw(R:Ring){c:Nat×Nat}(h:bP R.n c):(eO R c).den∣denP R.rooms:=by
 have hm:∀t,t<R.n→(R.room t).den∣denP R.rooms:=fun t ht=>by
  have ht:t<R.rooms.length:=ht
  unfold Ring.room
  rw[List.getD_eq_getElem?_getD,List.getElem?_eq_getElem ht]
  exact lT (List.getElem_mem ht)
 have h1:=h.1
 have h2:=h.2
 exact sR (jF _) (hm _ (by omega)) (hm _ h2)
theorem Ez{R:Ring}{q:Rat}{D:Nat}(d0:0<D)(hd:∀b∈R.asks,b.size.den∣D)(hq:q.den*denP R.rooms∣D){c:Nat×Nat}(h:bP R.n c):(vz R q c).den∣D:=by
 have h1:(bh R.asks c).den∣D:=pB d0 _ fun q hq=>by
  obtain⟨a,ha,rfl⟩:=List.mem_map.mp hq
  exact hd a (List.mem_filter.mp ha).1
 unfold vz
 rw[Rat.sub_eq_add_neg]
 refine sR d0 (Nat.dvd_trans (gF _ _) (Nat.dvd_trans (Nat.mul_dvd_mul_left _ (Cw R h)) hq)) ?_
 rw[Rat.neg_den]
 exact h1
structure Fill (R0:Ring) (q:Rat) (D i:Nat) (S:Ring):Prop where
 rms:S.rooms=R0.rooms
 len:S.asks.length≤4+i
 ask:∀a∈S.asks,jU S.n a
 den:∀a∈S.asks,a.size.den∣D
 low:∀c,bP S.n c→a7 S c≤q
 hit:1≤i→∃c,bP S.n c∧a7 S c=q
theorem Fill.ok{R0 S:Ring}{q:Rat}{D i:Nat}(h:Fill R0 q D i S)(h0:R0.Ok)(d0:0<D)(d1:D<2^1240)(hi:i≤8):S.Ok:=by
 have e:S.n=R0.n:=by show S.rooms.length=R0.rooms.length;rw[h.rms]
 refine⟨by rw[e];exact h0.lo,by rw[e];exact h0.hi,by have:=h.len;omega,by rw[h.rms];exact h0.room,h.ask,D,d0,d1,h.den⟩
theorem Fill.add{R0 S:Ring}{q:Rat}{D i:Nat}(h:Fill R0 q D i S)(h0:R0.Ok)(d0:0<D)(d1:D<2^1240)(hi:i≤8)(hq:q.den*denP R0.rooms∣D)(hv:q≤20*T60*T60+T60){o p:Nat}(ho:o<S.n)(hp:p<S.n)(hop:o≠p){nm:Str}(hn:PyData.strOk nm=true){c:Nat×Nat}(hc:bP S.n c)(f0:0≤vz S q c) :
  (∀a∈(addA S ⟨nm,o,p,vz S q c⟩).asks,jU S.n a)∧(∀a∈(addA S ⟨nm,o,p,vz S q c⟩).asks,a.size.den∣D):=by
 have ok:=h.ok h0 d0 d1 hi
 have vf:=Ey ok hv hc
 have hV:=tH
 refine⟨fun a ha=>?_,fun a ha=>?_⟩
 ·
  rcases List.mem_append.mp ha with ha|ha
  ·
   exact h.ask a ha
  ·
   rw[List.mem_singleton.mp ha]
   refine⟨ho,hp,hop,f0,?_,hn⟩
   show vz S q c<_
   grind
 ·
  rcases List.mem_append.mp ha with ha|ha
  ·
   exact h.den a ha
  ·
   rw[List.mem_singleton.mp ha]
   exact Ez d0 h.den (by rw[h.rms];exact hq) hc
theorem EC{R:Ring}(hR:R.Ok){b:Nat}(hp:kC R (bf R (gcut R).1) b):aF R (bf R (gcut R).1) (topI R.n (aF R (bf R (gcut R).1)))=(gcut R).1:=by
 obtain⟨g1,g2,g3,g4⟩:=fH hR
 have lo:=hR.lo
 obtain⟨_,h2,_⟩:=iH (aF R (bf R (gcut R).1)) (List.range R.n) 0 _ rfl
 have h3:=xw hR hp g1
 have h4:=h2 _ (List.mem_range.mpr (sT (n:=R.n) (by omega) (aF R (bf R (gcut R).1))).1)
 rw[← g2]at h3
 have h5:=Ji hR hp
 have h4:aF R (bf R (gcut R).1) (topI R.n (aF R (bf R (gcut R).1)))≤topQ R (bf R (gcut R).1):=h4
 rw[h5]at h4
 exact Rat.le_antisymm h4 h3
theorem Ai{R:Ring}(hR:R.Ok){q:Rat}(hq:RB 1750 q)(hs:∀c,bP R.n c→a7 R c≤q):c7 (bF R (bf R q)) (bf R q).length=none:=by
 refine gf.mpr fun k hk=>?_
 obtain⟨h1,h2⟩:=Ha hR hq hs k hk
 unfold bF
 rw[decide_eq_false (Rat.not_lt.mpr h1),decide_eq_false (Rat.not_lt.mpr h2)]
 rfl
mutual
def widD:D→Nat
 |.tup xs=>max xs.length (xG xs)
 |.lst xs=>max xs.length (xG xs)
 |_=>0
def xG:List D→Nat
 |[]=>0
 |x::xs=>max (widD x) (xG xs)
end
theorem zB{n:Nat}:∀{xs:List D},(∀x∈xs,widD x≤n)→xG xs≤n
 |[],_=>Nat.zero_le _
 | y::ys,h=>by
  simp only[xG]
  have:=h y List.mem_cons_self
  have:=zB (xs:=ys) fun x hx=>h x (List.mem_cons_of_mem _ hx)
  omega
theorem He(q:Rat):widD (frD q)=2:=by simp[frD,widD,xG]
theorem ED(a:Ask):widD (askD a)=4:=by
 have:=He a.size
 simp[askD,widD,xG,this]
theorem Cy{as:List Ask}{n:Nat}(h:as.length≤n)(h2:4≤n):widD (.lst (as.map askD))≤n:=by
 simp only[widD,List.length_map]
 have:=zB (n:=4) (xs:=as.map askD) fun x hx=>by
  obtain⟨q,_,rfl⟩:=List.mem_map.mp hx
  rw[ED]
  exact Nat.le_refl _
 omega
structure SmD (n:Nat) (d:D):Prop where
 dep:depD d<n
 wid:widD d≤99
theorem SmD.mono{n m:Nat}{d:D}(h:SmD n d)(hm:n≤m):SmD m d:=⟨Nat.lt_of_lt_of_le h.dep hm,h.wid⟩
theorem Hf(q:Rat):depD (frD q)=1:=by simp[frD,depD,w9]
theorem EE(a:Ask):depD (askD a)=2:=by
 have:=Hf a.size
 simp[askD,depD,w9,this]
theorem EF{xs:List D}{n:Nat}(h:∀x∈xs,depD x≤n):depD (.lst xs)≤n+1:=by
 simp only[depD]
 have:=yZ h
 omega
theorem Cz(as:List Ask):depD (.lst (as.map askD))≤3:=EF fun x hx=>by
 obtain⟨q,_,rfl⟩:=List.mem_map.mp hx
 rw[EE]
 exact Nat.le_refl _
theorem SmD.asks{as:List Ask}(h:as.length≤99):SmD 4 (.lst (as.map askD)):=⟨by have:=Cz as;omega,Cy h (by decide)⟩
mutual
theorem okD_mono:∀(n:Nat)(d:D),okD n d=true→okD (n+1) d=true
 |_,.non,_=>by simp[okD]
 |_,.bl _,_=>by simp[okD]
 |_,.int _,_=>by simp[okD]
 |_,.str x,h=>by simpa[okD]using h
 |0,.tup _,h=>by simp[okD]at h
 |0,.lst _,h=>by simp[okD]at h
 | n+1,.tup xs,h=>by
  simp only[okD]at h ⊢
  exact pK n xs h
 | n+1,.lst xs,h=>by
  simp only[okD]at h ⊢
  exact pK n xs h
 |_,.dct _,h=>by simp[okD]at h
 |_,.exc _ _ _,h=>by simp[okD]at h
 |_,.fn _ _,h=>by simp[okD]at h
theorem pK:∀(n:Nat)(ds:List D),okDs n ds=true→okDs (n+1) ds=true
 |_,[],_=>rfl
 | n,d::ds,h=>by
  simp only[okDs,Bool.and_eq_true]at h ⊢
  exact⟨okD_mono n d h.1,pK n ds h.2⟩
end
end My
set_option exponentiation.threshold 5000
namespace My
open PySem L2
def Tw(R:Ring)(ps:List Rat):Prop:=∀k,k<R.asks.length→∃v:Int,0≤v∧v≤12∧ps.getD k 0=R.sz k*Rat.divInt v 12
end My
set_option exponentiation.threshold 5000
namespace My
open PySem L2
def cutB(n:Nat):D→Bool
 |.tup [.int i,.int j]=>decide (0≤i∧i≤j∧j<(n:Int))
 |_=>false
theorem Hg{n:Nat}{d:D}(h:∀i j,d≠.tup [.int i,.int j]):cutB n d=false:=by
 unfold cutB
 split
 ·
  exact absurd rfl (h _ _)
 ·
  rfl
theorem xH{n:Nat}{d:D}(h:cutB n d=true):∃c:Nat×Nat,d=cutP c∧bP n c:=by
 unfold cutB at h
 split at h
 ·
  rename_i i j
  have h:=of_decide_eq_true h
  refine⟨(i.toNat,j.toNat),?_,?_,?_⟩
  ·
   unfold cutP
   simp only
   rw[Int.toNat_of_nonneg h.1,Int.toNat_of_nonneg (by omega)]
  ·
   show i.toNat≤j.toNat
   omega
  ·
   show j.toNat<n
   omega
 ·
  cases h
theorem CA(q:Rat):ratB (frD q)=true:=by
 show(decide (1≤(q.den:Int)) && decide ((Int.gcd q.num (q.den:Int):Int)=1))=true
 have h1:=q.den_pos
 have h2:=q.reduced
 have h3:Int.gcd q.num (q.den:Int)=1:=h2
 rw[h3,decide_eq_true (by omega)]
 rfl
theorem tI{d:D}(h:ratB d=true):∃q:Rat,d=frD q:=by
 by_cases hd:∃i j,d=.tup [.int i,.int j]
 ·
  obtain⟨i,j,rfl⟩:=hd
  have e:ratB (.tup [.int i,.int j])=(decide (1≤j) && decide ((Int.gcd i j:Int)=1)):=rfl
  rw[e,Bool.and_eq_true]at h
  have h1:=of_decide_eq_true h.1
  have h2:=of_decide_eq_true h.2
  refine⟨⟨i,j.toNat,by omega,?_⟩,?_⟩
  ·
   have:Int.gcd i j=1:=by omega
   show Nat.gcd i.natAbs j.toNat=1
   have e2:j.natAbs=j.toNat:=by omega
   rw[← e2]
   exact this
  ·
   show D.tup [.int i,.int j]=D.tup [.int i,.int (j.toNat:Int)]
   rw[Int.toNat_of_nonneg (by omega)]
 ·
  rw[xF fun i j e=>hd ⟨i,j,e⟩]at h
  cases h
theorem tJ:∀{xs:List D},xs.all ratB=true→∃ps:List Rat,xs=ps.map frD
 |[],_=>⟨[],rfl⟩
 | d::xs,h=>by
  rw[List.all_cons,Bool.and_eq_true]at h
  obtain⟨q,rfl⟩:=tI h.1
  obtain⟨ps,rfl⟩:=tJ h.2
  exact⟨q::ps,rfl⟩
def ratQ:D→Rat
 |.tup [.int i,.int j]=>mkRat i j.toNat
 |_=>0
theorem gH(q:Rat):ratQ (frD q)=q:=by
 show mkRat q.num (q.den:Int).toNat=q
 rw[Int.toNat_natCast]
 exact Rat.mkRat_self q
def iI(R:Ring):D→Bool
 |.lst xs=>decide (xs.length=R.asks.length) && (xs.all ratB && (c7 (bF R (xs.map ratQ)) xs.length).isNone)
 |_=>false
theorem jI(ps:List Rat):(ps.map frD).map ratQ=ps:=by
 rw[List.map_map]
 conv=>rhs;rw[← List.map_id ps]
 exact List.map_congr_left fun q _=>gH q
theorem EG(ps:List Rat):(ps.map frD).all ratB=true:=by
 rw[List.all_eq_true]
 intro d hd
 obtain⟨q,_,rfl⟩:=List.mem_map.mp hd
 exact CA q
theorem vB{R:Ring}{ps:List Rat}(hl:ps.length=R.asks.length):iI R (.lst (ps.map frD))=(c7 (bF R ps) ps.length).isNone:=by
 show(decide ((ps.map frD).length=R.asks.length) && ((ps.map frD).all ratB && (c7 (bF R ((ps.map frD).map ratQ)) (ps.map frD).length).isNone))=_
 rw[jI,EG,List.length_map,decide_eq_true hl]
 rfl
def topB(R:Ring)(q:Rat):D→Bool
 |.lst xs=>iI R (.lst xs) && decide (aF R (xs.map ratQ) (topI R.n (aF R (xs.map ratQ)))=q)
 |_=>false
theorem oJ{R:Ring}{ps:List Rat}{q:Rat}(hl:ps.length=R.asks.length)(hn:c7 (bF R ps) ps.length=none):topB R q (.lst (ps.map frD))=decide (aF R ps (topI R.n (aF R ps))=q):=by
 show(iI R (.lst (ps.map frD)) && decide (aF R ((ps.map frD).map ratQ) (topI R.n (aF R ((ps.map frD).map ratQ)))=q))=_
 rw[vB hl,hn,jI]
 rfl
theorem tK{R:Ring}{d:D}(h:iI R d=true):∃ps:List Rat,d=.lst (ps.map frD)∧ps.length=R.asks.length∧c7 (bF R ps) ps.length=none:=by
 unfold iI at h
 split at h
 ·
  rename_i xs
  rw[Bool.and_eq_true,Bool.and_eq_true]at h
  obtain⟨h1,h2,h3⟩:=h
  obtain⟨ps,rfl⟩:=tJ h2
  rw[jI,List.length_map]at h3
  refine⟨ps,rfl,by simpa using of_decide_eq_true h1,?_⟩
  cases e:c7 (bF R ps) ps.length with
  |none=>rfl
  |some k=>rw[e]at h3;cases h3
 ·
  cases h
theorem xI{R:Ring}{d:D}{q:Rat}(h:iI R d=false):topB R q d=false:=by
 unfold topB
 split
 ·
  rw[h,Bool.false_and]
 ·
  rfl
structure j5 (R:Ring) (d:D):Prop where
 rb:∀(xs:List D)(q:Rat),d=.lst xs→frD q∈xs→RB 4400 q
 lb:∀ps:List Rat,d=.lst (ps.map frD)→ps.length=R.asks.length→c7 (bF R ps) ps.length=none→LB R ps
theorem j5.of{R:Ring}{ps:List Rat}(hb:LB R ps):j5 R (.lst (ps.map frD)):=by
 refine⟨fun xs q e hq=>?_,fun ps' e _ _=>?_⟩
 ·
  cases e
  obtain⟨p,hp,ep⟩:=List.mem_map.mp hq
  have e2:=congrArg ratQ ep
  rw[gH,gH]at e2
  subst e2
  exact(hb.p p hp).mono (by decide)
 ·
  have e1:ps.map frD=ps'.map frD:=by injection e
  have e2:=congrArg (List.map ratQ) e1
  rw[jI,jI]at e2
  subst e2
  exact hb
def tM(R:Ring)(q:Rat):D→Bool
 |.tup [.int i,.int j]=>cutB R.n (.tup [.int i,.int j]) && decide (a7 R (i.toNat,j.toNat)=q)
 |_=>false
theorem EH{n:Nat}{c:Nat×Nat}(hc:bP n c):cutB n (cutP c)=true:=by
 show decide (0≤(c.1:Int)∧(c.1:Int)≤(c.2:Int)∧(c.2:Int)<(n:Int))=true
 have h1:=hc.1
 have h2:=hc.2
 exact decide_eq_true (by omega)
theorem lU{R:Ring}{q:Rat}{c:Nat×Nat}(hc:bP R.n c):tM R q (cutP c)=decide (a7 R c=q):=by
 show(cutB R.n (cutP c) && decide (a7 R ((c.1:Int).toNat,(c.2:Int).toNat)=q))=_
 rw[EH hc,Bool.true_and,Int.toNat_natCast,Int.toNat_natCast]
theorem tN{R:Ring}{q:Rat}{d:D}(h:cutB R.n d=false):tM R q d=false:=by
 unfold tM
 split
 ·
  rw[h,Bool.false_and]
 ·
  rfl
def dS(R:Ring):D→Bool
 |.tup [a,b,c]=>ratB a && (topB R (ratQ a) b && tM R (ratQ a) c)
 |_=>false
theorem CB{R:Ring}{ps:List Rat}{q:Rat}{c:Nat×Nat}(hl:ps.length=R.asks.length)(hn:c7 (bF R ps) ps.length=none)(hc:bP R.n c) :
  dS R (.tup [frD q,.lst (ps.map frD),cutP c])=(decide (aF R ps (topI R.n (aF R ps))=q) && decide (a7 R c=q)):=by
 show(ratB (frD q) && (topB R (ratQ (frD q)) (.lst (ps.map frD)) && tM R (ratQ (frD q)) (cutP c)))=_
 rw[CA,gH,oJ hl hn,lU hc]
 rfl
structure zC (d:D):Prop where
 sh:∀xs,d=.lst xs→xs.length≤40∧okDs 9 xs=true
 bd:∀xs i j,d=.lst xs→D.tup [.int i,.int j]∈xs→i.natAbs<2^4400∧j.natAbs<2^4400
theorem xJ:∀{qs:List Rat},(∀q∈qs,0≤q)→0≤sumQ qs
 |[],_=>by simp[sumQ]
 | q::qs,h=>by
  rw[a0]
  have h1:=h q List.mem_cons_self
  have h2:=xJ fun x hx=>h x (List.mem_cons_of_mem q hx)
  grind
theorem EJ{R:Ring}(hR:R.Ok){ps:List Rat}(hl:ps.length=R.asks.length)(hn:c7 (bF R ps) ps.length=none){t:Nat}(ht:t<R.n):0≤aF R ps t:=by
 obtain⟨r1,r2⟩:=cH hR ht
 have h0:0≤bM R.n R.asks ps t:=by
  refine xJ fun q hq=>?_
  obtain⟨x,hx,rfl⟩:=List.mem_map.mp hq
  obtain⟨k,hk,rfl⟩:=List.mem_iff_getElem.mp hx
  rw[List.length_zip]at hk
  rw[List.getElem_zip]
  have hk1:k<ps.length:=by omega
  have hk2:k<R.asks.length:=by omega
  have hw:=gf.mp hn k hk1
  unfold bF at hw
  rw[iF hk1,xx hk2,Bool.or_eq_false_iff]at hw
  have g1:=of_decide_eq_false hw.1
  have g2:=of_decide_eq_false hw.2
  unfold sent
  dsimp only
  split<;>grind
 unfold aF
 rw[Rat.div_def]
 exact Rat.mul_nonneg h0 (Rat.le_of_lt (Rat.inv_pos.mpr r1))
theorem EK{R:Ring}(hR:R.Ok){ps:List Rat}(h0:∀t,t<R.n→0≤aF R ps t):topQ R ps=aF R ps (topI R.n (aF R ps)):=by
 have lo:=hR.lo
 obtain⟨i1,i2⟩:=sT (show 0<R.n by omega) (aF R ps)
 obtain⟨_,h2,h3⟩:=iH (aF R ps) (List.range R.n) 0 _ rfl
 refine Rat.le_antisymm ?_ (h2 _ (List.mem_range.mpr i1))
 rcases h3 with h3|⟨t,ht,h3⟩
 ·
  show maxQ _ _≤_
  unfold maxQ
  rw[h3]
  exact h0 _ i1
 ·
  show maxQ _ _≤_
  unfold maxQ
  rw[h3]
  exact i2 t (List.mem_range.mp ht)
end My
set_option exponentiation.threshold 5000
namespace My
open PySem L2
structure J2 where
 k:Nat
 kw:Bool
 l:Nat
 lw:Bool
 am:Rat
def nsQ(R:Ring)(ps:List Rat)(k:Nat)(w:Bool):Rat:=if w then R.sz k-ps.getD k 0 else ps.getD k 0
def msQ(R:Ring)(ps:List Rat)(k:Nat)(kw:Bool)(l:Nat)(lw:Bool):Rat:=if nsQ R ps l lw<nsQ R ps k kw then nsQ R ps l lw else nsQ R ps k kw
def J3(n:Nat)(a:Ask)(aw:Bool)(b:Ask)(bw:Bool):Bool:=!((wayL n a aw).any fun t=>decide (t∈wayL n b bw))
structure SlOk (R:Ring) (ps:List Rat):Prop where
 ok:R.Ok
 len:ps.length=R.asks.length
 lo:∀k,k<ps.length→0≤ps.getD k 0∧ps.getD k 0≤R.sz k
 cd:∃D:Nat,0<D∧D<2^1500∧(∀a∈R.asks,a.size.den∣D)∧∀p∈ps,p.den∣D
theorem rlt{a b c:Rat}(h1:a≤b)(h2:b<c):a<c:=by
 rw[← Rat.not_le]at h2 ⊢
 exact fun z=>h2 (Rat.le_trans z h1)
theorem xK{p q:Rat}{D:Nat}(d0:0<D)(h1:p.den∣D)(h2:q.den∣D):(p+q).den∣D:=by
 have e:p+q=Rat.divInt (jV D p+jV D q) (D:Int):=by
  have hD:((D:Int):Rat)≠0:=by
   have:(0:Rat)<(D:Rat):=Rat.natCast_pos.mpr d0
   intro z
   rw[show((D:Int):Rat)=(D:Rat)from rfl]at z
   rw[z]at this
   exact absurd this (by decide)
  rw[Rat.divInt_eq_div,Rat.intCast_add,lR h1,lR h2,← Rat.add_mul,Rat.div_def,Rat.mul_assoc,show((D:Nat):Rat)=((D:Int):Rat)from rfl,Rat.mul_inv_cancel _ hD,Rat.mul_one]
 rw[e]
 have:=sY (t:=jV D p+jV D q) (b:=(D:Int)) (by omega)
 simpa using this
theorem SlOk.ns{R:Ring}{ps:List Rat}(h:SlOk R ps){k:Nat}(hk:k<ps.length)(w:Bool):0≤nsQ R ps k w∧nsQ R ps k w≤R.sz k:=by
 obtain⟨h1,h2⟩:=h.lo k hk
 unfold nsQ
 cases w
 ·
  exact⟨h1,h2⟩
 ·
  have h3:=(Rat.le_iff_sub_nonneg _ _).mp h2
  refine⟨h3,?_⟩
  show R.sz k-ps.getD k 0≤R.sz k
  rw[Rat.le_iff_sub_nonneg]
  have:R.sz k-(R.sz k-ps.getD k 0)=ps.getD k 0:=by
   rw[Rat.sub_eq_add_neg,Rat.sub_eq_add_neg,Rat.neg_add,Rat.neg_neg,← Rat.add_assoc,Rat.add_neg_cancel,Rat.zero_add]
  rw[this]
  exact h1
end My
set_option exponentiation.threshold 5000
namespace My
open PySem L2
end My
set_option exponentiation.threshold 5000
namespace My
open PySem L2
def slB(R:Ring)(ps:List Rat)(s:J2):Bool:=!decide (s.k=s.l) && (J3 R.n (bZ R s.k) s.kw (bZ R s.l) s.lw && (decide (0<s.am) && !decide (msQ R ps s.k s.kw s.l s.lw<s.am)))
end My
set_option exponentiation.threshold 5000
namespace My
open PySem L2
end My
set_option exponentiation.threshold 5000
namespace My
open PySem L2
structure Pt (n:Nat) (d:D):Prop where
 dep:depD d≤n
 wid:widD d≤99
 same:y4 (20+n) d=true
theorem Pt.int(i:Int):Pt 0 (.int i):=⟨by simp[depD],by simp[widD],by simp[y4]⟩
theorem Pt.str(z:Str):Pt 0 (.str z):=⟨by simp[depD],by simp[widD],by simp[y4]⟩
end My
set_option exponentiation.threshold 5000
namespace My
open PySem L2
mutual
theorem FE:∀{n:Nat}{d:D},okD n d=true→okW d=true
 |_,.non,_=>rfl
 |_,.bl _,_=>rfl
 |_,.int _,_=>rfl
 |0,.str x,h=>by simpa only[okD,okW]using h
 |_+1,.str x,h=>by simpa only[okD,okW]using h
 |0,.tup _,h=>by simp[okD]at h
 |0,.lst _,h=>by simp[okD]at h
 | n+1,.tup xs,h=>by
  simp only[okD]at h
  simp only[okW]
  exact xM h
 | n+1,.lst xs,h=>by
  simp only[okD]at h
  simp only[okW]
  exact xM h
 |0,.dct _,h=>by simp[okD]at h
 |0,.exc _ _ _,h=>by simp[okD]at h
 |0,.fn _ _,h=>by simp[okD]at h
 |_+1,.dct _,h=>by simp[okD]at h
 |_+1,.exc _ _ _,h=>by simp[okD]at h
 |_+1,.fn _ _,h=>by simp[okD]at h
theorem xM:∀{n:Nat}{ds:List D},okDs n ds=true→okWs ds=true
 |_,[],_=>rfl
 | n,d::ds,h=>by
  simp only[okDs,Bool.and_eq_true]at h
  simp only[okWs,FE h.1,xM h.2,Bool.and_self]
end
structure PG (y:D):Prop where
 ok:okD 4 y=true
 sh:bj y=true
 sg:sgnD y≤200000
 ln:∀rs,y=.lst rs→rs.length≤1000
structure GI (x:D):Prop where
 ok:okD 6 x=true
 sh:bj x=true
 sg:sgnD x≤700000
 ln:∀ys,x=.tup ys→∀y∈ys,∀rs,y=.lst rs→rs.length≤1000
structure SOk (d:D):Prop where
 rp:RepW d
 it:∀xs,d=.lst xs→xs.length≤19∧∀x∈xs,GI x
theorem vC{n:Nat}:∀{ds:List D},(∀d∈ds,okD n d=true)→okDs n ds=true
 |[],_=>rfl
 |d::ds,h=>by simp only[okDs,h d List.mem_cons_self,vC fun x hx=>h x (List.mem_cons_of_mem _ hx),Bool.and_self]
theorem nP:∀{ds:List D},(∀d∈ds,bj d=true)→bY ds=true
 |[],_=>rfl
 |d::ds,h=>by simp only[bY,h d List.mem_cons_self,nP fun x hx=>h x (List.mem_cons_of_mem _ hx),Bool.and_self]
theorem rL{n:Nat}:∀{ds:List D},(∀d∈ds,sgnD d≤n)→ph ds≤(n+2)*ds.length
 |[],_=>Nat.le_refl _
 | d::ds,h=>by
  have h1:=h d List.mem_cons_self
  have h2:=rL fun x hx=>h x (List.mem_cons_of_mem _ hx)
  simp only[ph,List.length_cons,Nat.mul_add,Nat.mul_one]
  omega
theorem PG.rooms{rs:List D}(h:∀r∈rs,okD 3 r=true∧bj r=true∧sgnD r≤1300)(hl:rs.length≤150):PG (.lst rs)∧PG (.tup rs):=by
 have e1:okDs 3 rs=true:=vC fun d hd=>(h d hd).1
 have e2:bY rs=true:=nP fun d hd=>(h d hd).2.1
 have e3:ph rs≤1302*rs.length:=rL fun d hd=>(h d hd).2.2
 refine⟨⟨by simpa only[okD]using e1,by simpa only[bj]using e2,by simp only[sgnD];omega,fun ys e=>?_⟩,⟨by simpa only[okD]using e1,by simpa only[bj]using e2,by simp only[sgnD];omega,fun ys e=>by cases e⟩⟩
 cases e
 omega
theorem rM{xs:List D}{i:Int}(h0:0≤i)(h1:i<(xs.length:Int)):∃v,atI xs i=some v∧v∈xs:=by
 have hi:i.toNat<xs.length:=by omega
 exact⟨xs[i.toNat],BO h0 (List.getElem?_eq_getElem hi),List.getElem_mem hi⟩
theorem xN(xs:List D)(k:Nat):cutD xs none (some (k:Int))=xs.take k:=by
 have:¬((k:Int)<0):=by omega
 unfold cutD
 simp[HT.sIx,this]
theorem lV(xs:List D)(k:Nat):cutD xs (some (k:Int)) none=xs.drop k:=by
 have:¬((k:Int)<0):=by omega
 unfold cutD
 simp[HT.sIx,this]
 by_cases h:k≤xs.length
 ·
  rw[Nat.min_eq_left h]
  exact List.take_of_length_le (by rw[List.length_drop];exact Nat.le_refl _)
 ·
  rw[Nat.min_eq_right (by omega),List.drop_eq_nil_of_le (Nat.le_refl _),List.drop_eq_nil_of_le (by omega),List.take_nil]
theorem PG.of{y:D}(h1:okD 4 y=true)(h2:bj y=true)(h3:sgnD y≤200000)(h4:∀rs,y=.lst rs→rs.length≤1000):PG y:=⟨h1,h2,h3,h4⟩
theorem PG.int{i:Int}(h:i.natAbs<2^60):PG (.int i):=⟨rfl,by simp only[bj];exact decide_eq_true (Nat.lt_of_lt_of_le h (Nat.pow_le_pow_right (by decide) (by decide))),by simp only[sgnD];decide,fun rs e=>by cases e⟩
theorem SOk.of{d:D}(h:PG d)(hn:∀xs,d≠.lst xs):SOk d:=⟨⟨FE h.ok,h.sh,Nat.le_trans (o6 4 _ h.ok).2 (by decide),Nat.le_trans h.sg (by decide)⟩,fun xs e=>absurd e (hn xs)⟩
theorem CC{n:Nat}(h:n≤1000):n≤sizeLine:=Nat.le_trans h (by decide)
end My
set_option exponentiation.threshold 5000
namespace My
open PySem L2
theorem Aj{R:Ring}{a:Ask}{p:Rat}(h0:0≤p)(h1:p≤a.size)(t:Nat):0≤sent R.n a p t∧sent R.n a p t≤a.size:=by
 unfold sent
 split
 ·
  exact⟨h0,h1⟩
 ·
  constructor<;>grind
theorem EM{n:Nat}{a:Ask}{p:Rat}{N:Nat}(N0:0<N)(ha:a.size.den∣N)(hp:p.den∣N)(t:Nat):(sent n a p t).den∣N:=by
 unfold sent
 split
 ·
  exact hp
 ·
  rw[Rat.sub_eq_add_neg]
  exact xK N0 ha (by rw[Rat.neg_den];exact hp)
theorem CD{n:Nat}(h:n<1024):(n:Rat)*((2^300:Nat):Rat)<((2^310:Nat):Rat):=by
 have e3:(2:Nat)^310=1024*2^300:=by rw[Nat.pow_add 2 300 10,Nat.mul_comm]
 have hB:0<(2:Nat)^300:=Nat.pow_pos (by decide)
 rw[e3]
 generalize (2:Nat)^300=B at hB
 have e:(n:Rat)*(B:Rat)=(((n*B:Nat):Int):Rat):=by push_cast;rfl
 rw[e]
 exact Rat.intCast_lt_intCast.mpr (Int.ofNat_lt.mpr (Nat.mul_lt_mul_of_pos_right h hB))
theorem LB.right{R:Ring}(hR:R.Ok){ps:List Rat}{N:Nat}(hl:ps.length=R.asks.length)(hr:∀x∈R.asks.zip ps,0≤x.2∧x.2≤x.1.size)(N0:0<N)(N1:N<2^3760)(da:∀a∈R.asks,a.size.den∣N)(dp:∀p∈ps,p.den∣N):LB R ps:=by
 have few:=hR.few
 have each:∀x∈R.asks.zip ps,∀t,0≤sent R.n x.1 x.2 t∧sent R.n x.1 x.2 t<((2^300:Nat):Rat)∧(sent R.n x.1 x.2 t).den∣N:=fun x hx t=>by
  obtain⟨h1,h2⟩:=List.of_mem_zip (a:=x.1) (b:=x.2) hx
  obtain⟨r1,r2⟩:=hr x hx
  obtain⟨s1,s2⟩:=Aj (R:=R) r1 r2 t
  exact⟨s1,rlt s2 (hR.ask _ h1).lt,EM N0 (da _ h1) (dp _ h2) t⟩
 have dl:∀{q:Rat},q.den∣N→q.den<2^3760:=fun h=>Nat.lt_of_le_of_lt (Nat.le_of_dvd N0 h) N1
 have load:∀(zs:List (Ask×Rat))(t:Nat),(∀x∈zs,x∈R.asks.zip ps)→zs.length≤20→RB 4100 (sumQ (zs.map fun x=>sent R.n x.1 x.2 t)):=fun zs t hz hl=>by
  have h0:0≤sumQ (zs.map fun x=>sent R.n x.1 x.2 t):=xJ fun q hq=>by
   obtain⟨x,hx,rfl⟩:=List.mem_map.mp hq
   exact(each x (hz x hx) t).1
  have hd:(sumQ (zs.map fun x=>sent R.n x.1 x.2 t)).den∣N:=pB N0 _ fun q hq=>by
   obtain⟨x,hx,rfl⟩:=List.mem_map.mp hq
   exact(each x (hz x hx) t).2.2
  have hV:(0:Rat)≤((2^300:Nat):Rat):=Rat.natCast_nonneg
  have hv:sumQ (zs.map fun x=>sent R.n x.1 x.2 t)≤_:=xu hV _ fun q hq=>by
   obtain⟨x,hx,rfl⟩:=List.mem_map.mp hq
   exact(each x (hz x hx) t).2.1
  rw[List.length_map]at hv
  have hlt:sumQ (zs.map fun x=>sent R.n x.1 x.2 t)<((2^310:Nat):Rat):=by
   refine rlt hv ?_
   exact CD (by omega)
  exact(RB.of_val (v:=310) (d:=3760) h0 (dl hd) hlt).mono (by decide)
 refine⟨fun p hp=>?_,fun k t=>?_,fun k h1 h2 t=>?_,fun t=>.inr ⟨N,N0,Nat.lt_of_lt_of_le N1 (Nat.pow_le_pow_right (by decide) (by decide)),fun q hq=>?_⟩⟩
 ·
  obtain⟨k,hk,rfl⟩:=List.mem_iff_getElem.mp hp
  have hz:k<(R.asks.zip ps).length:=by rw[List.length_zip];omega
  have:=hr _ (List.getElem_mem hz)
  rw[List.getElem_zip]at this
  exact(RB.of_val (v:=300) (d:=3760) this.1 (dl (dp _ (List.getElem_mem hk))) (rlt this.2 (hR.ask _ (List.getElem_mem _)).lt)).mono (by decide)
 ·
  unfold bM
  rw[show(R.asks.take k).zip (ps.take k)=(R.asks.zip ps).take k from List.take_zipWith.symm]
  exact load _ t (fun x hx=>List.mem_of_mem_take hx) (by rw[List.length_take,List.length_zip];omega)
 ·
  have hz:k<(R.asks.zip ps).length:=by rw[List.length_zip];omega
  have:=each _ (List.getElem_mem hz) t
  rw[List.getElem_zip]at this
  exact(RB.of_val (v:=300) (d:=3760) this.1 (dl this.2.2) this.2.1).mono (by decide)
 ·
  obtain⟨x,hx,rfl⟩:=List.mem_map.mp hq
  exact(each x hx t).2.2
theorem vD{R:Ring}{ps:List Rat}(hl:ps.length=R.asks.length)(hn:c7 (bF R ps) ps.length=none):∀x∈R.asks.zip ps,0≤x.2∧x.2≤x.1.size:=fun x hx=>by
 obtain⟨k,hk,rfl⟩:=List.mem_iff_getElem.mp hx
 rw[List.length_zip]at hk
 have h1:k<ps.length:=by omega
 have h2:k<R.asks.length:=by omega
 have:=gf.mp hn k h1
 unfold bF at this
 rw[Bool.or_eq_false_iff]at this
 have a1:=of_decide_eq_false this.1
 have a2:=of_decide_eq_false this.2
 rw[iF h1]at a1 a2
 rw[xx h2]at a2
 rw[List.getElem_zip]
 exact⟨Rat.not_lt.mp a1,Rat.not_lt.mp a2⟩
theorem CF{R:Ring}(hR:R.Ok){N:Nat}(N0:0<N)(N1:N<2^3760)(da:∀a∈R.asks,a.size.den∣N){d:D}(h:∀xs q,d=.lst xs→frD q∈xs→q.den∣N∧RB 4400 q):j5 R d :=
 ⟨fun xs q e hq=>(h xs q e hq).2,fun ps e hl hn=>LB.right hR hl (vD hl hn) N0 N1 da fun p hp=>(h _ p e (List.mem_map_of_mem hp)).1⟩
structure WK (n s:Nat) (d:D):Prop where
 ok:okW d=true
 sh:bj d=true
 dp:(toP d).depth≤n
 sg:sgnD d≤s
theorem WK.rep{n s:Nat}{d:D}(h:WK n s d)(hn:n≤40)(hs:s≤16777216):RepW d:=⟨h.ok,h.sh,Nat.le_trans h.dp hn,Nat.le_trans h.sg hs⟩
theorem WK.mono{n s m t:Nat}{d:D}(h:WK n s d)(hn:n≤m)(hs:s≤t):WK m t d:=⟨h.ok,h.sh,Nat.le_trans h.dp hn,Nat.le_trans h.sg hs⟩
theorem WK.all{n s:Nat}:∀{ds:List D},(∀d∈ds,WK n s d)→okWs ds=true∧bY ds=true∧PyData.depthAll (toPs ds)≤n∧ph ds≤(s+2)*ds.length
 |[],_=>⟨rfl,rfl,Nat.zero_le _,Nat.le_refl _⟩
 | d::ds,h=>by
  have h0:=h d List.mem_cons_self
  obtain⟨h1,h2,h3,h4⟩:=WK.all fun x hx=>h x (List.mem_cons_of_mem _ hx)
  have dp:=h0.dp
  have sg:=h0.sg
  refine⟨by simp only[okWs,h0.ok,h1,Bool.and_self],by simp only[bY,h0.sh,h2,Bool.and_self],by simp only[toPs,PyData.depthAll];omega,?_⟩
  simp only[ph,List.length_cons,Nat.mul_add,Nat.mul_one]
  omega
theorem WK.two{n s m t:Nat}{ds:List D}(h:∀d∈ds,WK n s d)(hn:n+1≤m)(hs:(s+2)*ds.length+3≤t):WK m t (.tup ds)∧WK m t (.lst ds):=by
 obtain⟨h1,h2,h3,h4⟩:=WK.all h
 refine⟨⟨by simpa only[okW]using h1,by simpa only[bj]using h2,Nat.le_trans (Nat.succ_le_succ h3) hn,by simp only[sgnD];omega⟩,⟨by simpa only[okW]using h1,by simpa only[bj]using h2,Nat.le_trans (Nat.succ_le_succ h3) hn,by simp only[sgnD];omega⟩⟩
theorem zA{q:Rat}(h:RB 1900 q):bj (frD q)=true:=by
 have h2:((q.den:Int)).natAbs<2^1900:=by rw[Int.natAbs_natCast];exact h.2
 simp only[frD,bj,bY,decide_eq_true h.1,decide_eq_true h2,Bool.and_self]
theorem WK.fr{q:Rat}(h:RB 1900 q):WK 1 1300 (frD q):=⟨rfl,zA h,Nat.le_refl 1,by show 1211≤1300;decide⟩
theorem WK.int{i:Int}(h:i.natAbs<2^60):WK 0 602 (.int i):=⟨rfl,by simp only[bj];exact decide_eq_true (Nat.lt_of_lt_of_le h (Nat.pow_le_pow_right (by decide) (by decide))),Nat.le_refl 0,Nat.le_refl _⟩
structure EP (N:Nat) (x:D):Prop where
 ok:okD 3 x=true
 wk:WK 1 1300 x
 q:∀q,x=frD q→q.den∣N
theorem EP.fr{N:Nat}{p:Rat}(h:RB 1900 p)(hd:p.den∣N):EP N (frD p):=⟨Fy 2 p,WK.fr h,fun q e=>by
 have e2:=congrArg ratQ e
 rw[gH,gH]at e2
 rw[← e2]
 exact hd⟩
structure BP (R:Ring) (b:D):Prop where
 wk:WK 4 60000 b
 ss:j5 R b
 sl:zC b
theorem vE{n:Nat}:∀{ds:List D},(∀d∈ds,okD n d=true)→okDs n ds=true
 |[],_=>rfl
 |d::ds,h=>by simp only[okDs,h d List.mem_cons_self,vE fun x hx=>h x (List.mem_cons_of_mem _ hx),Bool.and_self]
theorem BP.lst{R:Ring}(hR:R.Ok){N:Nat}(N0:0<N)(N1:N<2^3760)(da:∀a∈R.asks,a.size.den∣N){xs:List D}(h:∀x∈xs,EP N x)(hl:xs.length≤40):BP R (.lst xs):=by
 refine⟨((WK.two (m:=4) (t:=60000) (fun x hx=>(h x hx).wk) (by decide) (by omega)).2),CF hR N0 N1 da fun ys q e hq=>?_,⟨fun ys e=>?_,fun ys i j e hm=>?_⟩⟩
 ·
  cases e
  have hx:=h _ hq
  have:=hx.wk.sh
  simp only[frD,bj,bY,Bool.and_eq_true,decide_eq_true_eq]at this
  refine⟨hx.q q rfl,Nat.lt_of_lt_of_le this.1 (Nat.pow_le_pow_right (by decide) (by decide)),?_⟩
  have h2:=this.2.1
  rw[Int.natAbs_natCast]at h2
  exact Nat.lt_of_lt_of_le h2 (Nat.pow_le_pow_right (by decide) (by decide))
 ·
  cases e
  exact⟨hl,vE fun d hd=>L2.okD_mono d (by decide) (h d hd).ok⟩
 ·
  cases e
  have:=(h _ hm).wk.sh
  simp only[bj,bY,Bool.and_eq_true,decide_eq_true_eq]at this
  exact⟨Nat.lt_of_lt_of_le this.1 (Nat.pow_le_pow_right (by decide) (by decide)),Nat.lt_of_lt_of_le this.2.1 (Nat.pow_le_pow_right (by decide) (by decide))⟩
theorem BP.no{R:Ring}{b:D}(h:WK 4 60000 b)(hn:∀xs,b≠.lst xs):BP R b:=⟨h,⟨fun xs q e=>absurd e (hn xs),fun ps e=>absurd e (hn _)⟩,⟨fun xs e=>absurd e (hn xs),fun xs i j e=>absurd e (hn xs)⟩⟩
structure KOk (R:Ring) (d:D):Prop where
 rp:RepW d
 p:∀a b c,d=.tup [a,b,c]→BP R b
theorem KOk.s{R:Ring}{d:D}(h:KOk R d):∀a b c,d=.tup [a,b,c]→j5 R b∧zC b∧∀i j,a=.tup [.int i,.int j]→j.natAbs<2^9000:=fun a b c e=>by
 have hb:=h.p a b c e
 refine⟨hb.ss,hb.sl,fun i j ea=>?_⟩
 have:=h.rp.sh
 subst e ea
 simp only[bj,bY,Bool.and_eq_true,decide_eq_true_eq]at this
 exact Nat.lt_of_lt_of_le this.1.2.1 (Nat.pow_le_pow_right (by decide) (by decide))
theorem Ak{R:Ring}(hR:R.Ok){a b c:D}(hs:j5 R b)(h:dS R (.tup [a,b,c])=true):a=frD (gcut R).1:=by
 have e:dS R (.tup [a,b,c])=(ratB a && (topB R (ratQ a) b && tM R (ratQ a) c)):=rfl
 rw[e,Bool.and_eq_true,Bool.and_eq_true]at h
 obtain⟨ha,hb,hc⟩:=h
 obtain⟨q,rfl⟩:=tI ha
 rw[gH]at hb hc
 obtain⟨ec1,ec2,ec3,_⟩:=fH hR
 have hsb:iI R b=true:=by
  cases z:iI R b with
  |true=>rfl
  |false=>rw[xI z]at hb;cases hb
 obtain⟨ps,rfl,pl,pn⟩:=tK hsb
 rw[oJ pl pn]at hb
 have et:=of_decide_eq_true hb
 have hP:kC R ps 4400:=⟨pl,vD pl pn,fun p hp=>hs.rb _ p rfl (List.mem_map_of_mem hp)⟩
 have up:=xw hR hP ec1
 rw[et,← ec2]at up
 have hcb:cutB R.n c=true:=by
  cases z:cutB R.n c with
  |true=>rfl
  |false=>rw[tN z]at hc;cases hc
 obtain⟨cc,rfl,he⟩:=xH hcb
 rw[lU he]at hc
 have:=ec3 cc he
 rw[of_decide_eq_true hc]at this
 rw[show q=(gcut R).1 from Rat.le_antisymm this up]
theorem EN{R:Ring}(hR:R.Ok)(hT:∀a∈R.asks,RB 60 a.size)(h6:R.asks.length≤6):(gcut R).1.den≤2^482:=by
 obtain⟨h1,h2,_⟩:=fH hR
 rw[h2]
 obtain⟨r0,rb⟩:=eP hR h1
 have hr:eO R (gcut R).2≠0:=by grind
 have hd:(bh R.asks (gcut R).2).den∣denL R.asks:=pB (lO _) _ fun q hq=>by
  obtain⟨a,ha,rfl⟩:=List.mem_map.mp hq
  exact oG (List.mem_filter.mp ha).1
 have h3:(bh R.asks (gcut R).2).den≤2^360:=Nat.le_trans (Nat.le_of_dvd (lO _) hd) (Nat.le_trans (sN hT) (Nat.pow_le_pow_right (by decide) (by omega)))
 unfold a7
 rw[← za _ hr]
 refine Nat.le_trans (yV (Int.mul_ne_zero (iE _) (vi hr))) ?_
 rw[Int.natAbs_mul,Int.natAbs_natCast]
 have e:(2:Nat)^482=2^360*2^122:=by rw[← Nat.pow_add]
 rw[e]
 exact Nat.mul_le_mul h3 (Nat.le_trans (Nat.le_of_lt rb.1) (Nat.pow_le_pow_right (by decide) (by decide)))
structure NOk (R:Ring) (N:Nat):Prop where
 n0:0<N
 n1:N<2^1340
 d36:36∣N
 da:∀a∈R.asks,a.size.den*12∣N
 sp:∀p∈bf R (gcut R).1,p.den∣N
theorem NOk.up{R:Ring}{N:Nat}(h:NOk R N):N<2^3760:=Nat.lt_of_lt_of_le h.n1 (Nat.pow_le_pow_right (by decide) (by decide))
theorem NOk.ask{R:Ring}{N:Nat}(h:NOk R N):∀a∈R.asks,a.size.den∣N:=fun a ha=>Nat.dvd_trans (Nat.dvd_mul_right _ _) (h.da a ha)
theorem xO{R:Ring}(hR:R.Ok)(hT:∀a∈R.asks,RB 60 a.size)(h6:R.asks.length≤6)(n6:R.n≤6):∃N,NOk R N:=by
 have hq:=(kD hR).mono (show 1667≤1750 by decide)
 have hq1:=EN hR hT h6
 obtain⟨_,_,hs,_⟩:=fH hR
 have hsp:∀p∈bf R (gcut R).1,p.den∣aT R (gcut R).1:=fun p hp=>by
  obtain⟨j,hj,rfl⟩:=List.mem_map.mp hp
  exact mS (ej hR hq).1 (dR hR hq j)
 obtain⟨q,eq⟩:∃q,q=(gcut R).1:=⟨_,rfl⟩
 rw[← eq]at hq hq1 hsp
 have hd:cbR R q∣denL R.asks*(q.den*denP R.rooms):=by
  refine Eu fun p hp=>?_
  rcases List.mem_append.mp hp with hp|hp
  ·
   obtain⟨a,ha,rfl⟩:=List.mem_map.mp hp
   exact Nat.dvd_trans (oG ha) (Nat.dvd_mul_right _ _)
  ·
   obtain⟨r,hr,rfl⟩:=List.mem_map.mp hp
   refine Nat.dvd_trans (gF q r) (Nat.dvd_trans (Nat.mul_dvd_mul_left _ (lT hr)) (Nat.dvd_mul_left _ _))
 have h1:denL R.asks≤2^360:=Nat.le_trans (sN hT) (Nat.pow_le_pow_right (by decide) (by omega))
 have h2:denP R.rooms≤2^360:=by
  refine Nat.le_trans (xC fun p hp=>(hR.room p hp).2) (Nat.pow_le_pow_right (by decide) ?_)
  have:R.rooms.length≤6:=n6
  omega
 have h4:cbR R q≤denL R.asks*(q.den*denP R.rooms):=Nat.le_of_dvd (Nat.mul_pos (lO _) (Nat.mul_pos (den_pos _) (jF _))) hd
 have h5:denL R.asks*(q.den*denP R.rooms)≤2^360*(2^482*2^360):=Nat.mul_le_mul h1 (Nat.mul_le_mul hq1 h2)
 have h6':2^360*(2^482*2^360)=2^1202:=by rw[← Nat.pow_add,← Nat.pow_add]
 rw[h6']at h5
 have h0:=Cs R q
 refine⟨36*aT R q,?_⟩
 refine⟨by unfold aT;omega,?_,Nat.dvd_mul_right _ _,fun a ha=>?_,fun p hp=>?_⟩
 ·
  have h7:(2:Nat)^1340=2^138*2^1202:=by rw[← Nat.pow_add]
  have hp:0<(2:Nat)^1202:=Nat.pow_pos (by decide)
  rw[h7]
  unfold aT
  have h8:72<2^138:=by decide
  have:36*(2*cbR R q)≤72*2^1202:=by
   generalize (2:Nat)^1202=y at *
   omega
  exact Nat.lt_of_le_of_lt this (Nat.mul_lt_mul_of_pos_right h8 hp)
 ·
  obtain⟨j,hj,e⟩:=List.mem_iff_getElem.mp ha
  have:=tj hj q
  rw[c8 hj,e]at this
  rw[Nat.mul_comm,show 36*aT R q=12*(6*cbR R q) by unfold aT;omega]
  exact Nat.mul_dvd_mul_left 12 (Nat.dvd_trans this (Nat.dvd_mul_left _ _))
 ·
  rw[← eq]at hp
  exact Nat.dvd_trans (hsp p hp) (Nat.dvd_mul_left _ _)
theorem rN{R:Ring}{N:Nat}(hR:R.Ok)(h:NOk R N):∀p∈bf R (gcut R).1,RB 1640 p∧p.den∣N:=fun p hp=>by
 have hq:=(kD hR).mono (show 1667≤1750 by decide)
 obtain⟨_,_,hs,_⟩:=fH hR
 have hd:=h.sp p hp
 refine⟨?_,hd⟩
 obtain⟨j,hj,rfl⟩:=List.mem_map.mp hp
 have hj:=List.mem_range.mp hj
 obtain⟨s0,s1⟩:=xD hR hq hs hj
 rw[c8 hj]at s1
 exact(RB.of_val (v:=300) (d:=1340) s0 (Nat.lt_of_le_of_lt (Nat.le_of_dvd h.n0 hd) h.n1) (rlt s1 (hR.ask _ (List.getElem_mem hj)).lt))
end My
set_option exponentiation.threshold 1000
namespace Hd
open PySem PySem.W PyProof.Rows
abbrev pr:Program:=PySem.Challenge.pw_ringloads_k23_least_tops_let_by
def top(i:Nat):Stmt:=pr.main.body.getD i (.Pass ⟨0,0,0,0⟩)
def Jk(st:Stmt)(j:Nat):Stmt:=match st with
 |.ClassDef _ _ _ b ..=>b.getD j (.Pass ⟨0,0,0,0⟩)
 |_=>.Pass ⟨0,0,0,0⟩
def CG(s:Stmt):Str:=match s with
 |.FunctionDef n ..=>n
 |_=>""
def Jl(s:Stmt):Arguments:=match s with
 |.FunctionDef _ a _ _ _ _ _ _ _ _=>a
 |_=>{posonlyargs:=[],args:=[],vararg:=none,kwonlyargs:=[],kw_defaults:=[],kwarg:=none,defaults:=[] }
def J4(s:Stmt):List Stmt:=match s with
 |.FunctionDef _ _ b _ _ _ _ _ _ _=>b
 |_=>[]
def Jm(s:Stmt):Scope:=match s with
 |.FunctionDef _ _ _ _ _ _ sc _ _ _=>sc
 |_=>{kind:=.function,names:=[],isGenerator:=false,isCoroutine:=false}
def dPos(s:Stmt):Pos:=match s with
 |.FunctionDef _ _ _ _ _ _ _ _ _ p=>p
 |_=>⟨0,0,0,0⟩
def fdOf (st:Stmt) (q:Str) (g:Addr) (md cd:Value):FuncData:={ name:=CG st,qualname:=q,params:=Jl st,body:=.stmts (J4 st),scope:=Jm st,globals:=g,closure:=[],defaults:=.none,kwdefaults:=.none,doc:=.none,pyModule:=md,annotations:=none,code:=cd,closureTuple:=.none,builtins:=0 }
noncomputable def kh(P:Params)(x:Str):Int:=PySem.PyData.keyHash P x
def tupO(vs:List Value):Obj:=⟨.type "tuple",none,.seq vs.toArray 0,#[]⟩
def fldO(vs:List Value):Obj:=⟨.none,none,.fields vs.toArray,#[]⟩
def numb:Nat→List Str→List Value
 |_,[]=>[]
 |t,x::r=>.str x t::numb (t+1) r
noncomputable def Jn(st:Stmt)(a t:Nat)(v1 v2:Value)(tm u:Nat):Obj:=⟨.type "code",none,.fields #[.str (CG st) t,.str (CG st) (t+1),.str "/claim/cut.py" (t+2),.int (dPos st).line 0,.int (Jl st).args.length 0,.int 0 0,.int 0 0,.int 3 0,.ref a,.bool true,.int 181 0,.ref (a+1),.none,v1,v2,.ref tm,.int u 0,.int (dPos st).line 0,.str "/claim/cut.py" (u+1)],#[]⟩
def fnO(st:Stmt)(md:Value)(cd:Nat):Obj:=⟨.type "function",none,.func (fdOf st (CG st) 3 md (.ref cd)),#[]⟩
def tmO(st:Stmt):Obj:=⟨.none,none,.func (fdOf st (CG st) 0 .none .none),#[]⟩
noncomputable def ba(st:Stmt)(a t:Nat)(vs:List Str)(md:Value):List Obj:=[tupO [],fldO [],tupO (numb (t+3) vs),tupO [],tmO st,Jn st a t (.ref (a+2)) (.ref (a+3)) (a+4) (t+3+vs.length),fnO st md (a+5)]
noncomputable def lW(st:Stmt)(a t:Nat)(md:Value):List Obj:=[tupO [],fldO [],tmO st,Jn st a t .none .none (a+2) (t+3),fnO st md (a+3)]
noncomputable def xP (P:Params) (nm:Value) (es:List DictEntry) (n:Nat):Obj:=⟨.type "dict",none,.dict (([⟨kh P "__name__",.str "__name__" 165,nm⟩,⟨kh P "__doc__",.str "__doc__" 166,.none⟩,⟨kh P "__package__",.str "__package__" 167,.none⟩,⟨kh P "__loader__",.str "__loader__" 168,.builtin "__main__.__loader__#opaque"⟩,⟨kh P "__spec__",.str "__spec__" 169,.none⟩,⟨kh P "__annotations__",.str "__annotations__" 170,.ref 6⟩,⟨kh P "__builtins__",.str "__builtins__" 171,.ref 4⟩,⟨kh P "__file__",.str "__file__" 173,.str "/claim/cut.py" 172⟩,⟨kh P "__cached__",.str "__cached__" 174,.none⟩]:List DictEntry)++es).toArray n,#[]⟩
noncomputable def modO:Obj:=⟨.type "code",none,.fields #[.str "<module>" 182,.str "<module>" 183,.str "/claim/cut.py" 184,.int 1 0,.int 0 0,.int 0 0,.int 0 0,.int 0 0,.ref 11,.bool false,.int 181 0,.ref 12,.none,.none,.none,.none,.int 185 0,.int 1 0,.str "/claim/cut.py" 186],#[]⟩
noncomputable def frmO:Obj:=⟨.type "frame",none,.plain,#[some (.ref 13),some (.ref 3),some (.ref 3),none,some (.str "__main__" 164),none,some (.ref 0)]⟩
noncomputable def Hh(P:Params):List Obj:=[boot_o_0 P,boot_o_1 P,boot_o_2 P,boot_o_3 P,boot_o_4 P,boot_o_5 P,boot_o_6 P,boot_o_7 P,boot_o_8 P,boot_o_9 P,boot_o_10 P,tupO [],fldO [],modO,frmO]
def pL:Life:=⟨[],[],[],0,[],[],false,#[],[],0,false,false,false,0,[2000,10,10],false,0,true,[],[],0,false⟩
noncomputable def J5(l:List (Nat×Obj))(b:Nat):Option Obj:=@List.rec (Nat×Obj) (fun _=>Option Obj) none (fun x _ ih=>bif Nat.beq x.1 b then some x.2 else ih) l
noncomputable def Jo(P:Params)(ob:Params→Nat→Obj)(b:Nat):Obj:=bif b.blt 15 then(Hh P).getD b default else ob P b
noncomputable def memN(l:List Nat)(b:Nat):Bool:=@List.rec Nat (fun _=>Bool) false (fun x _ ih=>@Bool.rec (fun _=>Bool) ih true (Nat.beq x b)) l
noncomputable def obAt(ks:List Nat)(P:Params)(ov:List (Nat×Obj))(ob:Params→Nat→Obj)(b j:Nat):Obj:=@Bool.rec (fun _=>Obj) (Jo P ob b) ((J5 ov b).getD default) (memN ks b)
noncomputable def L0(n:Nat)(f:Nat→Obj)(a b j:Nat):BT:=.nil
noncomputable def L1(n:Nat)(f:Nat→Obj)(a b j:Nat):BT:=@Bool.rec (fun _=>BT) .nil (.node (f b) (L0 n f (2*a) (a+b) j) (L0 n f (2*a) (2*a+b) j)) (b.blt n)
noncomputable def L2(n:Nat)(f:Nat→Obj)(a b j:Nat):BT:=@Bool.rec (fun _=>BT) .nil (.node (f b) (L1 n f (2*a) (a+b) j) (L1 n f (2*a) (2*a+b) j)) (b.blt n)
noncomputable def L3(n:Nat)(f:Nat→Obj)(a b j:Nat):BT:=@Bool.rec (fun _=>BT) .nil (.node (f b) (L2 n f (2*a) (a+b) j) (L2 n f (2*a) (2*a+b) j)) (b.blt n)
noncomputable def L4(n:Nat)(f:Nat→Obj)(a b j:Nat):BT:=@Bool.rec (fun _=>BT) .nil (.node (f b) (L3 n f (2*a) (a+b) j) (L3 n f (2*a) (2*a+b) j)) (b.blt n)
noncomputable def L5(n:Nat)(f:Nat→Obj)(a b j:Nat):BT:=@Bool.rec (fun _=>BT) .nil (.node (f b) (L4 n f (2*a) (a+b) j) (L4 n f (2*a) (2*a+b) j)) (b.blt n)
noncomputable def L6(n:Nat)(f:Nat→Obj)(a b j:Nat):BT:=@Bool.rec (fun _=>BT) .nil (.node (f b) (L5 n f (2*a) (a+b) j) (L5 n f (2*a) (2*a+b) j)) (b.blt n)
noncomputable def L7(n:Nat)(f:Nat→Obj)(a b j:Nat):BT:=@Bool.rec (fun _=>BT) .nil (.node (f b) (L6 n f (2*a) (a+b) j) (L6 n f (2*a) (2*a+b) j)) (b.blt n)
noncomputable def L8(n:Nat)(f:Nat→Obj)(a b j:Nat):BT:=@Bool.rec (fun _=>BT) .nil (.node (f b) (L7 n f (2*a) (a+b) j) (L7 n f (2*a) (2*a+b) j)) (b.blt n)
noncomputable def L9(n:Nat)(f:Nat→Obj)(a b j:Nat):BT:=@Bool.rec (fun _=>BT) .nil (.node (f b) (L8 n f (2*a) (a+b) j) (L8 n f (2*a) (2*a+b) j)) (b.blt n)
noncomputable def L10(n:Nat)(f:Nat→Obj)(a b j:Nat):BT:=@Bool.rec (fun _=>BT) .nil (.node (f b) (L9 n f (2*a) (a+b) j) (L9 n f (2*a) (2*a+b) j)) (b.blt n)
noncomputable def L11(n:Nat)(f:Nat→Obj)(a b j:Nat):BT:=@Bool.rec (fun _=>BT) .nil (.node (f b) (L10 n f (2*a) (a+b) j) (L10 n f (2*a) (2*a+b) j)) (b.blt n)
noncomputable def L12(n:Nat)(f:Nat→Obj)(a b j:Nat):BT:=@Bool.rec (fun _=>BT) .nil (.node (f b) (L11 n f (2*a) (a+b) j) (L11 n f (2*a) (2*a+b) j)) (b.blt n)
theorem pM{p:Program}{w:World}{m:Nat}{ann:Option Value}{b n:Nat}{s:SharedT}{t:Thread}{r:Option (Flow×SharedT×Code×Pos)}(h:Fast.tw10110043849684766642 Fast.tw14364793385576792824 p w m ann b n s t=r):segRunT treeTable p w m ann b n s t=r:=by
 rw[Fast.te10110043849684766642,Fast.te14364793385576792824];exact h
theorem Jp{p:Program}{w:World}{m:Nat}{ann:Option Value}{n:Nat}{s:Shared}{t:Thread}{r:Option Shared}(h:Fast.tw14082659384304107361 Fast.tw14364793385576792824 p w m ann n s t=r):topRun treeTable p w m ann n s t=r:=by
 rw[Fast.te14082659384304107361,Fast.te14364793385576792824];exact h
theorem Jq:denote treeTable=Fast.tw11892475500146522536 Fast.tw14364793385576792824:=by rw[← Fast.te11892475500146522536,← Fast.te14364793385576792824]
theorem J6{p:Program}{w:World}{m:Nat}{ann:Option Value}{n:Nat}{s:Shared}{t:Thread}{r:Option (Shared×Thread)}(h:Fast.tw15667345088766844465 Fast.tw14364793385576792824 p w m ann n s t=r):topGo treeTable p w m ann n s t=r:=by
 rw[Fast.te15667345088766844465,Fast.te14364793385576792824];exact h
theorem Hi{b b':List Stmt}(e:b=b'){tb:String→Option Builtin}{p:Program}{w:World}{m:Nat}{ann:Option Value}{n:Nat}{s:Shared}{env:Env}{c:Code}{ps:Pos}{B:List Frame}{r:Option Shared}(h:topRun tb p w m ann n s (restOf b' env c ps B)=r):topRun tb p w m ann n s (restOf b env c ps B)=r:=by rw[e];exact h
noncomputable def f1(P:Params):List Obj:=ba (top 1) 15 189 ["one","other","rest"] (.str "ringloads.divisors" 187)
noncomputable def f2(P:Params):List Obj:=ba (top 2) 22 198 ["one","other"] (.str "ringloads.divisors" 187)
noncomputable def f4(P:Params):List Obj:=ba (top 4) 29 208 ["thing"] (.str "ringloads.names" 206)
noncomputable def f5(P:Params):List Obj:=ba (top 5) 36 215 ["thing"] (.str "ringloads.names" 206)
noncomputable def f6(P:Params):List Obj:=ba (top 6) 43 222 ["thing"] (.str "ringloads.names" 206)
noncomputable def f8(P:Params):List Obj:=[(Obj.mk (.type "tuple") none (.seq #[(.type "ValueError")] 0) #[]),
 (Obj.mk (.type "builtin_function_or_method") none (.fields #[(.builtin "type.__prepare__"),(.type "type")]) #[]),
 (Obj.mk (.type "dict") none (.dict #[(DictEntry.mk (kh P "__module__") (.str "__module__" 238) (.str "ringloads.errors" 229)),(DictEntry.mk (kh P "__qualname__") (.str "__qualname__" 240) (.str "LoadError" 239)),(DictEntry.mk (kh P "__firstlineno__") (.str "__firstlineno__" 242) (.int 18 241)),(DictEntry.mk (kh P "__init__") (.str "__init__" 250) (.ref 63)),(DictEntry.mk (kh P "__static_attributes__") (.str "__static_attributes__" 251) (.ref 64))] 5) #[]),
 (Obj.mk (.type "tuple") none (.seq #[] 0) #[]),
 (Obj.mk .none none (.fields #[(.int 20 0),(.int 4 0),(.ref 62)]) #[]),
 (Obj.mk (.type "code") none (.fields #[(.str "LoadError" 233),(.str "LoadError" 234),(.str "/claim/cut.py" 235),(.int 18 0),(.int 0 0),(.int 0 0),(.int 0 0),(.int 0 0),(.ref 53),(.bool false),(.int 181 0),(.ref 54),.none,.none,.none,.none,(.int 236 0),(.int 18 0),(.str "/claim/cut.py" 237)]) #[]),
 (Obj.mk (.type "frame") none .plain #[(some (.ref 55)),(some (.ref 3)),(some (.ref 52)),none,(some (.str "ringloads.errors" 229)),none,(some (.ref 0))]),
 (Obj.mk (.type "tuple") none (.seq #[] 0) #[]),
 (Obj.mk .none none (.fields #[]) #[]),
 (Obj.mk (.type "tuple") none (.seq #[(.str "self" 246),(.str "text" 247)] 0) #[]),
 (Obj.mk (.type "tuple") none (.seq #[] 0) #[]),
 (Obj.mk .none none (.func (fdOf (Jk (top 8) 0) "LoadError.__init__" 0 .none .none)) #[]),
 (Obj.mk (.type "code") none (.fields #[(.str "__init__" 243),(.str "LoadError.__init__" 244),(.str "/claim/cut.py" 245),(.int 20 0),(.int 2 0),(.int 0 0),(.int 0 0),(.int 3 0),(.ref 57),(.bool true),(.int 181 0),(.ref 58),.none,(.ref 59),(.ref 60),(.ref 61),(.int 248 0),(.int 20 0),(.str "/claim/cut.py" 249)]) #[]),
 (Obj.mk (.type "function") none (.func (fdOf (Jk (top 8) 0) "LoadError.__init__" 3 (.str "ringloads.errors" 229) (.ref 62))) #[]),
 (Obj.mk (.type "tuple") none (.seq #[] 0) #[]),
 (Obj.mk (.type "dict") none (.dict #[(DictEntry.mk (kh P "__module__") (.str "__module__" 238) (.str "ringloads.errors" 229)),(DictEntry.mk (kh P "__firstlineno__") (.str "__firstlineno__" 242) (.int 18 241)),(DictEntry.mk (kh P "__init__") (.str "__init__" 250) (.ref 63)),(DictEntry.mk (kh P "__static_attributes__") (.str "__static_attributes__" 251) (.ref 64)),(DictEntry.mk (kh P "__weakref__") (.str "__weakref__" 253) (.ref 67)),(DictEntry.mk (kh P "__doc__") (.str "__doc__" 254) .none)] 3) #[]),
 (Obj.mk (.type "type") none (.cls (PySem.ClassData.mk "LoadError" [(.type "ValueError")] [(.ref 66),(.type "ValueError"),(.type "Exception"),(.type "BaseException"),(.type "object")] 65 "LoadError" true [] [(.ref 79)] false none false)) #[(some (.ref 50)),none,(some (.str "LoadError" 231)),(some (.str "LoadError" 239)),(some (.builtin "ValueError.__new__")),(some (.bool true))]),
 (Obj.mk (.type "getset_descriptor") none (.fields #[(.str "__weakref__" 252),(.ref 66),(.builtin "ExceptionGroup.__weakref__"),.none]) #[]),
 (Obj.mk (.type "super") none (.fields #[(.ref 66),(.ref 66),(.ref 66)]) #[]),
 (Obj.mk (.type "builtin_function_or_method") none (.fields #[(.builtin "object.__init_subclass__"),(.ref 66)]) #[])]
noncomputable def f9(P:Params):List Obj:=[(Obj.mk (.type "tuple") none (.seq #[(.ref 66)] 0) #[]),
 (Obj.mk (.type "builtin_function_or_method") none (.fields #[(.builtin "type.__prepare__"),(.type "type")]) #[]),
 (Obj.mk (.type "dict") none (.dict #[(DictEntry.mk (kh P "__module__") (.str "__module__" 264) (.str "ringloads.errors" 229)),(DictEntry.mk (kh P "__qualname__") (.str "__qualname__" 266) (.str "NoNumber" 265)),(DictEntry.mk (kh P "__firstlineno__") (.str "__firstlineno__" 268) (.int 22 267)),(DictEntry.mk (kh P "__static_attributes__") (.str "__static_attributes__" 269) (.ref 77))] 4) #[]),
 (Obj.mk (.type "tuple") none (.seq #[] 0) #[]),
 (Obj.mk .none none (.fields #[]) #[]),
 (Obj.mk (.type "code") none (.fields #[(.str "NoNumber" 259),(.str "NoNumber" 260),(.str "/claim/cut.py" 261),(.int 22 0),(.int 0 0),(.int 0 0),(.int 0 0),(.int 0 0),(.ref 73),(.bool false),(.int 181 0),(.ref 74),.none,.none,.none,.none,(.int 262 0),(.int 22 0),(.str "/claim/cut.py" 263)]) #[]),
 (Obj.mk (.type "frame") none .plain #[(some (.ref 75)),(some (.ref 3)),(some (.ref 72)),none,(some (.str "ringloads.errors" 229)),none,(some (.ref 0))]),
 (Obj.mk (.type "tuple") none (.seq #[] 0) #[]),
 (Obj.mk (.type "dict") none (.dict #[(DictEntry.mk (kh P "__module__") (.str "__module__" 264) (.str "ringloads.errors" 229)),(DictEntry.mk (kh P "__firstlineno__") (.str "__firstlineno__" 268) (.int 22 267)),(DictEntry.mk (kh P "__static_attributes__") (.str "__static_attributes__" 269) (.ref 77)),(DictEntry.mk (kh P "__doc__") (.str "__doc__" 270) .none)] 2) #[]),
 (Obj.mk (.type "type") none (.cls (PySem.ClassData.mk "NoNumber" [(.ref 66)] [(.ref 79),(.ref 66),(.type "ValueError"),(.type "Exception"),(.type "BaseException"),(.type "object")] 78 "NoNumber" true [] [] false none false)) #[(some (.ref 70)),none,(some (.str "NoNumber" 257)),(some (.str "NoNumber" 265)),(some (.builtin "ValueError.__new__")),(some (.bool true))]),
 (Obj.mk (.type "super") none (.fields #[(.ref 79),(.ref 79),(.ref 79)]) #[]),
 (Obj.mk (.type "builtin_function_or_method") none (.fields #[(.builtin "object.__init_subclass__"),(.ref 79)]) #[])]
noncomputable def f11(P:Params):List Obj:=[(Obj.mk (.type "tuple") none (.seq #[(.int 0 275),(.int 1 276)] 0) #[])]
noncomputable def f12(P:Params):List Obj:=ba (top 12) 83 278 ["top","bottom","shared"] (.str "ringloads.ratios" 273)
noncomputable def f13(P:Params):List Obj:=ba (top 13) 90 287 ["top","bottom"] (.str "ringloads.ratios" 273)
noncomputable def f14(P:Params):List Obj:=ba (top 14) 97 295 ["one","other"] (.str "ringloads.ratios" 273)
noncomputable def f15(P:Params):List Obj:=ba (top 15) 104 303 ["one","other"] (.str "ringloads.ratios" 273)
noncomputable def f16(P:Params):List Obj:=ba (top 16) 111 311 ["one","other"] (.str "ringloads.ratios" 273)
noncomputable def f17(P:Params):List Obj:=ba (top 17) 118 319 ["one","other"] (.str "ringloads.ratios" 273)
noncomputable def f18(P:Params):List Obj:=ba (top 18) 125 327 ["one","other"] (.str "ringloads.ratios" 273)
noncomputable def f19(P:Params):List Obj:=ba (top 19) 132 335 ["some","whole","one"] (.str "ringloads.ratios" 273)
noncomputable def f21(P:Params):List Obj:=ba (top 21) 139 346 ["ring","thing"] (.str "ringloads.cuts" 344)
noncomputable def f22(P:Params):List Obj:=ba (top 22) 146 354 ["cut","place"] (.str "ringloads.cuts" 344)
noncomputable def f23(P:Params):List Obj:=ba (top 23) 153 362 ["cut","one","other"] (.str "ringloads.cuts" 344)
noncomputable def f24(P:Params):List Obj:=lW (top 24) 160 371 (.str "ringloads.cuts" 344)
noncomputable def f25(P:Params):List Obj:=ba (top 25) 165 377 ["ring","cut"] (.str "ringloads.cuts" 344)
noncomputable def f26(P:Params):List Obj:=ba (top 26) 172 385 ["ring","cut"] (.str "ringloads.cuts" 344)
noncomputable def f27(P:Params):List Obj:=lW (top 27) 179 393 (.str "ringloads.cuts" 344)
noncomputable def f28(P:Params):List Obj:=ba (top 28) 184 399 ["ring","found","cut","shown"] (.str "ringloads.cuts" 344)
noncomputable def f31(P:Params):List Obj:=lW (top 31) 191 413 (.str "ringloads.ways" 409)
noncomputable def f32(P:Params):List Obj:=ba (top 32) 196 419 ["ring","k","way","tie","places","one","other","lies_on"] (.str "ringloads.ways" 409)
noncomputable def f34(P:Params):List Obj:=ba (top 34) 203 435 ["ring","sending","k","tie"] (.str "ringloads.loads" 433)
noncomputable def f35(P:Params):List Obj:=lW (top 35) 210 445 (.str "ringloads.loads" 433)
noncomputable def f36(P:Params):List Obj:=lW (top 36) 215 451 (.str "ringloads.loads" 433)
noncomputable def f37(P:Params):List Obj:=lW (top 37) 220 457 (.str "ringloads.loads" 433)
noncomputable def f38(P:Params):List Obj:=ba (top 38) 225 463 ["ring","sending","strains","top","tie","strain"] (.str "ringloads.loads" 433)
noncomputable def f40(P:Params):List Obj:=lW (top 40) 232 477 (.str "ringloads.units" 475)
noncomputable def f41(P:Params):List Obj:=ba (top 41) 237 483 ["some","bottom","one"] (.str "ringloads.units" 475)
noncomputable def f42(P:Params):List Obj:=lW (top 42) 244 492 (.str "ringloads.units" 475)
noncomputable def f44(P:Params):List Obj:=ba (top 44) 249 500 ["ring","top","scale","waiting","free","sending","k","size","part"] (.str "ringloads.parting" 498)
noncomputable def f45(P:Params):List Obj:=ba (top 45) 256 515 ["ring","k","waiting","free","ties","twice","g","h"] (.str "ringloads.parting" 498)
noncomputable def f46(P:Params):List Obj:=lW (top 46) 263 529 (.str "ringloads.parting" 498)
noncomputable def f47(P:Params):List Obj:=lW (top 47) 268 535 (.str "ringloads.parting" 498)
noncomputable def f49(P:Params):List Obj:=ba (top 49) 273 543 ["ring","some","k","part"] (.str "ringloads.sendings" 541)
noncomputable def f50(P:Params):List Obj:=lW (top 50) 280 553 (.str "ringloads.sendings" 541)
noncomputable def f52(P:Params):List Obj:=ba (top 52) 285 561 ["ring","greatest"] (.str "ringloads.leasts" 559)
noncomputable def f53(P:Params):List Obj:=ba (top 53) 292 569 ["ring","thing"] (.str "ringloads.leasts" 559)
noncomputable def f54(P:Params):List Obj:=ba (top 54) 299 577 ["ring","thing","top"] (.str "ringloads.leasts" 559)
noncomputable def f55(P:Params):List Obj:=ba (top 55) 306 586 ["ring","thing","top"] (.str "ringloads.leasts" 559)
noncomputable def f57(P:Params):List Obj:=ba (top 57) 313 597 ["_law_script","_law_k","_law_cell"] (.str "law_ringloads_k23_least_tops_let_by" 595)
noncomputable def f58(P:Params):List Obj:=ba (top 58) 320 606 ["_law_state","_law_many","_law_digit","_law_drawn","_law_turn"] (.str "law_ringloads_k23_least_tops_let_by" 595)
noncomputable def f59(P:Params):List Obj:=ba (top 59) 327 617 ["_law_top_here","_law_bottom","_law_one","_law_share"] (.str "law_ringloads_k23_least_tops_let_by" 595)
noncomputable def f60(P:Params):List Obj:=ba (top 60) 334 627 ["_law_state","_law_least","_law_kind","_law_bottom","_law_top_here"] (.str "law_ringloads_k23_least_tops_let_by" 595)
noncomputable def f61(P:Params):List Obj:=lW (top 61) 341 638 (.str "law_ringloads_k23_least_tops_let_by" 595)
noncomputable def f62(P:Params):List Obj:=ba (top 62) 346 644 ["_law_state","_law_ties_here","_law_kind","_law_alike","_law_one","_law_rooms_here","_law_more"] (.str "law_ringloads_k23_least_tops_let_by" 595)
noncomputable def f63(P:Params):List Obj:=ba (top 63) 353 657 ["_law_state","_law_shape","_law_places","_law_k","_law_one","_law_other"] (.str "law_ringloads_k23_least_tops_let_by" 595)
noncomputable def f64(P:Params):List Obj:=ba (top 64) 360 669 ["_law_script","_law_at","_law_most","_law_count","_law_state","_law_places","_law_many","_law_kinds","_law_shape","_law_names_here","_law_rooms_here","_law_asks","_law_k","_law_one","_law_other"] (.str "law_ringloads_k23_least_tops_let_by" 595)
noncomputable def f65(P:Params):List Obj:=ba (top 65) 367 690 ["_law_state","_law_ring_here","_law_parts_here","_law_name","_law_one","_law_other","_law_size","_law_way","_law_share"] (.str "law_ringloads_k23_least_tops_let_by" 595)
noncomputable def f66(P:Params):List Obj:=ba (top 66) 374 705 ["_law_one","_law_other"] (.str "law_ringloads_k23_least_tops_let_by" 595)
noncomputable def f67(P:Params):List Obj:=ba (top 67) 381 713 ["_law_one","_law_other"] (.str "law_ringloads_k23_least_tops_let_by" 595)
noncomputable def f68(P:Params):List Obj:=ba (top 68) 388 721 ["_law_one","_law_other"] (.str "law_ringloads_k23_least_tops_let_by" 595)
noncomputable def f69(P:Params):List Obj:=ba (top 69) 395 729 ["_law_one","_law_other"] (.str "law_ringloads_k23_least_tops_let_by" 595)
noncomputable def f70(P:Params):List Obj:=ba (top 70) 402 737 ["_law_cut","_law_one","_law_other"] (.str "law_ringloads_k23_least_tops_let_by" 595)
noncomputable def f71(P:Params):List Obj:=ba (top 71) 409 746 ["_law_ring_here","_law_cut","_law_whole_here","_law_name","_law_one","_law_other","_law_size"] (.str "law_ringloads_k23_least_tops_let_by" 595)
noncomputable def f72(P:Params):List Obj:=ba (top 72) 416 759 ["_law_ring_here","_law_cut"] (.str "law_ringloads_k23_least_tops_let_by" 595)
noncomputable def f73(P:Params):List Obj:=ba (top 73) 423 767 ["_law_ring_here","_law_k","_law_name","_law_place","_law_other","_law_size","_law_made"] (.str "law_ringloads_k23_least_tops_let_by" 595)
noncomputable def f74(P:Params):List Obj:=lW (top 74) 430 780 (.str "law_ringloads_k23_least_tops_let_by" 595)
noncomputable def f75(P:Params):List Obj:=ba (top 75) 435 786 ["_law_ring_here","_law_parts_here","_law_best","_law_load","_law_room","_law_one"] (.str "law_ringloads_k23_least_tops_let_by" 595)
noncomputable def f76(P:Params):List Obj:=ba (top 76) 442 798 ["_law_thing"] (.str "law_ringloads_k23_least_tops_let_by" 595)
noncomputable def f77(P:Params):List Obj:=ba (top 77) 449 805 ["_law_thing"] (.str "law_ringloads_k23_least_tops_let_by" 595)
noncomputable def f78(P:Params):List Obj:=lW (top 78) 456 812 (.str "law_ringloads_k23_least_tops_let_by" 595)
noncomputable def f79(P:Params):List Obj:=ba (top 79) 461 818 ["_law_ring_here","_law_thing"] (.str "law_ringloads_k23_least_tops_let_by" 595)
noncomputable def f80(P:Params):List Obj:=ba (top 80) 468 826 ["_law_state","_law_ring_here","_law_parts_here","_law_odd","_law_way","_law_at"] (.str "law_ringloads_k23_least_tops_let_by" 595)
noncomputable def f81(P:Params):List Obj:=ba (top 81) 475 838 ["_law_state","_law_ring_here","_law_told","_law_top_here","_law_parts_here","_law_cut","_law_way"] (.str "law_ringloads_k23_least_tops_let_by" 595)
noncomputable def f82(P:Params):List Obj:=ba (top 82) 482 851 ["_law_ring_here","_law_thing","_law_top_here","_law_kept","_law_told"] (.str "law_ringloads_k23_least_tops_let_by" 595)
noncomputable def f83(P:Params):List Obj:=ba (top 83) 489 862 ["_law_script","_law_ring_here","_law_kept","_law_told","_law_k"] (.str "law_ringloads_k23_least_tops_let_by" 595)
noncomputable def J7(P:Params)(b:Nat):Obj:=(bif b.blt 43 then(bif b.blt 29 then(bif b.blt 22 then(f1 P).getD (b-15) default else(f2 P).getD (b-22) default)else(bif b.blt 36 then(f4 P).getD (b-29) default else(f5 P).getD (b-36) default))else(bif b.blt 70 then(bif b.blt 50 then(f6 P).getD (b-43) default else(f8 P).getD (b-50) default)else(bif b.blt 82 then(f9 P).getD (b-70) default else(f11 P).getD (b-82) default)))
noncomputable def J8(P:Params)(b:Nat):Obj:=(bif b.blt 111 then(bif b.blt 97 then(bif b.blt 90 then(f12 P).getD (b-83) default else(f13 P).getD (b-90) default)else(bif b.blt 104 then(f14 P).getD (b-97) default else(f15 P).getD (b-104) default))else(bif b.blt 125 then(bif b.blt 118 then(f16 P).getD (b-111) default else(f17 P).getD (b-118) default)else(bif b.blt 132 then(f18 P).getD (b-125) default else(bif b.blt 139 then(f19 P).getD (b-132) default else(f21 P).getD (b-139) default))))
noncomputable def obll(P:Params)(b:Nat):Obj:=bif b.blt 83 then J7 P b else J8 P b
noncomputable def J9(P:Params)(b:Nat):Obj:=(bif b.blt 172 then(bif b.blt 160 then(bif b.blt 153 then(f22 P).getD (b-146) default else(f23 P).getD (b-153) default)else(bif b.blt 165 then(f24 P).getD (b-160) default else(f25 P).getD (b-165) default))else(bif b.blt 184 then(bif b.blt 179 then(f26 P).getD (b-172) default else(f27 P).getD (b-179) default)else(bif b.blt 191 then(f28 P).getD (b-184) default else(bif b.blt 196 then(f31 P).getD (b-191) default else(f32 P).getD (b-196) default))))
noncomputable def Ka(P:Params)(b:Nat):Obj:=(bif b.blt 225 then(bif b.blt 215 then(bif b.blt 210 then(f34 P).getD (b-203) default else(f35 P).getD (b-210) default)else(bif b.blt 220 then(f36 P).getD (b-215) default else(f37 P).getD (b-220) default))else(bif b.blt 237 then(bif b.blt 232 then(f38 P).getD (b-225) default else(f40 P).getD (b-232) default)else(bif b.blt 244 then(f41 P).getD (b-237) default else(bif b.blt 249 then(f42 P).getD (b-244) default else(f44 P).getD (b-249) default))))
noncomputable def oblr(P:Params)(b:Nat):Obj:=bif b.blt 203 then J9 P b else Ka P b
noncomputable def obl(P:Params)(b:Nat):Obj:=bif b.blt 146 then obll P b else oblr P b
noncomputable def Kb(P:Params)(b:Nat):Obj:=(bif b.blt 280 then(bif b.blt 268 then(bif b.blt 263 then(f45 P).getD (b-256) default else(f46 P).getD (b-263) default)else(bif b.blt 273 then(f47 P).getD (b-268) default else(f49 P).getD (b-273) default))else(bif b.blt 292 then(bif b.blt 285 then(f50 P).getD (b-280) default else(f52 P).getD (b-285) default)else(bif b.blt 299 then(f53 P).getD (b-292) default else(bif b.blt 306 then(f54 P).getD (b-299) default else(f55 P).getD (b-306) default))))
noncomputable def Kc(P:Params)(b:Nat):Obj:=(bif b.blt 341 then(bif b.blt 327 then(bif b.blt 320 then(f57 P).getD (b-313) default else(f58 P).getD (b-320) default)else(bif b.blt 334 then(f59 P).getD (b-327) default else(f60 P).getD (b-334) default))else(bif b.blt 353 then(bif b.blt 346 then(f61 P).getD (b-341) default else(f62 P).getD (b-346) default)else(bif b.blt 360 then(f63 P).getD (b-353) default else(bif b.blt 367 then(f64 P).getD (b-360) default else(f65 P).getD (b-367) default))))
noncomputable def obrl(P:Params)(b:Nat):Obj:=bif b.blt 313 then Kb P b else Kc P b
noncomputable def Kd(P:Params)(b:Nat):Obj:=(bif b.blt 402 then(bif b.blt 388 then(bif b.blt 381 then(f66 P).getD (b-374) default else(f67 P).getD (b-381) default)else(bif b.blt 395 then(f68 P).getD (b-388) default else(f69 P).getD (b-395) default))else(bif b.blt 416 then(bif b.blt 409 then(f70 P).getD (b-402) default else(f71 P).getD (b-409) default)else(bif b.blt 423 then(f72 P).getD (b-416) default else(bif b.blt 430 then(f73 P).getD (b-423) default else(f74 P).getD (b-430) default))))
noncomputable def Ke(P:Params)(b:Nat):Obj:=(bif b.blt 461 then(bif b.blt 449 then(bif b.blt 442 then(f75 P).getD (b-435) default else(f76 P).getD (b-442) default)else(bif b.blt 456 then(f77 P).getD (b-449) default else(f78 P).getD (b-456) default))else(bif b.blt 475 then(bif b.blt 468 then(f79 P).getD (b-461) default else(f80 P).getD (b-468) default)else(bif b.blt 482 then(f81 P).getD (b-475) default else(bif b.blt 489 then(f82 P).getD (b-482) default else(f83 P).getD (b-489) default))))
noncomputable def obrr(P:Params)(b:Nat):Obj:=bif b.blt 435 then Kd P b else Ke P b
noncomputable def obr(P:Params)(b:Nat):Obj:=bif b.blt 374 then obrl P b else obrr P b
noncomputable def ob(P:Params)(b:Nat):Obj:=bif b.blt 256 then obl P b else obr P b
noncomputable def ents(P:Params):List DictEntry:=[(DictEntry.mk (kh P "greatest_shared") (.str "greatest_shared" 197) (.ref 21)),
 (DictEntry.mk (kh P "least_common") (.str "least_common" 205) (.ref 28)),
 (DictEntry.mk (kh P "is_whole") (.str "is_whole" 214) (.ref 35)),
 (DictEntry.mk (kh P "are_two_wholes") (.str "are_two_wholes" 221) (.ref 42)),
 (DictEntry.mk (kh P "is_ratio") (.str "is_ratio" 228) (.ref 49)),
 (DictEntry.mk (kh P "LoadError") (.str "LoadError" 256) (.ref 66)),
 (DictEntry.mk (kh P "NoNumber") (.str "NoNumber" 272) (.ref 79)),
 (DictEntry.mk (kh P "NOUGHT") (.str "NOUGHT" 277) (.ref 82)),
 (DictEntry.mk (kh P "lowest") (.str "lowest" 286) (.ref 89)),
 (DictEntry.mk (kh P "ratio") (.str "ratio" 294) (.ref 96)),
 (DictEntry.mk (kh P "plus") (.str "plus" 302) (.ref 103)),
 (DictEntry.mk (kh P "minus") (.str "minus" 310) (.ref 110)),
 (DictEntry.mk (kh P "times") (.str "times" 318) (.ref 117)),
 (DictEntry.mk (kh P "over") (.str "over" 326) (.ref 124)),
 (DictEntry.mk (kh P "under") (.str "under" 334) (.ref 131)),
 (DictEntry.mk (kh P "sum_of") (.str "sum_of" 343) (.ref 138)),
 (DictEntry.mk (kh P "is_cut") (.str "is_cut" 353) (.ref 145)),
 (DictEntry.mk (kh P "is_within") (.str "is_within" 361) (.ref 152)),
 (DictEntry.mk (kh P "parts_places") (.str "parts_places" 370) (.ref 159)),
 (DictEntry.mk (kh P "across") (.str "across" 376) (.ref 164)),
 (DictEntry.mk (kh P "rooms_of") (.str "rooms_of" 384) (.ref 171)),
 (DictEntry.mk (kh P "shown_by") (.str "shown_by" 392) (.ref 178)),
 (DictEntry.mk (kh P "all_cuts") (.str "all_cuts" 398) (.ref 183)),
 (DictEntry.mk (kh P "greatest_cut") (.str "greatest_cut" 408) (.ref 190)),
 (DictEntry.mk (kh P "ON") (.str "ON" 412) (.str "on" 411)),
 (DictEntry.mk (kh P "ties_of") (.str "ties_of" 418) (.ref 195)),
 (DictEntry.mk (kh P "is_over") (.str "is_over" 432) (.ref 202)),
 (DictEntry.mk (kh P "sent_over") (.str "sent_over" 444) (.ref 209)),
 (DictEntry.mk (kh P "load_of") (.str "load_of" 450) (.ref 214)),
 (DictEntry.mk (kh P "loads_of") (.str "loads_of" 456) (.ref 219)),
 (DictEntry.mk (kh P "strains_of") (.str "strains_of" 462) (.ref 224)),
 (DictEntry.mk (kh P "top_of") (.str "top_of" 474) (.ref 231)),
 (DictEntry.mk (kh P "weighed") (.str "weighed" 482) (.ref 236)),
 (DictEntry.mk (kh P "common_bottom") (.str "common_bottom" 491) (.ref 243)),
 (DictEntry.mk (kh P "in_units") (.str "in_units" 497) (.ref 248)),
 (DictEntry.mk (kh P "sent_one_by_one") (.str "sent_one_by_one" 514) (.ref 255)),
 (DictEntry.mk (kh P "most_on") (.str "most_on" 528) (.ref 262)),
 (DictEntry.mk (kh P "still_across") (.str "still_across" 534) (.ref 267)),
 (DictEntry.mk (kh P "left_free") (.str "left_free" 540) (.ref 272)),
 (DictEntry.mk (kh P "first_wrong_part") (.str "first_wrong_part" 552) (.ref 279)),
 (DictEntry.mk (kh P "is_sending") (.str "is_sending" 558) (.ref 284)),
 (DictEntry.mk (kh P "least_top") (.str "least_top" 568) (.ref 291)),
 (DictEntry.mk (kh P "lets_least") (.str "lets_least" 576) (.ref 298)),
 (DictEntry.mk (kh P "has_top") (.str "has_top" 585) (.ref 305)),
 (DictEntry.mk (kh P "shows_top") (.str "shows_top" 594) (.ref 312)),
 (DictEntry.mk (kh P "_law_begun") (.str "_law_begun" 605) (.ref 319)),
 (DictEntry.mk (kh P "_law_take") (.str "_law_take" 616) (.ref 326)),
 (DictEntry.mk (kh P "_law_low") (.str "_law_low" 626) (.ref 333)),
 (DictEntry.mk (kh P "_law_amount") (.str "_law_amount" 637) (.ref 340)),
 (DictEntry.mk (kh P "_law_names") (.str "_law_names" 643) (.ref 345)),
 (DictEntry.mk (kh P "_law_rooms") (.str "_law_rooms" 656) (.ref 352)),
 (DictEntry.mk (kh P "_law_ends") (.str "_law_ends" 668) (.ref 359)),
 (DictEntry.mk (kh P "_law_ring") (.str "_law_ring" 689) (.ref 366)),
 (DictEntry.mk (kh P "_law_parts") (.str "_law_parts" 704) (.ref 373)),
 (DictEntry.mk (kh P "_law_plus") (.str "_law_plus" 712) (.ref 380)),
 (DictEntry.mk (kh P "_law_minus") (.str "_law_minus" 720) (.ref 387)),
 (DictEntry.mk (kh P "_law_over") (.str "_law_over" 728) (.ref 394)),
 (DictEntry.mk (kh P "_law_under") (.str "_law_under" 736) (.ref 401)),
 (DictEntry.mk (kh P "_law_apart") (.str "_law_apart" 745) (.ref 408)),
 (DictEntry.mk (kh P "_law_across") (.str "_law_across" 758) (.ref 415)),
 (DictEntry.mk (kh P "_law_shown") (.str "_law_shown" 766) (.ref 422)),
 (DictEntry.mk (kh P "_law_ties") (.str "_law_ties" 779) (.ref 429)),
 (DictEntry.mk (kh P "_law_loads") (.str "_law_loads" 785) (.ref 434)),
 (DictEntry.mk (kh P "_law_top") (.str "_law_top" 797) (.ref 441)),
 (DictEntry.mk (kh P "_law_whole") (.str "_law_whole" 804) (.ref 448)),
 (DictEntry.mk (kh P "_law_ratio") (.str "_law_ratio" 811) (.ref 455)),
 (DictEntry.mk (kh P "_law_is_sending") (.str "_law_is_sending" 817) (.ref 460)),
 (DictEntry.mk (kh P "_law_due") (.str "_law_due" 825) (.ref 467)),
 (DictEntry.mk (kh P "_law_bent_parts") (.str "_law_bent_parts" 837) (.ref 474)),
 (DictEntry.mk (kh P "_law_bent") (.str "_law_bent" 850) (.ref 481)),
 (DictEntry.mk (kh P "_law_right") (.str "_law_right" 861) (.ref 488)),
 (DictEntry.mk (kh P "law") (.str "law" 872) (.ref 495))]
noncomputable def plc:List Value:=[(.int 2 0),(.int 0 0),(.ref 20),(.int 8 0),(.int 0 0),(.ref 27),(.int 11 0),(.int 0 0),(.ref 34),(.int 13 0),(.int 0 0),(.ref 41),(.int 15 0),(.int 0 0),(.ref 48),(.int 18 0),(.int 0 0),(.ref 55),(.int 22 0),(.int 0 0),(.ref 75),(.int 26 0),(.int 0 0),(.ref 88),(.int 31 0),(.int 0 0),(.ref 95),(.int 35 0),(.int 0 0),(.ref 102),(.int 37 0),(.int 0 0),(.ref 109),(.int 39 0),(.int 0 0),(.ref 116),(.int 41 0),(.int 0 0),(.ref 123),(.int 45 0),(.int 0 0),(.ref 130),(.int 47 0),(.int 0 0),(.ref 137),(.int 53 0),(.int 0 0),(.ref 144),(.int 55 0),(.int 0 0),(.ref 151),(.int 57 0),(.int 0 0),(.ref 158),(.int 59 0),(.int 0 0),(.ref 163),(.int 61 0),(.int 0 0),(.ref 170),(.int 63 0),(.int 0 0),(.ref 177),(.int 65 0),(.int 0 0),(.ref 182),(.int 70 0),(.int 0 0),(.ref 189),(.int 79 0),(.int 0 0),(.ref 194),(.int 86 0),(.int 0 0),(.ref 201),(.int 93 0),(.int 0 0),(.ref 208),(.int 97 0),(.int 0 0),(.ref 213),(.int 99 0),(.int 0 0),(.ref 218),(.int 101 0),(.int 0 0),(.ref 223),(.int 103 0),(.int 0 0),(.ref 230),(.int 111 0),(.int 0 0),(.ref 235),(.int 116 0),(.int 0 0),(.ref 242),(.int 121 0),(.int 0 0),(.ref 247),(.int 124 0),(.int 0 0),(.ref 254),(.int 134 0),(.int 0 0),(.ref 261),(.int 142 0),(.int 0 0),(.ref 266),(.int 145 0),(.int 0 0),(.ref 271),(.int 148 0),(.int 0 0),(.ref 278),(.int 153 0),(.int 0 0),(.ref 283),(.int 158 0),(.int 0 0),(.ref 290),(.int 161 0),(.int 0 0),(.ref 297),(.int 165 0),(.int 0 0),(.ref 304),(.int 167 0),(.int 0 0),(.ref 311),(.int 170 0),(.int 0 0),(.ref 318),(.int 175 0),(.int 0 0),(.ref 325),(.int 186 0),(.int 0 0),(.ref 332),(.int 194 0),(.int 0 0),(.ref 339),(.int 198 0),(.int 0 0),(.ref 344),(.int 204 0),(.int 0 0),(.ref 351),(.int 214 0),(.int 0 0),(.ref 358),(.int 224 0),(.int 0 0),(.ref 365),(.int 238 0),(.int 0 0),(.ref 372),(.int 245 0),(.int 0 0),(.ref 379),(.int 247 0),(.int 0 0),(.ref 386),(.int 249 0),(.int 0 0),(.ref 393),(.int 251 0),(.int 0 0),(.ref 400),(.int 253 0),(.int 0 0),(.ref 407),(.int 255 0),(.int 0 0),(.ref 414),(.int 261 0),(.int 0 0),(.ref 421),(.int 263 0),(.int 0 0),(.ref 428),(.int 270 0),(.int 0 0),(.ref 433),(.int 278 0),(.int 0 0),(.ref 440),(.int 285 0),(.int 0 0),(.ref 447),(.int 287 0),(.int 0 0),(.ref 454),(.int 291 0),(.int 0 0),(.ref 459),(.int 300 0),(.int 0 0),(.ref 466),(.int 310 0),(.int 0 0),(.ref 473),(.int 325 0),(.int 0 0),(.ref 480),(.int 341 0),(.int 0 0),(.ref 487),(.int 347 0),(.int 0 0),(.ref 494)]
noncomputable def ov0(P:Params):List (Nat×Obj):=[(12,fldO (plc.take 0))]
noncomputable def T0(P:Params):BT:=L12 15 (fun b=>obAt [12] P (ov0 P) ob b 0) 1 0 0
noncomputable abbrev S0(w:World)(os:OsState):SharedT:=⟨T0 w.params,15,pL,#[],⟨0,0,0,0⟩,187,os⟩
noncomputable def ov1(P:Params):List (Nat×Obj):=[(3,xP P (.str "ringloads.errors" 229) ((ents P).take 6) 15),(12,fldO (plc.take 18)),(66,(Obj.mk (.type "type") none (.cls (PySem.ClassData.mk "LoadError" [(.type "ValueError")] [(.ref 66),(.type "ValueError"),(.type "Exception"),(.type "BaseException"),(.type "object")] 65 "LoadError" true [] [] false none false)) #[(some (.ref 50)),none,(some (.str "LoadError" 231)),(some (.str "LoadError" 239)),(some (.builtin "ValueError.__new__")),(some (.bool true))]))]
noncomputable def T1(P:Params):BT:=L12 70 (fun b=>obAt [3,12,66] P (ov1 P) ob b 1) 1 0 1
noncomputable abbrev S1(w:World)(os:OsState):SharedT:=⟨T1 w.params,70,pL,#[],⟨0,0,0,0⟩,257,os⟩
noncomputable def ov2(P:Params):List (Nat×Obj):=[(3,xP P (.str "ringloads.ratios" 273) ((ents P).take 13) 22),(12,fldO (plc.take 36))]
noncomputable def T2(P:Params):BT:=L12 118 (fun b=>obAt [3,12] P (ov2 P) ob b 2) 1 0 2
noncomputable abbrev S2(w:World)(os:OsState):SharedT:=⟨T2 w.params,118,pL,#[],⟨0,0,0,0⟩,319,os⟩
noncomputable def ov3(P:Params):List (Nat×Obj):=[(3,xP P (.str "ringloads.ways" 409) ((ents P).take 26) 35),(12,fldO (plc.take 72))]
noncomputable def T3(P:Params):BT:=L12 196 (fun b=>obAt [3,12] P (ov3 P) ob b 3) 1 0 3
noncomputable abbrev S3(w:World)(os:OsState):SharedT:=⟨T3 w.params,196,pL,#[],⟨0,0,0,0⟩,419,os⟩
noncomputable def ov4(P:Params):List (Nat×Obj):=[(3,xP P (.str "ringloads.parting" 498) ((ents P).take 38) 47),(12,fldO (plc.take 108))]
noncomputable def T4(P:Params):BT:=L12 268 (fun b=>obAt [3,12] P (ov4 P) ob b 4) 1 0 4
noncomputable abbrev S4(w:World)(os:OsState):SharedT:=⟨T4 w.params,268,pL,#[],⟨0,0,0,0⟩,535,os⟩
noncomputable def ov5(P:Params):List (Nat×Obj):=[(3,xP P (.str "law_ringloads_k23_least_tops_let_by" 595) ((ents P).take 50) 59),(12,fldO (plc.take 144))]
noncomputable def T5(P:Params):BT:=L12 346 (fun b=>obAt [3,12] P (ov5 P) ob b 5) 1 0 5
noncomputable abbrev S5(w:World)(os:OsState):SharedT:=⟨T5 w.params,346,pL,#[],⟨0,0,0,0⟩,644,os⟩
noncomputable def ov6(P:Params):List (Nat×Obj):=[(3,xP P (.str "law_ringloads_k23_least_tops_let_by" 595) ((ents P).take 62) 71),(12,fldO (plc.take 180))]
noncomputable def T6(P:Params):BT:=L12 430 (fun b=>obAt [3,12] P (ov6 P) ob b 6) 1 0 6
noncomputable abbrev S6(w:World)(os:OsState):SharedT:=⟨T6 w.params,430,pL,#[],⟨0,0,0,0⟩,780,os⟩
noncomputable def ov7(P:Params):List (Nat×Obj):=[(3,xP P (.str "law_ringloads_k23_least_tops_let_by" 595) ((ents P).take 72) 81),(12,fldO (plc.take 210))]
noncomputable def T7(P:Params):BT:=L12 496 (fun b=>obAt [3,12] P (ov7 P) ob b 7) 1 0 7
noncomputable abbrev S7(w:World)(os:OsState):SharedT:=⟨T7 w.params,496,pL,#[],⟨0,0,0,0⟩,873,os⟩
abbrev env:Env:={scope:=pr.main.scope,locals:=mainNs,globals:=mainNs,cells:=[],code:=.ref 13,frame:=some 14}
abbrev cE:Code:=.body (behindTheImports pr) env
abbrev B:List Frame:=[topFrame ⟨0,0,0,0⟩]
def sts1:List Stmt:=(pr.main.body.drop 0).take 9
theorem pc1(w:World)(os:OsState):segRunT treeTable pr w 11 (some (.ref 6)) 1 393 (S0 w os) (piecesOf sts1 env cE ⟨0,0,0,0⟩ B)=some (.next,S1 w os,cE,⟨18,0,21,39⟩):=pM (by kernel_rfl)
def sts2:List Stmt:=(pr.main.body.drop 9).take 8
theorem pc2(w:World)(os:OsState):segRunT treeTable pr w 11 (some (.ref 6)) 1 386 (S1 w os) (piecesOf sts2 env cE ⟨18,0,21,39⟩ B)=some (.next,S2 w os,cE,⟨39,0,40,55⟩):=pM (by kernel_rfl)
def sts3:List Stmt:=(pr.main.body.drop 17).take 15
theorem pc3(w:World)(os:OsState):segRunT treeTable pr w 11 (some (.ref 6)) 1 380 (S2 w os) (piecesOf sts3 env cE ⟨39,0,40,55⟩ B)=some (.next,S3 w os,cE,⟨79,0,85,80⟩):=pM (by kernel_rfl)
def sts4:List Stmt:=(pr.main.body.drop 32).take 15
theorem pc4(w:World)(os:OsState):segRunT treeTable pr w 11 (some (.ref 6)) 1 390 (S3 w os) (piecesOf sts4 env cE ⟨79,0,85,80⟩ B)=some (.next,S4 w os,cE,⟨142,0,144,106⟩):=pM (by kernel_rfl)
def sts5:List Stmt:=(pr.main.body.drop 47).take 15
theorem pc5(w:World)(os:OsState):segRunT treeTable pr w 11 (some (.ref 6)) 1 389 (S4 w os) (piecesOf sts5 env cE ⟨142,0,144,106⟩ B)=some (.next,S5 w os,cE,⟨198,0,203,131⟩):=pM (by kernel_rfl)
def sts6:List Stmt:=(pr.main.body.drop 62).take 12
theorem pc6(w:World)(os:OsState):segRunT treeTable pr w 11 (some (.ref 6)) 1 401 (S5 w os) (piecesOf sts6 env cE ⟨198,0,203,131⟩ B)=some (.next,S6 w os,cE,⟨263,0,269,20⟩):=pM (by kernel_rfl)
def sts7:List Stmt:=(pr.main.body.drop 74).take 10
theorem pc7(w:World)(os:OsState):segRunT treeTable pr w 11 (some (.ref 6)) 1 310 (S6 w os) (piecesOf sts7 env cE ⟨263,0,269,20⟩ B)=some (.next,S7 w os,cE,⟨347,0,356,44⟩):=pM (by kernel_rfl)
noncomputable abbrev H1(P:Params):Heap:=absHeap (T7 P) 496 pL
theorem pre(w:World)(os:OsState):topGo treeTable pr w 11 (some (.ref 6)) 12 ⟨boot_heap w.params,#[],boot_drawn,boot_toks,os⟩ (topStub pr)=some (⟨⟨⟨Hh w.params⟩,pL⟩,#[],⟨0,0,0,0⟩,187,os⟩,⟨denote treeTable cE,cE,⟨0,0,0,0⟩,B⟩):=by rw[Jq];exact J6 (by kernel_rfl)
theorem FI(w:World)(os:OsState):segRun treeTable pr w 11 (some (.ref 6)) 1 1 ⟨⟨⟨Hh w.params⟩,pL⟩,#[],⟨0,0,0,0⟩,187,os⟩ (blockOf (behindTheImports pr) env cE ⟨0,0,0,0⟩ B)=some (.next,(S0 w os).abs,cE,⟨0,0,0,0⟩):=by kernel_rfl
theorem fin(w:World)(os:OsState):topRun treeTable pr w 11 (some (.ref 6)) 2 (S7 w os).abs ⟨doneF .next,cE,⟨347,0,356,44⟩,B⟩=some ⟨H1 w.params,#[],⟨0,0,0,0⟩,873,os⟩:=Jp (by kernel_rfl)
theorem Hj:behindTheImports pr=(sts1++(sts2++(sts3++(sts4++(sts5++(sts6++(sts7++[]))))))):=by kernel_rfl
theorem run(w:World)(os:OsState):topRun treeTable pr w 11 (some (.ref 6)) (12+(1+(393+(386+(380+(390+(389+(401+(310+2))))))))) ⟨boot_heap w.params,#[],boot_drawn,boot_toks,os⟩ (topStub pr)=some ⟨H1 w.params,#[],⟨0,0,0,0⟩,873,os⟩ :=
 go_top (pre w os) (piece_block (FI w os) (Hi Hj (piece_app (segRun_of (pc1 w os)) (piece_app (segRun_of (pc2 w os)) (piece_app (segRun_of (pc3 w os)) (piece_app (segRun_of (pc4 w os)) (piece_app (segRun_of (pc5 w os)) (piece_app (segRun_of (pc6 w os)) (piece_app (segRun_of (pc7 w os)) (piece_nil (fin w os)))))))))))
abbrev q:Program:=view pr [83]
noncomputable def loose:List Str:=(["greatest_shared","least_common","is_whole","are_two_wholes","is_ratio","LoadError","NoNumber","NOUGHT","lowest","ratio","plus","minus","times","over","under","sum_of","is_cut","is_within","parts_places","across","rooms_of","shown_by","all_cuts","greatest_cut","ON","ties_of","is_over","sent_over","load_of","loads_of","strains_of","top_of","weighed","common_bottom","in_units","sent_one_by_one","most_on","still_across","left_free","first_wrong_part","is_sending","least_top","lets_least","has_top","shows_top","_law_begun","_law_take","_law_low","_law_amount","_law_names","_law_rooms","_law_ends","_law_ring","_law_parts","_law_plus","_law_minus","_law_over","_law_under","_law_apart","_law_across","_law_shown","_law_ties","_law_loads","_law_top","_law_whole","_law_ratio","_law_is_sending","_law_due","_law_bent_parts","_law_bent","_law_right"]:List String).map Str.ofString
noncomputable def Kf(P:Params):Frag:=(3,((ov7 P).getD 0 (0,default)).2)::[(20,(f1 P).getD 5 default),(21,(f1 P).getD 6 default),(27,(f2 P).getD 5 default),(28,(f2 P).getD 6 default),(34,(f4 P).getD 5 default),(35,(f4 P).getD 6 default),(41,(f5 P).getD 5 default),(42,(f5 P).getD 6 default),(48,(f6 P).getD 5 default),(49,(f6 P).getD 6 default),(50,(f8 P).getD 0 default),(51,(f8 P).getD 1 default),(52,(f8 P).getD 2 default),(53,(f8 P).getD 3 default),(54,(f8 P).getD 4 default),(55,(f8 P).getD 5 default),(56,(f8 P).getD 6 default),(57,(f8 P).getD 7 default),(58,(f8 P).getD 8 default),(59,(f8 P).getD 9 default),(60,(f8 P).getD 10 default),(61,(f8 P).getD 11 default),(62,(f8 P).getD 12 default),(63,(f8 P).getD 13 default),(64,(f8 P).getD 14 default),(65,(f8 P).getD 15 default),(66,(f8 P).getD 16 default),(67,(f8 P).getD 17 default),(68,(f8 P).getD 18 default),(69,(f8 P).getD 19 default),(70,(f9 P).getD 0 default),(71,(f9 P).getD 1 default),(72,(f9 P).getD 2 default),(73,(f9 P).getD 3 default),(74,(f9 P).getD 4 default),(75,(f9 P).getD 5 default),(76,(f9 P).getD 6 default),(77,(f9 P).getD 7 default),(78,(f9 P).getD 8 default),(79,(f9 P).getD 9 default),(80,(f9 P).getD 10 default),(81,(f9 P).getD 11 default),(82,(f11 P).getD 0 default),(88,(f12 P).getD 5 default),(89,(f12 P).getD 6 default),(95,(f13 P).getD 5 default),(96,(f13 P).getD 6 default),(102,(f14 P).getD 5 default),(103,(f14 P).getD 6 default),(109,(f15 P).getD 5 default),(110,(f15 P).getD 6 default),(116,(f16 P).getD 5 default),(117,(f16 P).getD 6 default),(123,(f17 P).getD 5 default),(124,(f17 P).getD 6 default),(130,(f18 P).getD 5 default),(131,(f18 P).getD 6 default),(137,(f19 P).getD 5 default),(138,(f19 P).getD 6 default),(144,(f21 P).getD 5 default),(145,(f21 P).getD 6 default),(151,(f22 P).getD 5 default),(152,(f22 P).getD 6 default),(158,(f23 P).getD 5 default),(159,(f23 P).getD 6 default),(163,(f24 P).getD 3 default),(164,(f24 P).getD 4 default),(170,(f25 P).getD 5 default),(171,(f25 P).getD 6 default),(177,(f26 P).getD 5 default),(178,(f26 P).getD 6 default),(182,(f27 P).getD 3 default),(183,(f27 P).getD 4 default),(189,(f28 P).getD 5 default),(190,(f28 P).getD 6 default),(194,(f31 P).getD 3 default),(195,(f31 P).getD 4 default),(201,(f32 P).getD 5 default),(202,(f32 P).getD 6 default),(208,(f34 P).getD 5 default),(209,(f34 P).getD 6 default),(213,(f35 P).getD 3 default),(214,(f35 P).getD 4 default),(218,(f36 P).getD 3 default),(219,(f36 P).getD 4 default),(223,(f37 P).getD 3 default),(224,(f37 P).getD 4 default),(230,(f38 P).getD 5 default),(231,(f38 P).getD 6 default),(235,(f40 P).getD 3 default),(236,(f40 P).getD 4 default),(242,(f41 P).getD 5 default),(243,(f41 P).getD 6 default),(247,(f42 P).getD 3 default),(248,(f42 P).getD 4 default),(254,(f44 P).getD 5 default),(255,(f44 P).getD 6 default),(261,(f45 P).getD 5 default),(262,(f45 P).getD 6 default),(266,(f46 P).getD 3 default),(267,(f46 P).getD 4 default),(271,(f47 P).getD 3 default),(272,(f47 P).getD 4 default),(278,(f49 P).getD 5 default),(279,(f49 P).getD 6 default),(283,(f50 P).getD 3 default),(284,(f50 P).getD 4 default),(290,(f52 P).getD 5 default),(291,(f52 P).getD 6 default),(297,(f53 P).getD 5 default),(298,(f53 P).getD 6 default),(304,(f54 P).getD 5 default),(305,(f54 P).getD 6 default),(311,(f55 P).getD 5 default),(312,(f55 P).getD 6 default),(318,(f57 P).getD 5 default),(319,(f57 P).getD 6 default),(325,(f58 P).getD 5 default),(326,(f58 P).getD 6 default),(332,(f59 P).getD 5 default),(333,(f59 P).getD 6 default),(339,(f60 P).getD 5 default),(340,(f60 P).getD 6 default),(344,(f61 P).getD 3 default),(345,(f61 P).getD 4 default),(351,(f62 P).getD 5 default),(352,(f62 P).getD 6 default),(358,(f63 P).getD 5 default),(359,(f63 P).getD 6 default),(365,(f64 P).getD 5 default),(366,(f64 P).getD 6 default),(372,(f65 P).getD 5 default),(373,(f65 P).getD 6 default),(379,(f66 P).getD 5 default),(380,(f66 P).getD 6 default),(386,(f67 P).getD 5 default),(387,(f67 P).getD 6 default),(393,(f68 P).getD 5 default),(394,(f68 P).getD 6 default),(400,(f69 P).getD 5 default),(401,(f69 P).getD 6 default),(407,(f70 P).getD 5 default),(408,(f70 P).getD 6 default),(414,(f71 P).getD 5 default),(415,(f71 P).getD 6 default),(421,(f72 P).getD 5 default),(422,(f72 P).getD 6 default),(428,(f73 P).getD 5 default),(429,(f73 P).getD 6 default),(433,(f74 P).getD 3 default),(434,(f74 P).getD 4 default),(440,(f75 P).getD 5 default),(441,(f75 P).getD 6 default),(447,(f76 P).getD 5 default),(448,(f76 P).getD 6 default),(454,(f77 P).getD 5 default),(455,(f77 P).getD 6 default),(459,(f78 P).getD 3 default),(460,(f78 P).getD 4 default),(466,(f79 P).getD 5 default),(467,(f79 P).getD 6 default),(473,(f80 P).getD 5 default),(474,(f80 P).getD 6 default),(480,(f81 P).getD 5 default),(481,(f81 P).getD 6 default),(487,(f82 P).getD 5 default),(488,(f82 P).getD 6 default),(494,(f83 P).getD 5 default),(495,(f83 P).getD 6 default)]
noncomputable abbrev as:List Addr:=[3,20,21,27,28,34,35,41,42,48,49,50,51,52,53,54,55,56,57,58,59,60,61,62,63,64,65,66,67,68,69,70,71,72,73,74,75,76,77,78,79,80,81,82,88,89,95,96,102,103,109,110,116,117,123,124,130,131,137,138,144,145,151,152,158,159,163,164,170,171,177,178,182,183,189,190,194,195,201,202,208,209,213,214,218,219,223,224,230,231,235,236,242,243,247,248,254,255,261,262,266,267,271,272,278,279,283,284,290,291,297,298,304,305,311,312,318,319,325,326,332,333,339,340,344,345,351,352,358,359,365,366,372,373,379,380,386,387,393,394,400,401,407,408,414,415,421,422,428,429,433,434,440,441,447,448,454,455,459,460,466,467,473,474,480,481,487,488,494,495]
noncomputable abbrev Hk:Hook:=kHook Kf as (fun _=>by kernel_rfl)
abbrev Xt:Shared→Bool:=fun s=>xlAt q [] s && recOk (RowW.records PySem.Challenge.rw_ringloads_k23_least_tops_let_by.row.toRowW) s
theorem size (w:World):((boot_heap w.params).isNs mainGlobals && (#[]:Array GenState).size == 0,(boot_heap w.params).objs.size,(boot_heap w.params).nsMap mainGlobals "__annotations__")=(true,11,some (.ref 6)):=by kernel_rfl
theorem Kg(w:World)(os:OsState):(staticsOk (importedModules pr.main.body) (boot_heap w.params) (H1 w.params) && namesBound pr (H1 w.params) && gensDone ⟨H1 w.params,#[],⟨0,0,0,0⟩,873,os⟩ && laidKept (boot_heap w.params) (H1 w.params))=true:=by kernel_rfl
theorem Kh(w:World)(os:OsState):openSeen q loose (importedModules pr.main.body) Xt true ⟨H1 w.params,#[],⟨0,0,0,0⟩,873,os⟩=openGood q loose:=by rw[Fast.te4187177175401517315];kernel_rfl
theorem Ki(w:World)(os:OsState):Hk.obs ⟨H1 w.params,#[],⟨0,0,0,0⟩,873,os⟩=Hk.val w:=by kernel_rfl
theorem Jr:opening pr=plainProg pr.main.scope.names:=by kernel_rfl
theorem left:LeftO pr q loose Xt Hk.obs Hk.val 5984:=LeftO.of_pieces (M:=(12+(1+(393+(386+(380+(390+(389+(401+(310+2)))))))))) (boot_open Jr (by decide) (fun s=>by kernel_rfl)) size run (by decide +kernel) (fun w=>funext fun os=>looks_pair (Kg w os) (looks_pair (Kh w os) (Ki w os)))
end Hd
namespace My
open PySem L2
local macro_rules | `(tactic| walk_at "w")=>do
 let ids:=("DW GK DX DO BH GG Ij Dw F6 Ik Dx F7 DH Iz Gn GA GL DY IG JR GB IH JS GD JT GE Ih Ii Dv Bb Gx IF DN Gy BF Aa DQ DT DU w7 nL wSeq wIf aN wBin wUn wVar jS wC wSet wRet uX bu aD a5 aO aVal aVar aNil toD toDs oe isBl wTup wLst wNot wOr jT wOrV Bc wIfE wFrz fZ wIxV zX DG wApp noL noLs eN DP Gz BG List.all_cons List.all_nil Bool.and_true Bool.true_and wExt ownV wPar Bp wFor lG Bh wSrc z9 wZip zipK Gv nK xg xh Ab aY BV BW D8 gu bK JU BN fm aZ mL dZ zT opLt opLe opGt opGe opEq opNe zQ D2 D3 D4 D5 D6 GP GQ GR GS IW IX GU GV JY JZ B3 B4 GX Fu DK Fz zf B6 BR zg rD BU IY D7 List.length_map BS BX BY BZ D9 Ac B0 xi xj xk vn xm sL Ea xn zU zV DC zW yN sj ky Eb GY Ec Ed zh Ee Ad nN vp B5 GZ z4 Gm beq_self_eq_true String.reduceBEq String.reduceEq reduceCtorEq wSl2 zY fG cu fX bg z6 Bx z7 kA Gr ID List.getElem?_cons_zero List.getElem?_cons_succ List.set_cons_zero List.set_cons_succ List.cons_append List.nil_append List.replicate_succ List.replicate_zero List.map_cons List.map_nil List.drop_succ_cons List.drop_zero Option.getD_some true_and decide_eq_true_eq Bool.not_eq_true' decide_eq_false_iff_not ite_true ite_false Bool.false_eq_true Bool.true_eq_false if_true if_false List.length_cons List.length_nil Nat.reduceAdd Nat.reduceSub sI sJ D0 IU JW ix30 ix31 ix32 Option.some.injEq exists_eq_left' exists_eq_left".splitOn " ").toArray.map fun s=>Lean.mkIdent ((s.splitOn ".").foldl Lean.Name.mkStr Lean.Name.anonymous)
 `(tactic| try simp only [$[$ids:ident],*])
local macro_rules | `(tactic| walk_at "o")=>`(tactic| first | exact Or.inl rfl | exact Or.inr rfl)
abbrev dB:Stmt:=Hd.top 1
noncomputable abbrev mW:List Str:=["one","other","rest"]
abbrev fJ:Stmt:=Hd.top 2
noncomputable abbrev qM:List Str:=["one","other"]
abbrev mX:Stmt:=Hd.top 4
noncomputable abbrev Al:List Str:=["thing"]
abbrev d5:Stmt:=Hd.top 5
noncomputable abbrev oi:List Str:=["thing"]
abbrev mY:Stmt:=Hd.top 6
noncomputable abbrev Am:List Str:=["thing"]
abbrev tO:Stmt:=Hd.top 12
noncomputable abbrev EO:List Str:=["top","bottom","shared"]
abbrev xQ:Stmt:=Hd.top 13
noncomputable abbrev Hl:List Str:=["top","bottom"]
abbrev CH:Stmt:=Hd.top 14
noncomputable abbrev Js:List Str:=["one","other"]
abbrev xR:Stmt:=Hd.top 15
noncomputable abbrev Hm:List Str:=["one","other"]
abbrev xS:Stmt:=Hd.top 16
noncomputable abbrev Hn:List Str:=["one","other"]
abbrev CI:Stmt:=Hd.top 17
noncomputable abbrev Jt:List Str:=["one","other"]
abbrev xT:Stmt:=Hd.top 18
noncomputable abbrev Ho:List Str:=["one","other"]
abbrev tP:Stmt:=Hd.top 19
noncomputable abbrev ER:List Str:=["some","whole","one"]
abbrev tQ:Stmt:=Hd.top 21
noncomputable abbrev ES:List Str:=["ring","thing"]
abbrev kF:Stmt:=Hd.top 22
noncomputable abbrev xU:List Str:=["cut","place"]
abbrev fK:Stmt:=Hd.top 23
noncomputable abbrev qN:List Str:=["cut","one","other"]
abbrev oK:Stmt:=Hd.top 24
noncomputable abbrev zD:List Str:=["ring","cut"]
abbrev mZ:Stmt:=Hd.top 25
noncomputable abbrev An:List Str:=["ring","cut"]
abbrev m4:Stmt:=Hd.top 26
noncomputable abbrev Ao:List Str:=["ring","cut"]
abbrev jJ:Stmt:=Hd.top 27
noncomputable abbrev rO:List Str:=["ring","cuts","g"]
abbrev fL:Stmt:=Hd.top 28
noncomputable abbrev qO:List Str:=["ring","found","cut","shown"]
abbrev iJ:Stmt:=Hd.top 31
noncomputable abbrev pN:List Str:=["ring","k","way","places","one","other"]
abbrev pO:Stmt:=Hd.top 32
noncomputable abbrev CJ:List Str:=["ring","k","way","tie","places","one","other","lies_on"]
abbrev kG:Stmt:=Hd.top 34
noncomputable abbrev xV:List Str:=["ring","sending","k","tie"]
abbrev lX:Stmt:=Hd.top 35
noncomputable abbrev vF:List Str:=["ring","sending","tie"]
abbrev jK:Stmt:=Hd.top 36
noncomputable abbrev rP:List Str:=["ring","sending"]
abbrev fu:Stmt:=Hd.top 37
noncomputable abbrev nQ:List Str:=["ring","sending"]
abbrev tR:Stmt:=Hd.top 38
noncomputable abbrev ET:List Str:=["ring","sending","strains","top","tie","strain"]
abbrev eQ:Stmt:=Hd.top 41
noncomputable abbrev pP:List Str:=["some","bottom","one"]
abbrev jL:Stmt:=Hd.top 42
noncomputable abbrev rQ:List Str:=["some","units"]
abbrev iK:Stmt:=Hd.top 40
noncomputable abbrev pQ:List Str:=["ring","top","sizes","most","units"]
abbrev dO:Stmt:=Hd.top 46
noncomputable abbrev j6:List Str:=["ring","k","waiting","cut","asks"]
abbrev pR:Stmt:=Hd.top 45
noncomputable abbrev CK:List Str:=["ring","k","waiting","free","ties","twice","g","h"]
abbrev gI:Stmt:=Hd.top 47
noncomputable abbrev pS:List Str:=["ring","k","free","part","rest"]
abbrev dC:Stmt:=Hd.top 44
noncomputable abbrev m5:List Str:=["ring","top","scale","waiting","free","sending","k","size","part"]
abbrev c9:Stmt:=Hd.top 49
noncomputable abbrev lY:List Str:=["ring","some","k","part"]
abbrev fv:Stmt:=Hd.top 50
noncomputable abbrev nR:List Str:=["ring","thing"]
abbrev kH:Stmt:=Hd.top 52
noncomputable abbrev xW:List Str:=["ring","greatest"]
abbrev pT:Stmt:=Hd.top 54
noncomputable abbrev CL:List Str:=["ring","thing","top"]
abbrev kI:Stmt:=Hd.top 55
noncomputable abbrev xX:List Str:=["ring","thing","top"]
abbrev iL:Stmt:=Hd.top 53
noncomputable abbrev vG:List Str:=["ring","thing"]
abbrev iM:Stmt:=Hd.top 57
noncomputable abbrev vH:List Str:=["_law_script","_law_k","_law_cell"]
abbrev kJ:Stmt:=Hd.top 58
noncomputable abbrev xY:List Str:=["_law_state","_law_many","_law_digit","_law_drawn","_law_turn"]
abbrev dU:Stmt:=Hd.top 61
noncomputable abbrev iN:List Str:=["_law_state","_law_many","_law_letters","_law_base","_law_at","_law_turn"]
abbrev m6:Stmt:=Hd.top 59
noncomputable abbrev Ap:List Str:=["_law_top_here","_law_bottom","_law_one","_law_share"]
abbrev gJ:Stmt:=Hd.top 60
noncomputable abbrev tS:List Str:=["_law_state","_law_least","_law_kind","_law_bottom","_law_top_here"]
abbrev iO:Stmt:=Hd.top 62
noncomputable abbrev vI:List Str:=["_law_state","_law_ties_here","_law_kind","_law_alike","_law_one","_law_rooms_here","_law_more"]
abbrev kK:Stmt:=Hd.top 63
noncomputable abbrev xZ:List Str:=["_law_state","_law_shape","_law_places","_law_k","_law_one","_law_other"]
abbrev kM:Stmt:=Hd.top 64
noncomputable abbrev x9:List Str:=["_law_script","_law_at","_law_most","_law_count","_law_state","_law_places","_law_many","_law_kinds","_law_shape","_law_names_here","_law_rooms_here","_law_asks","_law_k","_law_one","_law_other"]
abbrev iP:Stmt:=Hd.top 76
noncomputable abbrev vJ:List Str:=["_law_thing"]
abbrev iQ:Stmt:=Hd.top 77
noncomputable abbrev vK:List Str:=["_law_thing"]
abbrev iR:Stmt:=Hd.top 69
noncomputable abbrev vL:List Str:=["_law_one","_law_other"]
abbrev b9:Stmt:=Hd.top 78
noncomputable abbrev gh:List Str:=["_law_ring_here","_law_thing","_law_k"]
abbrev kN:Stmt:=Hd.top 73
noncomputable abbrev ya:List Str:=["_law_ring_here","_law_k","_law_name","_law_place","_law_other","_law_size","_law_made"]
abbrev iS:Stmt:=Hd.top 67
noncomputable abbrev vM:List Str:=["_law_one","_law_other"]
abbrev kO:Stmt:=Hd.top 66
noncomputable abbrev yb:List Str:=["_law_one","_law_other"]
abbrev fw:Stmt:=Hd.top 74
noncomputable abbrev nS:List Str:=["_law_ring_here","_law_parts_here","_law_made","_law_k","_law_along","_law_rest","_law_tie"]
abbrev kP:Stmt:=Hd.top 68
noncomputable abbrev yc:List Str:=["_law_one","_law_other"]
abbrev m7:Stmt:=Hd.top 75
noncomputable abbrev Aq:List Str:=["_law_ring_here","_law_parts_here","_law_best","_law_load","_law_room","_law_one"]
abbrev iT:Stmt:=Hd.top 70
noncomputable abbrev vN:List Str:=["_law_cut","_law_one","_law_other"]
abbrev gK:Stmt:=Hd.top 71
noncomputable abbrev tT:List Str:=["_law_ring_here","_law_cut","_law_whole_here","_law_name","_law_one","_law_other","_law_size"]
abbrev iU:Stmt:=Hd.top 72
noncomputable abbrev vO:List Str:=["_law_ring_here","_law_cut"]
abbrev m8:Stmt:=Hd.top 79
noncomputable abbrev Ar:List Str:=["_law_ring_here","_law_thing"]
abbrev iV:Stmt:=Hd.top 82
noncomputable abbrev vP:List Str:=["_law_ring_here","_law_thing","_law_top_here","_law_kept","_law_told"]
abbrev iW:Stmt:=Hd.top 65
noncomputable abbrev vQ:List Str:=["_law_state","_law_ring_here","_law_parts_here","_law_name","_law_one","_law_other","_law_size","_law_way","_law_share"]
abbrev dD:Stmt:=Hd.top 80
noncomputable abbrev m9:List Str:=["_law_state","_law_ring_here","_law_parts_here","_law_odd","_law_way","_law_at"]
abbrev kQ:Stmt:=Hd.top 81
noncomputable abbrev yd:List Str:=["_law_state","_law_ring_here","_law_told","_law_top_here","_law_parts_here","_law_cut","_law_way"]
abbrev EU:Stmt:=Hd.top 83
noncomputable abbrev Kj:List Str:=["_law_script","_law_ring_here","_law_kept","_law_told","_law_k"]
def bz:FS:=fun ls post=>∃a b:Int,ls=[.d (.int a),.d (.int b)]∧post (.d (.int (Int.gcd a b))) ls
def kR:W Fl:=(wSeq (wSet 2 (wBin dZ (wVar 0) (wVar 1)))
  (wSeq (wSet 0 (wVar 1))
  (wSet 1 (wVar 2))))
def dE:W Fl:=(wSeq (uY (aN (wBin opNe (wVar 1) (wC (.int 0)))) kR)
  (wRet (aO zU (aVal (wVar 0) aNil))))
theorem kT:∀ls post,ls.length=2→bz ls post→dE (ls++List.replicate 1 .un) (aM ls post):=by
 rintro ls post - ⟨a,b,rfl,h⟩
 unfold dE
 walk_at "w"
 refine⟨fun n ρ=>∃x y r,ρ=[.d (.int x),.d (.int y),r]∧Int.gcd x y=Int.gcd a b∧n=y.natAbs,⟨_,a,b,_,rfl,rfl,rfl⟩,?_⟩
 rintro n ρ ⟨x,y,r,rfl,hg,rfl⟩
 walk_at "w"
 split
 ·
  rename_i hy
  have hy:y≠0:=by simpa using hy
  exact⟨hy,_,j2 x hy,y,x.fmod y,_,rfl,by rw[yS];exact hg,rfl⟩
 ·
  rename_i hy
  have hy:y=0:=by simpa using hy
  subst hy
  refine⟨_,aj (aj aC),?_⟩
  have e:(if x<0 then -x else x)=((Int.gcd a b:Nat):Int):=by rw[← hg,Int.gcd_zero_right];split<;>omega
  rw[e]
  exact h
def eR:FS:=fun ls post=>∃a b:Nat,ls=[.d (.int a),.d (.int b)]∧0<b∧a<2^4400∧b<2^4400∧post (.d (.int (Nat.lcm a b))) ls
def fM:W Fl:=(wRet (wBin aZ (wBin mL (wVar 0) (aD bz (aVal (wVar 0) (aVal (wVar 1) aNil)))) (wVar 1)))
theorem oj:∀ls post,ls.length=2→eR ls post→fM (ls++List.replicate 0 .un) (aM ls post):=by
 rintro ls post - ⟨a,b,rfl,hb,ha,hb2,h⟩
 unfold fM
 walk_at "w"
 refine⟨_,_,rfl,?_⟩
 walk_at "w"
 have g0:0<Int.gcd (a:Int) (b:Int):=Nat.gcd_pos_of_pos_right _ hb
 have g1:Int.gcd (a:Int) (b:Int)≤b:=Nat.gcd_le_right _ hb
 have e1:((a:Int).fdiv (Int.gcd (a:Int) (b:Int):Int)).natAbs≤a:=by
  rw[Int.fdiv_eq_ediv_of_nonneg _ (by omega)]
  show(((a:Int) / ((Nat.gcd a b:Nat):Int))).natAbs≤a
  rw[← Int.natCast_ediv,Int.natAbs_natCast]
  exact Nat.div_le_self _ _
 refine⟨by omega,?_,?_,?_,?_⟩
 ·
  rw[Int.natAbs_natCast]
  exact Nat.lt_of_le_of_lt g1 (Nat.lt_of_lt_of_le hb2 (Nat.pow_le_pow_right (by decide) (by decide)))
 ·
  exact lM (Nat.lt_of_le_of_lt e1 ha) (by decide)
 ·
  exact lM (n:=4400) (by rw[Int.natAbs_natCast];exact hb2) (by decide)
 ·
  rw[G8 hb]
  exact⟨_,aj (aj aC),h⟩
def dF:FS:=fun ls post=>(∃i:Int,ls=[.d (.int i)]∧post (.d (.bl true)) ls)∨∃d:D,ls=[.d d]∧(∀i,d≠.int i)∧post (.d (.bl false)) ls
def jM:W Fl:=(wRet (jT (wUn (ky "int") (wVar 0)) (Bc (aN (wUn (ky "bool") (wVar 0))))))
theorem vR:∀ls post,ls.length=1→dF ls post→jM (ls++List.replicate 0 .un) (aM ls post):=by
 rintro ls post-(⟨i,rfl,h⟩|⟨d,rfl,hd,h⟩)
 ·
  unfold jM
  walk_at "w"
  exact⟨_,aj aC,h⟩
 ·
  unfold jM
  cases d with
  |int i=>exact absurd rfl (hd i)
  |_=>walk_at "w"; exact⟨_,aj aC,h⟩
def twoB:D→Bool
 |.tup [.int _,.int _]=>true
 |_=>false
theorem Hq{d:D}(h:twoB d=true):∃i j,d=.tup [.int i,.int j]:=by
 unfold twoB at h
 split at h
 ·
  exact⟨_,_,rfl⟩
 ·
  cases h
theorem CM(d:D):(∃i j,d=.tup [.int i,.int j])∨(∀i j,d≠.tup [.int i,.int j]):=by
 cases h:twoB d with
 |true=>exact .inl (Hq h)
 |false=>exact .inr fun i j e=>by subst e;cases h
def cb:FS:=fun ls post=>(∃i j:Int,ls=[.d (.tup [.int i,.int j])]∧post (.d (.bl true)) ls)∨∃d:D,ls=[.d d]∧(∀i j,d≠.tup [.int i,.int j])∧post (.d (.bl false)) ls
def cC:W Fl:=(wRet (jT (wUn (ky "tuple") (wVar 0)) (jT (wBin opEq (aO bL (aVal (wVar 0) aNil)) (wC (.int 2))) (jT (aD dF (aVal (wBin opIx (wVar 0) (wC (.int 0))) aNil)) (aD dF (aVal (wBin opIx (wVar 0) (wC (.int 1))) aNil))))))
theorem lZ:∀ls post,ls.length=1→cb ls post→cC (ls++List.replicate 0 .un) (aM ls post):=by
 rintro ls post-(⟨i,j,rfl,h⟩|⟨d,rfl,hd,h⟩)
 ·
  unfold cC
  walk_at "w"
  refine .inl ⟨_,rfl,?_⟩
  walk_at "w"
  refine .inl ⟨_,rfl,?_⟩
  walk_at "w"
  exact⟨_,aj aC,h⟩
 ·
  unfold cC
  have fin:aM [.d d] post (.rt (.d (.bl false))) [.d d]:=⟨_,aj aC,h⟩
  by_cases ht:∃xs,d=.tup xs
  ·
   obtain⟨xs,rfl⟩:=ht
   by_cases hl:xs.length=2
   ·
    obtain⟨x,y,rfl⟩:∃x y,xs=[x,y]:=by
     rcases xs with _|⟨x,_|⟨y,_|⟨z,r⟩⟩⟩<;>simp at hl
     exact⟨_,_,rfl⟩
    have wh:∀z:D,(∃i,z=.int i)∨(∀i,z≠.int i):=fun z=>by cases z<;>simp
    walk_at "w"
    rcases wh x with⟨i,rfl⟩|hx
    ·
     refine .inl ⟨_,rfl,?_⟩
     rcases wh y with⟨j,rfl⟩|hy
     ·
      exact absurd rfl (hd i j)
     ·
      walk_at "w"
      refine .inr ⟨_,rfl,hy,?_⟩
      walk_at "w"
      exact fin
    ·
     refine .inr ⟨_,rfl,hx,?_⟩
     walk_at "w"
     exact fin
   ·
    walk_at "w"
    have e:¬((xs.length:Int)=2):=by omega
    simp only[e,decide_false]
    exact fin
  ·
   have ei:isTy "tuple" d=false:=by
    cases d<;>first
     |exact absurd ⟨_,rfl⟩ ht
     |rfl
   walk_at "w"
   rw[ei]
   walk_at "w"
   exact fin
def gL:FS:=fun ls post=>∃d:D,ls=[.d d]∧post (.d (.bl (ratB d))) ls
def jN:W Fl:=(wRet (jT (aD cb (aVal (wVar 0) aNil)) (jT (wBin opGe (wBin opIx (wVar 0) (wC (.int 1))) (wC (.int 1))) (wBin opEq (aD bz (aVal (wBin opIx (wVar 0) (wC (.int 0))) (aVal (wBin opIx (wVar 0) (wC (.int 1))) aNil))) (wC (.int 1))))))
theorem vS:∀ls post,ls.length=1→gL ls post→jN (ls++List.replicate 0 .un) (aM ls post):=by
 rintro ls post - ⟨d,rfl,h⟩
 by_cases hd:∃i j,d=.tup [.int i,.int j]
 ·
  obtain⟨i,j,rfl⟩:=hd
  unfold jN
  walk_at "w"
  refine .inl ⟨_,_,rfl,?_⟩
  walk_at "w"
  have e:ratB (.tup [.int i,.int j])=(decide (1≤j) && decide ((Int.gcd i j:Int)=1)):=rfl
  rw[e]at h
  split
  ·
   rename_i hj
   refine⟨_,_,rfl,?_⟩
   walk_at "w"
   have hj':(1:Int)≤j:=hj
   rw[decide_eq_true hj',Bool.true_and]at h
   exact⟨_,aj aC,h⟩
  ·
   rename_i hj
   have hj':¬(1:Int)≤j:=hj
   rw[decide_eq_false hj',Bool.false_and]at h
   exact⟨_,aj aC,h⟩
 ·
  have hn:∀i j,d≠.tup [.int i,.int j]:=fun i j e=>hd ⟨i,j,e⟩
  rw[xF hn]at h
  unfold jN
  walk_at "w"
  refine .inr ⟨_,rfl,hn,?_⟩
  walk_at "w"
  exact⟨_,aj aC,h⟩
def eS:FS:=fun ls post=>∃t b:Int,ls=[.d (.int t),.d (.int b)]∧b≠0∧b.natAbs<2^9000∧post (.d (frD (Rat.divInt t b))) ls
def tU:W Fl:=(wSeq (wSet 2 (wFrz (aD bz (aVal (wVar 0) (aVal (wVar 1) aNil)))))
  (wSeq (wIf (aN (wBin opLt (wVar 1) (wC (.int 0)))) (wSet 2 (wUn zQ (wVar 2))) bu)
  (wRet (wTup (aVal (wBin mL (wVar 0) (wVar 2)) (aVal (wBin mL (wVar 1) (wVar 2)) aNil))))))
theorem As:∀ls post,ls.length=2→eS ls post→tU (ls++List.replicate 1 .un) (aM ls post):=by
 rintro ls post - ⟨t,b,rfl,hb,hz,h⟩
 unfold tU
 walk_at "w"
 refine⟨t,b,rfl,?_⟩
 walk_at "w"
 have h1:=yT (t:=t) hb
 have h2:=Nat.lt_of_le_of_lt (yU (t:=t) hb) hz
 have fin:∀{g:Int}{ρ:Ev},g=cw t b→g≠0∧g.natAbs<2^9000∧g≠0∧g.natAbs<2^9000∧2≤sizeLine∧aM [.d (.int t),.d (.int b)] post (.rt (.d (.tup [.int (t.fdiv g),.int (b.fdiv g)]))) ρ:=fun {g ρ} e=>by
  have e1:g≠0:=by rw[e];exact h1
  have e2:g.natAbs<2^9000:=by rw[e];exact h2
  refine⟨e1,e2,e1,e2,by decide,_,aj (aj aC),?_⟩
  rw[ze hb e]
  exact h
 split
 ·
  rename_i hlt
  exact fin (by simp[cw,hlt])
 ·
  rename_i hlt
  exact fin (by simp[cw,hlt])
def tV:FS:=fun ls post=>∃t b:Int,ls=[.d (.int t),.d (.int b)]∧b≠0∧b.natAbs<2^9000∧post (.d (frD (Rat.divInt t b))) ls
def ye:W Fl:=(wSeq (wIf (wOr (wNot (aN (aD dF (aVal (wVar 0) aNil)))) (wOr (wNot (aN (aD dF (aVal (wVar 1) aNil)))) (aN (wBin opEq (wVar 1) (wC (.int 0)))))) Be bu)
  (wRet (aD eS (aVal (wVar 0) (aVal (wVar 1) aNil)))))
theorem CN:∀ls post,ls.length=2→tV ls post→ye (ls++List.replicate 0 .un) (aM ls post):=by
 rintro ls post - ⟨t,b,rfl,hb,hb2,h⟩
 unfold ye
 walk_at "w"
 refine .inl ⟨_,rfl,?_⟩
 walk_at "w"
 refine .inl ⟨_,rfl,?_⟩
 walk_at "w"
 rw[if_neg hb]
 refine⟨_,_,rfl,hb,hb2,?_⟩
 exact⟨_,aj (aj aC),h⟩
def pU:FS:=fun ls post=>∃p q:Rat,ls=[.d (frD p),.d (frD q)]∧RB 400000 p∧RB 400000 q∧p.den*q.den<2^9000∧post (.d (frD (p+q))) ls
def CO:W Fl:=(wRet (aD eS (aVal (wFrz (wBin bK (wBin aZ (wBin opIx (wVar 0) (wC (.int 0))) (wBin opIx (wVar 1) (wC (.int 1)))) (wBin aZ (wBin opIx (wVar 1) (wC (.int 0))) (wBin opIx (wVar 0) (wC (.int 1)))))) (aVal (wFrz (wBin aZ (wBin opIx (wVar 0) (wC (.int 1))) (wBin opIx (wVar 1) (wC (.int 1))))) aNil))))
theorem EV:∀ls post,ls.length=2→pU ls post→CO (ls++List.replicate 0 .un) (aM ls post):=by
 rintro ls post - ⟨p,q,rfl,hp,hq,hz,h⟩
 unfold CO
 simp only[frD]
 walk_at "w"
 refine⟨hp.bn (by decide),hq.bd (by decide),hq.bn (by decide),hp.bd (by decide),hp.bd (by decide),hq.bd (by decide),_,_,rfl,mQ p q,by rw[jE];exact hz,_,aj (aj aC),?_⟩
 rw[vb]
 exact h
theorem EW{p q:Rat}{post:L→List L→Prop}(hp:RB 4400 p)(hq:RB 4400 q)(h:post (.d (frD (p+q))) [.d (frD p),.d (frD q)]):pU [.d (frD p),.d (frD q)] post :=
 ⟨p,q,rfl,hp.mono (by decide),hq.mono (by decide),Nat.lt_of_lt_of_le (aP hp.2 hq.2) (Nat.pow_le_pow_right (by decide) (by decide)),h⟩
def oM:FS:=fun ls post=>∃p q:Rat,ls=[.d (frD p),.d (frD q)]∧RB 400000 p∧RB 400000 q∧p.den*q.den<2^9000∧post (.d (frD (p-q))) ls
def yf:W Fl:=(wRet (aD eS (aVal (wBin fm (wBin aZ (wBin opIx (wVar 0) (wC (.int 0))) (wBin opIx (wVar 1) (wC (.int 1)))) (wBin aZ (wBin opIx (wVar 1) (wC (.int 0))) (wBin opIx (wVar 0) (wC (.int 1))))) (aVal (wFrz (wBin aZ (wBin opIx (wVar 0) (wC (.int 1))) (wBin opIx (wVar 1) (wC (.int 1))))) aNil))))
theorem CP:∀ls post,ls.length=2→oM ls post→yf (ls++List.replicate 0 .un) (aM ls post):=by
 rintro ls post - ⟨p,q,rfl,hp,hq,hz,h⟩
 unfold yf
 simp only[frD]
 walk_at "w"
 refine⟨hp.bn (by decide),hq.bd (by decide),hq.bn (by decide),hp.bd (by decide),hp.bd (by decide),hq.bd (by decide),_,_,rfl,mQ p q,by rw[jE];exact hz,_,aj (aj aC),?_⟩
 rw[Ft]
 exact h
theorem CQ{p q:Rat}{post:L→List L→Prop}(hp:RB 4400 p)(hq:RB 4400 q)(h:post (.d (frD (p-q))) [.d (frD p),.d (frD q)]):oM [.d (frD p),.d (frD q)] post :=
 ⟨p,q,rfl,hp.mono (by decide),hq.mono (by decide),Nat.lt_of_lt_of_le (aP hp.2 hq.2) (Nat.pow_le_pow_right (by decide) (by decide)),h⟩
def tX:FS:=fun ls post=>∃p q:Rat,ls=[.d (frD p),.d (frD q)]∧RB 4400 p∧RB 4400 q∧post (.d (frD (p*q))) ls
def yg:W Fl:=(wRet (aD eS (aVal (wFrz (wBin aZ (wBin opIx (wVar 0) (wC (.int 0))) (wBin opIx (wVar 1) (wC (.int 0))))) (aVal (wFrz (wBin aZ (wBin opIx (wVar 0) (wC (.int 1))) (wBin opIx (wVar 1) (wC (.int 1))))) aNil))))
theorem CS:∀ls post,ls.length=2→tX ls post→yg (ls++List.replicate 0 .un) (aM ls post):=by
 rintro ls post - ⟨p,q,rfl,hp,hq,h⟩
 unfold yg
 walk_at "w"
 refine⟨hp.bn (by decide),hq.bn (by decide),hp.bd (by decide),hq.bd (by decide),_,_,rfl,mQ p q,?_,_,aj (aj aC),?_⟩
 ·
  rw[jE]
  exact Nat.lt_of_lt_of_le (aP hp.2 hq.2) (Nat.pow_le_pow_right (by decide) (by decide))
 ·
  rw[Fx]
  exact h
def tY:FS:=fun ls post=>∃p q:Rat,ls=[.d (frD p),.d (frD q)]∧RB 4400 p∧RB 4400 q∧q≠0∧post (.d (frD (p / q))) ls
def CT:W Fl:=(wSeq (wIf (aN (wBin opEq (wBin opIx (wVar 1) (wC (.int 0))) (wC (.int 0)))) Be bu)
  (wRet (aD eS (aVal (wFrz (wBin aZ (wBin opIx (wVar 0) (wC (.int 0))) (wBin opIx (wVar 1) (wC (.int 1))))) (aVal (wFrz (wBin aZ (wBin opIx (wVar 0) (wC (.int 1))) (wBin opIx (wVar 1) (wC (.int 0))))) aNil)))))
theorem EX:∀ls post,ls.length=2→tY ls post→CT (ls++List.replicate 0 .un) (aM ls post):=by
 rintro ls post - ⟨p,q,rfl,hp,hq,h0,h⟩
 unfold CT
 walk_at "w"
 rw[if_neg (vi h0)]
 walk_at "w"
 refine⟨hp.bn (by decide),hq.bd (by decide),hp.bd (by decide),hq.bn (by decide),_,_,rfl,Int.mul_ne_zero (iE p) (vi h0),?_,_,aj (aj aC),?_⟩
 ·
  rw[Int.natAbs_mul,Int.natAbs_natCast]
  exact Nat.lt_of_lt_of_le (aP hp.2 hq.1) (Nat.pow_le_pow_right (by decide) (by decide))
 ·
  rw[za p h0]
  exact h
def jO:FS:=fun ls post=>∃p q:Rat,ls=[.d (frD p),.d (frD q)]∧RB 400000 p∧RB 400000 q∧post (.d (.bl (decide (p<q)))) ls
def yh:W Fl:=(wRet (wBin opLt (wBin aZ (wBin opIx (wVar 0) (wC (.int 0))) (wBin opIx (wVar 1) (wC (.int 1)))) (wBin aZ (wBin opIx (wVar 1) (wC (.int 0))) (wBin opIx (wVar 0) (wC (.int 1))))))
theorem CU:∀ls post,ls.length=2→jO ls post→yh (ls++List.replicate 0 .un) (aM ls post):=by
 rintro ls post - ⟨p,q,rfl,hp,hq,h⟩
 unfold yh
 walk_at "w"
 refine⟨hp.bn (by decide),hq.bd (by decide),hq.bn (by decide),hp.bd (by decide),_,aj (aj aC),?_⟩
 rw[IV]
 exact h
def l3:FS:=fun ls post=>∃(qs:List Rat)(x:D),ls=[.d x]∧(x=.lst (qs.map frD)∨x=.tup (qs.map frD))∧qs.length≤63∧(∀q∈qs,RB 4400 q)∧Jb qs∧post (.d (frD (sumQ qs))) ls
def gi:W Fl:=(wSet 1 (aD pU (aVal (wVar 1) (aVal (wVar 2) aNil))))
def tZ:W Fl:=(wSeq (wSet 1 (wC (.tup [(.int 0),(.int 1)])))
  (wSeq (wFor (wSrc (wVar 0)) (aY 2) gi)
  (wRet (jS 1))))
theorem t4{x:D}{post:Fl→Ev→Prop}:∀(qs:List Rat)(acc:Rat)(n:Nat)(r:L),qs.length≤63→n+4401*qs.length≤400000→RB n acc→(∀q∈qs,RB 4400 q)→acc.den*denP qs<2^9000→(∀r',post .nx [.d x,.d (frD (qs.foldl (·+·) acc)),r']) →
  fW (aY 2) gi (qs.map frD) [.d x,.d (frD acc),r] post
 |[],acc,n,r,_,_,_,_,_,h=>h r
 | q::qs,acc,n,r,hl,hn,ha,hq,hd,h=>by
  have hd':acc.den*(q.den*denP qs)<2^9000:=hd
  have hq1:=hq q List.mem_cons_self
  have hlc:(q::qs).length=qs.length+1:=rfl
  have dpos:0<denP qs:=jF qs
  have hz:acc.den*q.den<2^9000:=Nat.lt_of_le_of_lt (by rw[← Nat.mul_assoc];exact Nat.le_mul_of_pos_right _ dpos) hd'
  show fW _ _ (frD q::qs.map frD) _ _
  unfold fW gi
  walk_at "w"
  refine⟨acc,q,rfl,ha.mono (by omega),hq1.mono (by decide),hz,?_⟩
  refine t4 qs (acc+q) (n+4400+1) _ (by omega) (by omega) (ha.add hq1) (fun z hz=>hq z (List.mem_cons_of_mem _ hz)) (Nat.lt_of_le_of_lt ?_ hd') h
  rw[← Nat.mul_assoc]
  exact Nat.mul_le_mul_right _ (z5 acc q)
theorem pV{x:D}{E:Nat}(e0:0<E)(e1:E<2^4400){post:Fl→Ev→Prop}:∀(qs:List Rat)(acc:Rat)(n:Nat)(r:L),qs.length≤63→n+4401*qs.length≤400000→RB n acc→(∀q∈qs,RB 4400 q)→acc.den∣E→(∀q∈qs,q.den∣E)→(∀r',post .nx [.d x,.d (frD (qs.foldl (·+·) acc)),r']) →
  fW (aY 2) gi (qs.map frD) [.d x,.d (frD acc),r] post
 |[],acc,n,r,_,_,_,_,_,_,h=>h r
 | q::qs,acc,n,r,hl,hn,ha,hq,hd,hds,h=>by
  have hq1:=hq q List.mem_cons_self
  have hq2:=hds q List.mem_cons_self
  have hlc:(q::qs).length=qs.length+1:=rfl
  have hz:acc.den*q.den<2^9000:=Nat.lt_of_lt_of_le (aP (m:=4400) (n:=4400) (Nat.lt_of_le_of_lt (Nat.le_of_dvd e0 hd) e1) (Nat.lt_of_le_of_lt (Nat.le_of_dvd e0 hq2) e1)) (Nat.pow_le_pow_right (by decide) (by decide))
  show fW _ _ (frD q::qs.map frD) _ _
  unfold fW gi
  walk_at "w"
  refine⟨acc,q,rfl,ha.mono (by omega),hq1.mono (by decide),hz,?_⟩
  exact pV e0 e1 qs (acc+q) (n+4400+1) _ (by omega) (by omega) (ha.add hq1) (fun z hz=>hq z (List.mem_cons_of_mem _ hz)) (sR e0 hd hq2) (fun z hz=>hds z (List.mem_cons_of_mem _ hz)) h
theorem Au:∀ls post,ls.length=1→l3 ls post→tZ (ls++List.replicate 2 .un) (aM ls post):=by
 rintro ls post - ⟨qs,x,rfl,hx,hl,hq,hd,h⟩
 unfold tZ
 have fin:∀r',aM [.d x] post (.rt (.d (frD (sumQ qs)))) [.d x,.d (frD (sumQ qs)),r']:=fun r'=>⟨_,aj aC,h⟩
 rcases hx with rfl|rfl
 ·
  walk_at "w"
  rcases hd with hd|⟨E,e0,e1,hd⟩
  ·
   exact t4 qs 0 1 .un hl (by omega) ⟨by decide,by decide⟩ hq (by show 1*_<_;rw[Nat.one_mul];exact hd) fun r'=>fin r'
  ·
   exact pV e0 e1 qs 0 1 .un hl (by omega) ⟨by decide,by decide⟩ hq (Nat.one_dvd _) hd fun r'=>fin r'
 ·
  walk_at "w"
  rcases hd with hd|⟨E,e0,e1,hd⟩
  ·
   exact t4 qs 0 1 .un hl (by omega) ⟨by decide,by decide⟩ hq (by show 1*_<_;rw[Nat.one_mul];exact hd) fun r'=>fin r'
  ·
   exact pV e0 e1 qs 0 1 .un hl (by omega) ⟨by decide,by decide⟩ hq (Nat.one_dvd _) hd fun r'=>fin r'
def pW:FS:=fun ls post=>∃(R:Ring)(d:D),ls=[.d (aK R),.d d]∧post (.d (.bl (cutB R.n d))) ls
def t5:W Fl:=(wRet (jT (aD cb (aVal (wVar 1) aNil)) (w7 (wC (.int 0)) [(opLe,(wBin opIx (wVar 1) (wC (.int 0)))),(opLe,(wBin opIx (wVar 1) (wC (.int 1)))),(opLt,(aO bL (aVal (wBin opIx (wVar 0) (wC (.int 0))) aNil)))])))
theorem Av:∀ls post,ls.length=2→pW ls post→t5 (ls++List.replicate 0 .un) (aM ls post):=by
 rintro ls post - ⟨R,d,rfl,h⟩
 unfold t5
 walk_at "w"
 rcases CM d with⟨i,j,rfl⟩|hd
 ·
  refine .inl ⟨i,j,rfl,?_⟩
  walk_at "w"
  have fin:∀b:Bool,b=cutB R.n (.tup [.int i,.int j])→aM [.d (aK R),.d (.tup [.int i,.int j])] post (.rt (.d (.bl b))) [.d (aK R),.d (.tup [.int i,.int j])]:=fun b hb=>by subst hb;exact⟨_,aj (aj aC),h⟩
  have ec:cutB R.n (.tup [.int i,.int j])=decide (0≤i∧i≤j∧j<(R.n:Int)):=rfl
  by_cases c1:0≤i<;>by_cases c2:i≤j<;>by_cases c3:j<(R.n:Int)<;>simp only[c1,c2,c3,if_true,if_false,decide_true,decide_false]<;>refine fin _ ?_<;>rw[ec]<;>simp only[c1,c2,c3]<;>decide
 ·
  refine .inr ⟨d,rfl,hd,?_⟩
  walk_at "w"
  rw[Hg hd]at h
  exact⟨_,aj (aj aC),h⟩
def fz:FS:=fun ls post=>∃(c:Nat×Nat)(p:Nat),ls=[.d (cutP c),.d (.int p)]∧post (.d (.bl (fV c p))) ls
def kU:W Fl:=(wRet (nK opLt opLe (wBin opIx (wVar 0) (wC (.int 0))) (wVar 1) (wBin opIx (wVar 0) (wC (.int 1)))))
theorem t6:∀ls post,ls.length=2→fz ls post→kU (ls++List.replicate 0 .un) (aM ls post):=by
 rintro ls post - ⟨c,p,rfl,h⟩
 unfold kU
 walk_at "w"
 unfold fV at h
 split
 ·
  rename_i h1
  refine⟨_,aj (aj aC),?_⟩
  have e:decide ((p:Int)≤(c.2:Int))=decide (c.1<p∧p≤c.2):=by rw[decide_eq_decide];omega
  rw[e];exact h
 ·
  rename_i h1
  refine⟨_,aj (aj aC),?_⟩
  rw[decide_eq_false (show ¬(c.1<p∧p≤c.2) by omega)]at h
  exact h
def dc:FS:=fun ls post=>∃(c:Nat×Nat)(i j:Nat),ls=[.d (cutP c),.d (.int i),.d (.int j)]∧post (.d (.bl (apart c i j))) ls
def fN:W Fl:=(wRet (wBin opNe (aD fz (aVal (wVar 0) (aVal (wVar 1) aNil))) (aD fz (aVal (wVar 0) (aVal (wVar 2) aNil)))))
theorem om:∀ls post,ls.length=3→dc ls post→fN (ls++List.replicate 0 .un) (aM ls post):=by
 rintro ls post - ⟨c,i,j,rfl,h⟩
 unfold fN
 walk_at "w"
 refine⟨c,i,rfl,?_⟩
 walk_at "w"
 refine⟨c,j,rfl,?_⟩
 walk_at "w"
 refine⟨_,aj (aj (aj aC)),?_⟩
 have e:(!decide (fV c i=fV c j))=apart c i j:=by
  unfold apart
  cases fV c i<;>cases fV c j<;>rfl
 rw[e];exact h
theorem iX{α β:Type}(p:α→Bool)(f:α→β):∀xs:List α,xs.filterMap (fun a=>if p a=true then some (f a)else none)=(xs.filter p).map f
 |[]=>rfl
 | x::xs=>by
  rw[List.filterMap_cons,List.filter_cons]
  cases e:p x
  ·
   simp[iX p f xs]
  ·
   simp[iX p f xs]
def pX:FS:=fun ls post=>∃(R:Ring)(c:Nat×Nat),ls=[.d (aK R),.d (cutP c)]∧R.Ok∧post (.d (frD (bh R.asks c))) ls
def rR:W L:=(wBin opIx (wVar 0) (wC (.int 3)))
def t7:W Fl:=(wRet (aD l3 (aVal (wFrz (fG 1 [1] (wSrc (wBin opIx (wVar 0) (wC (.int 1)))) (aY 0) (aN (aD dc (aVal (wVar 1) (aVal (wBin opIx (wVar 0) (wC (.int 1))) (aVal (wBin opIx (wVar 0) (wC (.int 2))) aNil))))) rR)) aNil)))
theorem Aw:∀ls post,ls.length=2→pX ls post→t7 (ls++List.replicate 0 .un) (aM ls post):=by
 rintro ls post - ⟨R,c,rfl,hR,h⟩
 have hfew:=hR.few
 unfold t7
 walk_at "w"
 refine⟨Nat.le_trans hfew (by decide),?_⟩
 refine gb (h:=fun a:Ask=>if apart c a.one a.other=true then some (frD a.size)else none) _ _ _ (fun a ha Q q=>?_) fun l' cc=>?_
 ·
  walk_at "w"
  refine⟨c,a.one,a.other,rfl,?_⟩
  walk_at "w"
  unfold rR
  cases e:apart c a.one a.other
  ·
   rw[e]at q
   walk_at "w"
   exact q
  ·
   rw[e]at q
   walk_at "w"
   exact q
 ·
  walk_at "w"
  have fl:=List.length_filter_le (fun a:Ask=>apart c a.one a.other) R.asks
  have e:R.asks.filterMap (fun a:Ask=>if apart c a.one a.other=true then some (frD a.size)else none)=((R.asks.filter fun a=>apart c a.one a.other).map (·.size)).map frD:=by
   rw[iX (fun a:Ask=>apart c a.one a.other) (fun a=>frD a.size),List.map_map]
   rfl
  rw[e]
  obtain⟨E,e0,e1,hd⟩:=hR.cd
  refine⟨_,_,rfl,.inl rfl,by rw[List.length_map];omega,fun q hq=>?_,.inr ⟨E,e0,Nat.lt_of_lt_of_le e1 (Nat.pow_le_pow_right (by decide) (by decide)),fun q hq=>?_⟩,⟨_,aj (aj aC),h⟩⟩
  ·
   obtain⟨a,ha,rfl⟩:=List.mem_map.mp hq
   exact(hR.rb (List.mem_filter.mp ha).1).mono (by decide)
  ·
   obtain⟨a,ha,rfl⟩:=List.mem_map.mp hq
   exact hd a (List.mem_filter.mp ha).1
def kW:FS:=fun ls post=>∃(R:Ring)(c:Nat×Nat),ls=[.d (aK R),.d (cutP c)]∧R.Ok∧bP R.n c∧post (.d (frD (eO R c))) ls
def nc:W Fl:=(wRet (aD pU (aVal (wBin opIx (wBin opIx (wVar 0) (wC (.int 0))) (wBin opIx (wVar 1) (wC (.int 0)))) (aVal (wBin opIx (wBin opIx (wVar 0) (wC (.int 0))) (wBin opIx (wVar 1) (wC (.int 1)))) aNil))))
theorem vT:∀ls post,ls.length=2→kW ls post→nc (ls++List.replicate 0 .un) (aM ls post):=by
 rintro ls post - ⟨R,c,rfl,hR,hc,h⟩
 have h1:c.1<R.n:=by have:=hc.1;have:=hc.2;omega
 unfold nc
 walk_at "w"
 refine⟨_,sQ h1,?_⟩
 walk_at "w"
 refine⟨_,sQ hc.2,?_⟩
 exact EW ((cH hR h1).2.mono (by decide)) ((cH hR hc.2).2.mono (by decide)) ⟨_,aj (aj aC),h⟩
def gM:FS:=fun ls post=>∃(R:Ring)(c:Nat×Nat),ls=[.d (aK R),.d (cutP c)]∧R.Ok∧bP R.n c∧post (.d (frD (a7 R c))) ls
def ng:W Fl:=(wRet (aD tY (aVal (wFrz (aD pX (aVal (wVar 0) (aVal (wVar 1) aNil)))) (aVal (wFrz (aD kW (aVal (wVar 0) (aVal (wVar 1) aNil)))) aNil))))
theorem vU:∀ls post,ls.length=2→gM ls post→ng (ls++List.replicate 0 .un) (aM ls post):=by
 rintro ls post - ⟨R,c,rfl,hR,hc,h⟩
 obtain⟨r1,r2⟩:=eP hR hc
 unfold ng
 walk_at "w"
 refine⟨R,c,rfl,hR,?_⟩
 walk_at "w"
 refine⟨R,c,rfl,hR,hc,?_⟩
 walk_at "w"
 exact⟨_,_,rfl,(pC hR c).mono (by decide),r2.mono (by decide),(by grind),_,aj (aj aC),h⟩
def kX:FS:=fun ls post=>∃(R:Ring),ls=[.d (aK R)]∧R.Ok∧∀c,post (.own c ((vw R.n).map cutP)) ls
def nT:W L:=(wTup (aVal (wVar 1) (aVal (wVar 0) aNil)))
def nU:W Fl:=(uX (wExt 1 (fG 1 [2] (Bh (wVar 2) (aO bL (aVal (wBin opIx (wVar 0) (wC (.int 0))) aNil))) (aY 0) fY nT)))
def nh:W Fl:=(wSeq (wSet 1 (wLst aNil))
  (wSeq (wFor (lG (aO bL (aVal (wBin opIx (wVar 0) (wC (.int 0))) aNil))) (aY 2) nU)
  (wRet (jS 1))))
theorem Ax{α:Type}(f:Nat→List α)(k:Nat):(List.range (k+1)).flatMap f=(List.range k).flatMap f++f k:=by
 rw[List.range_succ,List.flatMap_append]
 simp
theorem CV{n k:Nat}(hn:n≤12)(hk:k≤n):((List.range k).flatMap fun g=>(List.range (n-g)).map fun i=>(g,g+i)).length≤144:=by
 have:∀(m:Fin 13)(j:Fin 13),((List.range j.1).flatMap fun g=>(List.range (m.1-g)).map fun i=>(g,g+i)).length≤144:=by decide
 exact this ⟨n,by omega⟩ ⟨k,by omega⟩
theorem vV:∀ls post,ls.length=1→kX ls post→nh (ls++List.replicate 2 .un) (aM ls post):=by
 rintro ls post - ⟨R,rfl,hR,h⟩
 have hhi:=hR.hi
 unfold nh
 walk_at "w"
 refine⟨by decide,fun c=>⟨⟨by omega,by omega⟩,?_⟩⟩
 rw[Int.toNat_natCast]
 refine lL _ (fun k ρ=>∃x2,ρ=[.d (aK R),.own c (((List.range k).flatMap fun g=>(List.range (R.n-g)).map fun i=>(g,g+i)).map cutP),x2]) _ ⟨_,rfl⟩ ?_ ?_
 ·
  rintro g ρ hg ⟨x2,rfl⟩ Q h1 h2 h3 h4
  unfold nU
  walk_at "w"
  refine⟨⟨by omega,by omega⟩,⟨by omega,by omega⟩,?_⟩
  have e:((R.n:Int)-(g:Int)).toNat=R.n-g:=by omega
  have e2:rngD (g:Int) (R.n-g)=(List.range (R.n-g)).map fun (i:Nat)=>D.int ((g:Int)+(i:Int)):=rfl
  rw[e,e2]
  refine⟨by rw[List.length_map,List.length_range];exact Nat.le_trans (show R.n-g≤12 by omega) (by decide),?_⟩
  refine c6 (h:=fun i=>cutP (g,g+i)) _ _ _ (fun i hi Q' q=>?_) fun l' a=>?_
  ·
   unfold nT
   walk_at "w"
   refine⟨by decide,?_⟩
   have e3:D.tup [.int (g:Int),.int ((g:Int)+(i:Int))]=cutP (g,g+i):=by
    unfold cutP
    show _=D.tup [.int (g:Int),.int ((g+i:Nat):Int)]
    rw[Int.natCast_add]
   rw[e3]
   exact q
  ·
   walk_at "w"
   have hl:=CV (k:=g) hhi (by omega)
   refine⟨?_,h1 _ ⟨.d (.int g),?_⟩⟩
   ·
    rw[List.length_range]
    exact Nat.le_trans (show _≤200 by omega) (by decide)
   ·
    rw[Ax,List.map_append,List.map_map]
    rfl
 ·
  rintro ρ ⟨x2,rfl⟩
  walk_at "w"
  exact⟨_,aj aC,h c⟩
def eU:FS:=fun ls post=>∃(R:Ring),ls=[.d (aK R)]∧R.Ok∧post (.d (gP (gcut R))) ls
def iq:W Fl:=(wSeq (wSet 3 (wFrz (aD gM (aVal (wVar 0) (aVal (wVar 2) aNil)))))
  (wIf (wOr (aN (wBin z4 (wVar 1) (wC .non))) (aN (aD jO (aVal (wBin opIx (wVar 1) (wC (.int 0))) (aVal (wVar 3) aNil))))) (wSet 1 (wTup (aVal (wVar 3) (aVal (wVar 2) aNil)))) bu))
def fO:W Fl:=(wSeq (wSet 1 (wC .non))
  (wSeq (wFor (wSrc (aD kX (aVal (wVar 0) aNil))) (aY 2) iq)
  (wRet (jS 1))))
theorem oo:∀ls post,ls.length=1→eU ls post→fO (ls++List.replicate 3 .un) (aM ls post):=by
 rintro ls post - ⟨R,rfl,hR,h⟩
 have hlo:=hR.lo
 obtain⟨rest,hrest⟩:=Cf (n:=R.n) (by omega)
 unfold fO
 walk_at "w"
 refine⟨R,rfl,hR,fun cc=>?_⟩
 walk_at "w"
 refine dN (enc:=cutP) (vw R.n) (fun pre ρ=>∃x2 x3,ρ=[.d (aK R),.d (if pre=[]then .non else gP (pre.foldl (cz R) (0,(0,0)))),x2,x3]∧RB 1667 (pre.foldl (cz R) (0,(0,0))).1) _ ⟨_,_,rfl,RB.zero.mono (by decide)⟩ ?_ ?_
 ·
  rintro pre c suf ρ hsp ⟨x2,x3,rfl,hb⟩ Q h1 h2 h3 h4
  have hc:bP R.n c:=sP.mp (by rw[hsp];simp)
  have hs:=zt hR hc
  have hb2:RB 1667 ((pre++[c]).foldl (cz R) (0,(0,0))).1:=by
   rw[List.foldl_append]
   show RB 1667 (cz R _ c).1
   unfold cz
   split
   ·
    exact hs
   ·
    exact hb
  unfold iq
  walk_at "w"
  refine⟨R,c,rfl,hR,hc,?_⟩
  walk_at "w"
  have hne:¬pre++[c]=[]:=by simp
  rw[if_neg hne]at h1
  by_cases hp:pre=[]
  ·
   subst hp
   have ec:c=(0,0):=by
    rw[hrest]at hsp
    exact((List.cons.inj hsp).1).symm
   subst ec
   simp only[if_true]
   walk_at "w"
   have e3:D.tup [frD (a7 R (0,0)),cutP (0,0)]=gP (([]++[(0,0)]).foldl (cz R) (0,(0,0))):=by
    show _=gP (cz R (0,(0,0)) (0,0))
    unfold cz
    rw[if_neg (by show ¬(0:Rat)<a7 R (0,0);rw[xv];decide),xv]
    rfl
   rw[e3]
   exact⟨by decide,h1 _ ⟨_,_,rfl,hb2⟩⟩
  ·
   rw[if_neg hp]
   have e1:∀(K:L→Prop),z4 (gP (pre.foldl (cz R) (0,(0,0)))) .non K=K (.d (.bl false)):=fun _=>rfl
   have e2:(pre++[c]).foldl (cz R) (0,(0,0))=cz R (pre.foldl (cz R) (0,(0,0))) c:=by rw[List.foldl_append];rfl
   simp only[gP]at h1 ⊢
   walk_at "w"
   refine⟨_,_,rfl,hb.mono (by decide),hs.mono (by decide),?_⟩
   walk_at "w"
   split
   ·
    rename_i hlt
    have e3:D.tup [frD (a7 R c),cutP c]=gP ((pre++[c]).foldl (cz R) (0,(0,0))):=by
     rw[e2]
     rw[Cd hlt]
     rfl
    rw[e3]
    exact⟨by decide,h1 _ ⟨_,_,rfl,hb2⟩⟩
   ·
    rename_i hlt
    have e3:gP (pre.foldl (cz R) (0,(0,0)))=gP ((pre++[c]).foldl (cz R) (0,(0,0))):=by
     rw[e2]
     rw[Ce hlt]
    have e4:D.tup [frD (pre.foldl (cz R) (0,(0,0))).1,cutP (pre.foldl (cz R) (0,(0,0))).2]=gP ((pre++[c]).foldl (cz R) (0,(0,0))):=e3
    rw[e4]
    exact h1 _ ⟨_,_,rfl,hb2⟩
 ·
  rintro ρ ⟨x2,x3,rfl,hb⟩
  walk_at "w"
  rw[if_neg (by rw[hrest];simp)]
  exact⟨_,aj aC,h⟩
def nj:FS:=fun ls post=>∃(R:Ring)(k:Nat)(w:Bool)(hk:k<R.asks.length),ls=[.d (aK R),.d (.int k),.d (.str (wayS w))]∧R.Ok∧∀c,post (.own c ((wayL R.n R.asks[k] w).map fun (t:Nat)=>D.int (t:Int))) ls
def pY:W L:=(wBin dZ (wBin fm (wBin fm (wVar 1) (wC (.int 1))) (wVar 0)) (wVar 2))
def pZ:W L:=(wBin dZ (wBin bK (wVar 1) (wVar 0)) (wVar 2))
def p5:W Fl:=(wRet (fG 1 [4,3] (lG (wBin dZ (wBin fm (wVar 4) (wVar 5)) (wVar 3))) (aY 0) fY pY))
def p6:W Fl:=(wSeq (wIf (aN (wBin opEq (wVar 2) (wC (.str "on")))) (wRet (fG 1 [4,3] (lG (wBin dZ (wBin fm (wVar 5) (wVar 4)) (wVar 3))) (aY 0) fY pZ)) bu)
  p5)
def p7:W Fl:=(wSeq (wSet 5 (wBin opIx (wBin opIx (wBin opIx (wVar 0) (wC (.int 1))) (wVar 1)) (wC (.int 2))))
  p6)
def p8:W Fl:=(wSeq (wSet 4 (wBin opIx (wBin opIx (wBin opIx (wVar 0) (wC (.int 1))) (wVar 1)) (wC (.int 1))))
  p7)
def p9:W Fl:=(wSeq (wSet 3 (wFrz (aO bL (aVal (wBin opIx (wVar 0) (wC (.int 0))) aNil))))
  p8)
theorem yi:∀ls post,ls.length=3→nj ls post→p9 (ls++List.replicate 3 .un) (aM ls post):=by
 rintro ls post - ⟨R,k,w,hk,rfl,hR,h⟩
 have ha:=hR.ask _ (List.getElem_mem hk)
 have h1:=ha.one
 have h2:=ha.other
 have hlo:=hR.lo
 have hhi:=hR.hi
 unfold p9
 walk_at "w"
 unfold p8
 walk_at "w"
 refine⟨_,bD hk,?_⟩
 walk_at "w"
 unfold p7
 walk_at "w"
 refine⟨_,bD hk,?_⟩
 walk_at "w"
 unfold p6
 walk_at "w"
 have f1:=sO h1 h2
 have f2:=sO h2 h1
 have b1:=Nat.mod_lt (R.asks[k].other+R.n-R.asks[k].one) (y:=R.n) (by omega)
 have b2:=Nat.mod_lt (R.asks[k].one+R.n-R.asks[k].other) (y:=R.n) (by omega)
 split
 ·
  rename_i hw
  subst hw
  rw[f1]
  refine⟨by omega,⟨by omega,by omega⟩,?_⟩
  rw[gA,Int.toNat_natCast]
  refine⟨by rw[List.length_map,List.length_range];exact Nat.le_trans (show _≤12 by omega) (by decide),?_⟩
  refine c6 (h:=fun s=>D.int (((R.asks[k].one+s) % R.n:Nat):Int)) _ _ _ (fun s hs Q q=>?_) fun l'=>?_
  ·
   unfold pZ
   walk_at "w"
   refine⟨by omega,?_⟩
   rw[zj]
   exact q
  ·
   walk_at "w"
   intro c
   refine⟨_,aj (aj (aj aC)),?_⟩
   have:=h c
   simp only[wayL,onL,if_true,List.map_map]at this
   exact this
 ·
  rename_i hw
  have hw:w=false:=by simpa using hw
  subst hw
  unfold p5
  walk_at "w"
  rw[f2]
  refine⟨by omega,⟨by omega,by omega⟩,?_⟩
  rw[gA,Int.toNat_natCast]
  refine⟨by rw[List.length_map,List.length_range];exact Nat.le_trans (show _≤12 by omega) (by decide),?_⟩
  refine c6 (h:=fun s=>D.int (((R.asks[k].one+R.n-1-s) % R.n:Nat):Int)) _ _ _ (fun s hs Q q=>?_) fun l'=>?_
  ·
   unfold pY
   walk_at "w"
   refine⟨by omega,?_⟩
   have hs:=List.mem_range.mp hs
   rw[Ei (by omega) (by omega)]
   exact q
  ·
   walk_at "w"
   intro c
   refine⟨_,aj (aj (aj aC)),?_⟩
   have:=h c
   simp only[wayL,xq,Bool.false_eq_true,if_false,List.map_map]at this
   exact this
def jP:FS:=fun ls post=>∃(R:Ring)(k:Nat)(w:Bool)(t:Nat)(hk:k<R.asks.length),ls=[.d (aK R),.d (.int k),.d (.str (wayS w)),.d (.int t)]∧R.Ok∧t<R.n∧post (.d (.bl (isOn R.n R.asks[k] t == w))) ls
def qa:W Fl:=(wRet (wBin opEq (wVar 7) (wBin opEq (wVar 2) (wC (.str "on")))))
def qc:W Fl:=(wSeq (wSet 7 (wBin opLt (wBin dZ (wBin fm (wVar 3) (wVar 5)) (wVar 4)) (wBin dZ (wBin fm (wVar 6) (wVar 5)) (wVar 4))))
  qa)
def qd:W Fl:=(wSeq (wSet 6 (wBin opIx (wBin opIx (wBin opIx (wVar 0) (wC (.int 1))) (wVar 1)) (wC (.int 2))))
  qc)
def qe:W Fl:=(wSeq (wSet 5 (wBin opIx (wBin opIx (wBin opIx (wVar 0) (wC (.int 1))) (wVar 1)) (wC (.int 1))))
  qd)
def qf:W Fl:=(wSeq (wSet 4 (wFrz (aO bL (aVal (wBin opIx (wVar 0) (wC (.int 0))) aNil))))
  qe)
theorem yj:∀ls post,ls.length=4→jP ls post→qf (ls++List.replicate 4 .un) (aM ls post):=by
 rintro ls post - ⟨R,k,w,t,hk,rfl,hR,ht,h⟩
 have ha:=hR.ask _ (List.getElem_mem hk)
 have h1:=ha.one
 have h2:=ha.other
 unfold qf
 walk_at "w"
 unfold qe
 walk_at "w"
 refine⟨_,bD hk,?_⟩
 walk_at "w"
 unfold qd
 walk_at "w"
 refine⟨_,bD hk,?_⟩
 walk_at "w"
 unfold qc
 walk_at "w"
 rw[sO h1 h2,sO h1 ht]
 refine⟨by omega,by omega,?_⟩
 unfold qa
 walk_at "w"
 refine⟨_,aj (aj (aj (aj aC))),?_⟩
 have e:decide (decide ((((t+R.n-R.asks[k].one) % R.n:Nat):Int)<(((R.asks[k].other+R.n-R.asks[k].one) % R.n:Nat):Int))=decide (w=true))=(isOn R.n R.asks[k] t == w):=by
  have e1:decide ((((t+R.n-R.asks[k].one) % R.n:Nat):Int)<(((R.asks[k].other+R.n-R.asks[k].one) % R.n:Nat):Int))=isOn R.n R.asks[k] t:=by
   unfold isOn far
   rw[decide_eq_decide]
   omega
  rw[e1]
  cases isOn R.n R.asks[k] t<;>cases w<;>rfl
 rw[e]
 exact h
def iY:FS:=fun ls post=>∃(R:Ring)(ps:List Rat)(k t:Nat)(hk:k<R.asks.length)(hp:k<ps.length),ls=[.d (aK R),.d (.lst (ps.map frD)),.d (.int k),.d (.int t)]∧R.Ok∧RB 4400 ps[k]∧t<R.n∧post (.d (frD (sent R.n R.asks[k] ps[k] t))) ls
def kY:W Fl:=(wSeq (wIf (aN (aD jP (aVal (wVar 0) (aVal (wVar 2) (aVal (wC (.str "on")) (aVal (wVar 3) aNil)))))) (wRet (wBin opIx (wVar 1) (wVar 2))) bu)
  (wRet (aD oM (aVal (wBin opIx (wBin opIx (wBin opIx (wVar 0) (wC (.int 1))) (wVar 2)) (wC (.int 3))) (aVal (wBin opIx (wVar 1) (wVar 2)) aNil)))))
theorem t8:∀ls post,ls.length=4→iY ls post→kY (ls++List.replicate 0 .un) (aM ls post):=by
 rintro ls post - ⟨R,ps,k,t,hk,hp,rfl,hR,hb,ht,h⟩
 have ha:=hR.ask _ (List.getElem_mem hk)
 unfold kY
 walk_at "w"
 refine⟨R,k,true,t,hk,rfl,hR,ht,?_⟩
 walk_at "w"
 unfold sent at h
 cases e:isOn R.n R.asks[k] t
 ·
  rw[e]at h
  walk_at "w"
  refine⟨_,bD hk,?_⟩
  walk_at "w"
  refine⟨_,bD hp,?_⟩
  exact CQ ((hR.rb (List.getElem_mem hk)).mono (by decide)) (hb.mono (by decide)) ⟨_,aj (aj (aj (aj aC))),h⟩
 ·
  rw[e]at h
  walk_at "w"
  exact⟨_,bD hp,_,aj (aj (aj (aj aC))),h⟩
def nk:FS:=fun ls post=>∃(R:Ring)(ps:List Rat)(t:Nat),ls=[.d (aK R),.d (.lst (ps.map frD)),.d (.int t)]∧R.Ok∧ps.length=R.asks.length∧LB R ps∧t<R.n∧post (.d (frD (bM R.n R.asks ps t))) ls
def qg:W L:=(aD iY (aVal (wVar 1) (aVal (wVar 2) (aVal (wVar 0) (aVal (wVar 3) aNil)))))
def qh:W Fl:=(wRet (aD l3 (aVal (wFrz (fG 1 [0,1,2] (lG (aO bL (aVal (wBin opIx (wVar 0) (wC (.int 1))) aNil))) (aY 0) fY qg)) aNil)))
theorem yk:∀ls post,ls.length=3→nk ls post→qh (ls++List.replicate 0 .un) (aM ls post):=by
 rintro ls post - ⟨R,ps,t,rfl,hR,hl,hb,ht,h⟩
 have hfew:=hR.few
 unfold qh
 walk_at "w"
 refine⟨⟨by omega,by omega⟩,?_⟩
 rw[Int.toNat_natCast,gA]
 refine⟨by rw[List.length_map,List.length_range];exact Nat.le_trans hfew (by decide),?_⟩
 refine c6 (h:=fun k=>frD (((R.asks.zip ps).map fun x=>sent R.n x.1 x.2 t).getD k 0)) _ _ _ (fun k hk Q q=>?_) fun l' a=>?_
 ·
  have hk:=List.mem_range.mp hk
  unfold qg
  walk_at "w"
  refine⟨R,ps,k,t,hk,by omega,rfl,hR,(hb.p _ (List.getElem_mem _)).mono (by decide),ht,?_⟩
  walk_at "w"
  have e:(((R.asks.zip ps).map fun x=>sent R.n x.1 x.2 t).getD k 0)=sent R.n R.asks[k] (ps[k]'(by omega)) t:=by
   rw[List.getD_eq_getElem?_getD,List.getElem?_map,List.getElem?_eq_getElem (by rw[List.length_zip];omega),List.getElem_zip]
   rfl
  rw[e]at q
  exact q
 ·
  walk_at "w"
  have e:(List.range R.asks.length).map (fun k=>frD (((R.asks.zip ps).map fun x=>sent R.n x.1 x.2 t).getD k 0))=((R.asks.zip ps).map fun x=>sent R.n x.1 x.2 t).map frD:=by
   refine Cc _ (by rw[List.length_map,List.length_zip];omega) _ fun k hk=>?_
   rw[List.getD_eq_getElem?_getD,List.getElem?_eq_getElem hk]
   rfl
  rw[e]
  refine⟨_,_,rfl,.inl rfl,by rw[List.length_map,List.length_zip];omega,fun q hq=>?_,hb.sm t,⟨_,aj (aj (aj aC)),h⟩⟩
  obtain⟨x,hx,rfl⟩:=List.mem_map.mp hq
  obtain⟨j,hj,e⟩:=List.mem_iff_getElem.mp hx
  have hj':j<R.asks.length:=by rw[List.length_zip]at hj;omega
  rw[List.getElem_zip]at e
  rw[← e]
  exact(hb.st j hj' (by omega) t).mono (by decide)
def kZ:FS:=fun ls post=>∃(R:Ring)(ps:List Rat),ls=[.d (aK R),.d (.lst (ps.map frD))]∧R.Ok∧ps.length=R.asks.length∧LB R ps∧∀a,post (.own a (frL R.n (bM R.n R.asks ps))) ls
def nV:W L:=(aD nk (aVal (wVar 1) (aVal (wVar 2) (aVal (wVar 0) aNil))))
def nq:W Fl:=(wRet (fG 1 [0,1] (lG (aO bL (aVal (wBin opIx (wVar 0) (wC (.int 0))) aNil))) (aY 0) fY nV))
theorem vW:∀ls post,ls.length=2→kZ ls post→nq (ls++List.replicate 0 .un) (aM ls post):=by
 rintro ls post - ⟨R,ps,rfl,hR,hl,hb,h⟩
 have hhi:=hR.hi
 unfold nq
 walk_at "w"
 refine⟨⟨by omega,by omega⟩,?_⟩
 rw[Int.toNat_natCast,gA]
 refine⟨by rw[List.length_map,List.length_range];exact Nat.le_trans hhi (by decide),?_⟩
 refine c6 (h:=fun t=>frD (bM R.n R.asks ps t)) _ _ _ (fun t ht Q q=>?_) fun l' a=>?_
 ·
  unfold nV
  walk_at "w"
  refine⟨R,ps,t,rfl,hR,hl,hb,List.mem_range.mp ht,?_⟩
  walk_at "w"
  exact q
 ·
  walk_at "w"
  exact⟨_,aj (aj aC),h a⟩
def gN:FS:=fun ls post=>∃(R:Ring)(ps:List Rat),ls=[.d (aK R),.d (.lst (ps.map frD))]∧R.Ok∧ps.length=R.asks.length∧LB R ps∧∀a,post (.own a (frL R.n (aF R ps))) ls
def j7:W L:=(aD tY (aVal (wVar 0) (aVal (wVar 1) aNil)))
def iZ:W Fl:=(wRet (fG 2 [] (wZip (aD kZ (aVal (wVar 0) (aVal (wVar 1) aNil))) (wBin opIx (wVar 0) (wC (.int 0)))) (fF [0,1]) fY j7))
theorem qP:∀ls post,ls.length=2→gN ls post→iZ (ls++List.replicate 0 .un) (aM ls post):=by
 rintro ls post - ⟨R,ps,rfl,hR,hl,hb,h⟩
 have hhi:=hR.hi
 unfold iZ
 walk_at "w"
 refine⟨R,ps,rfl,hR,hl,hb,fun _=>?_⟩
 walk_at "w"
 rw[zv,Cg]
 refine⟨by rw[List.length_map,List.length_range];exact Nat.le_trans hhi (by decide),?_⟩
 refine vg (h:=fun t=>frD (aF R ps t)) _ _ _ _ (fun t ht Q q=>?_) fun l m a=>?_
 ·
  have ht:=List.mem_range.mp ht
  obtain⟨r1,r2⟩:=cH hR ht
  unfold j7
  walk_at "w"
  exact⟨_,_,rfl,(hb.all hl t).mono (by decide),r2.mono (by decide),(by grind),q⟩
 ·
  walk_at "w"
  exact⟨_,aj (aj aC),h a⟩
def topP(R:Ring)(ps:List Rat):D:=.tup [frD (aF R ps (topI R.n (aF R ps))),.int (topI R.n (aF R ps):Nat)]
def qj:FS:=fun ls post=>∃(R:Ring)(ps:List Rat),ls=[.d (aK R),.d (.lst (ps.map frD))]∧R.Ok∧ps.length=R.asks.length∧LB R ps∧post (.d (topP R ps)) ls
def rS:W Fl:=(wIf (aN (aD jO (aVal (wBin opIx (wVar 2) (wVar 3)) (aVal (wVar 5) aNil)))) (wSet 3 (wVar 4)) bu)
def t9:W Fl:=(wSeq (wSet 2 (wFrz (aD gN (aVal (wVar 0) (aVal (wVar 1) aNil)))))
  (wSeq (wSet 3 (wC (.int 0)))
  (wSeq (wFor (z9 (wVar 2)) (fF [4,5]) rS)
  (wRet (wTup (aVal (wBin opIx (wVar 2) (wVar 3)) (aVal (wVar 3) aNil)))))))
theorem Ay:∀ls post,ls.length=2→qj ls post→t9 (ls++List.replicate 4 .un) (aM ls post):=by
 rintro ls post - ⟨R,ps,rfl,hR,hl,hb,h⟩
 have hlo:=hR.lo
 have sb:∀t,t<R.n→RB 4400 (aF R ps t):=fun t ht=>((hb.all hl t).div (cH hR ht).2 (by have:=(cH hR ht).1;grind)).mono (by decide)
 unfold t9
 walk_at "w"
 refine⟨R,ps,rfl,hR,hl,hb,fun _=>?_⟩
 walk_at "w"
 rw[G5]
 refine dN (enc:=fun (t:Nat)=>D.tup [.int (t:Int),frD (aF R ps t)]) (List.range R.n) (fun pre ρ=>∃(b:Nat)(x4 x5:L),ρ=[.d (aK R),.d (.lst (ps.map frD)),.d (.lst (frL R.n (aF R ps))),.d (.int b),x4,x5]∧b=pre.foldl (fun b t=>if aF R ps b<aF R ps t then t else b) 0∧b<R.n) _ ⟨0,_,_,rfl,rfl,by omega⟩ ?_ ?_
 ·
  rintro pre t suf ρ hsp ⟨b,x4,x5,rfl,hbe,hbn⟩ Q h1 h2 h3 h4
  have ht:t<R.n:=List.mem_range.mp (by rw[hsp];simp)
  have ef:(pre++[t]).foldl (fun b t=>if aF R ps b<aF R ps t then t else b) 0=if aF R ps b<aF R ps t then t else b:=by
   rw[List.foldl_append,← hbe];rfl
  unfold rS
  walk_at "w"
  refine⟨_,B1 hbn,_,_,rfl,(sb _ hbn).mono (by decide),(sb _ ht).mono (by decide),?_⟩
  walk_at "w"
  split
  ·
   rename_i hlt
   rw[if_pos hlt]at ef
   exact h1 _ ⟨t,_,_,rfl,ef.symm,ht⟩
  ·
   rename_i hlt
   rw[if_neg hlt]at ef
   exact h1 _ ⟨b,_,_,rfl,ef.symm,hbn⟩
 ·
  rintro ρ ⟨b,x4,x5,rfl,hbe,hbn⟩
  walk_at "w"
  refine⟨_,B1 hbn,by decide,_,aj (aj aC),?_⟩
  have e:b=topI R.n (aF R ps):=hbe
  rw[e]
  exact h
def d6:FS:=fun ls post=>∃(qs:List Rat)(P:Nat),ls=[.d (.lst (qs.map frD))]∧(∀q∈qs,q.den∣P)∧0<P∧P<2^4400∧post (.d (.int (cbN qs))) ls
def gj:W Fl:=(wSet 1 (aD eR (aVal (wVar 1) (aVal (wBin opIx (wVar 2) (wC (.int 1))) aNil))))
def eV:W Fl:=(wSeq (wSet 1 (wC (.int 1)))
  (wSeq (wFor (wSrc (wVar 0)) (aY 2) gj)
  (wRet (jS 1))))
theorem nr:∀ls post,ls.length=1→d6 ls post→eV (ls++List.replicate 2 .un) (aM ls post):=by
 rintro ls post - ⟨qs,P,rfl,hd,hP,hP2,h⟩
 unfold eV
 walk_at "w"
 refine dN (enc:=frD) qs (fun pre ρ=>∃x2,ρ=[.d (.lst (qs.map frD)),.d (.int (cbN pre)),x2]) _ ⟨_,rfl⟩ ?_ ?_
 ·
  rintro pre q suf ρ hsp ⟨x2,rfl⟩ Q h1 h2 h3 h4
  have hq:q.den∣P:=hd q (by rw[hsp];simp)
  have hc:cbN pre∣P:=Eu fun p hp=>hd p (by rw[hsp];simp[hp])
  have e:cbN (pre++[q])=Nat.lcm (cbN pre) q.den:=by unfold cbN;rw[List.foldl_append];rfl
  rw[e]at h1
  unfold gj
  walk_at "w"
  refine⟨cbN pre,q.den,rfl,den_pos q,Nat.lt_of_le_of_lt (Nat.le_of_dvd hP hc) hP2,Nat.lt_of_le_of_lt (Nat.le_of_dvd hP hq) hP2,?_⟩
  exact h1 _ ⟨_,rfl⟩
 ·
  rintro ρ ⟨x2,rfl⟩
  walk_at "w"
  exact⟨_,aj aC,h⟩
def gO:FS:=fun ls post=>∃(qs:List Rat)(u:Nat),ls=[.d (.lst (qs.map frD)),.d (.int u)]∧qs.length≤63∧(∀q∈qs,RB 4400 q)∧u<2^4400∧∀c,post (.own c (qs.map fun q=>D.int (jV u q))) ls
def nW:W L:=(wBin aZ (wBin opIx (wVar 0) (wC (.int 0))) (wBin mL (wVar 1) (wBin opIx (wVar 0) (wC (.int 1)))))
def nu:W Fl:=(wRet (fG 1 [1] (wSrc (wVar 0)) (aY 0) fY nW))
theorem vX:∀ls post,ls.length=2→gO ls post→nu (ls++List.replicate 0 .un) (aM ls post):=by
 rintro ls post - ⟨qs,u,rfl,hl,hq,hu,h⟩
 unfold nu
 walk_at "w"
 refine⟨Nat.le_trans hl (by decide),?_⟩
 refine c6 (h:=fun q=>D.int (jV u q)) _ _ _ (fun q hm Q hQ=>?_) fun l' c=>?_
 ·
  unfold nW
  walk_at "w"
  have hb:=hq q hm
  have e:(u:Int).fdiv (q.den:Int)=((u / q.den:Nat):Int):=by
   rw[Int.fdiv_eq_ediv_of_nonneg _ (by omega),Int.natCast_ediv]
  rw[e]
  refine⟨iE q,?_,hb.bn (by decide),?_,hQ⟩
  ·
   rw[Int.natAbs_natCast]
   exact Nat.lt_of_lt_of_le hb.2 (Nat.pow_le_pow_right (by decide) (by decide))
  ·
   exact lM (n:=4400) (by rw[Int.natAbs_natCast];exact Nat.lt_of_le_of_lt (Nat.div_le_self _ _) hu) (by decide)
 ·
  walk_at "w"
  exact⟨_,aj (aj aC),h c⟩
def nv:FS:=fun ls post=>∃(R:Ring)(q:Rat),ls=[.d (aK R),.d (frD q)]∧R.Ok∧RB 1750 q∧post (.d (.tup [.int (aT R q),.lst (intL R.asks.length (wI R q)),.lst (intL R.n (f0I R q))])) ls
def qk:W L:=(aD tX (aVal (wVar 1) (aVal (wVar 0) aNil)))
def ql:W L:=(wBin opIx (wVar 0) (wC (.int 3)))
def qm:W Fl:=(wSeq (wSet 2 (fG 1 [] (wSrc (wBin opIx (wVar 0) (wC (.int 1)))) (aY 0) fY ql))
  (wSeq (wSet 3 (fG 1 [1] (wSrc (wBin opIx (wVar 0) (wC (.int 0)))) (aY 0) fY qk))
  (wSeq (wSet 4 (wFrz (wBin aZ (wC (.int 2)) (aD d6 (aVal (wFrz (wBin bK (wVar 2) (wVar 3))) aNil)))))
  (wRet (wTup (aVal (wVar 4) (aVal (wFrz (aD gO (aVal (wVar 2) (aVal (wVar 4) aNil)))) (aVal (wFrz (aD gO (aVal (wVar 3) (aVal (wVar 4) aNil)))) aNil))))))))
theorem yl:∀ls post,ls.length=2→nv ls post→qm (ls++List.replicate 3 .un) (aM ls post):=by
 rintro ls post - ⟨R,q,rfl,hR,hq,h⟩
 have hfew:=hR.few
 have hhi:=hR.hi
 unfold qm
 walk_at "w"
 refine⟨Nat.le_trans hfew (by decide),?_⟩
 refine c6 (h:=fun a=>frD a.size) _ _ _ (fun a hm Q hQ=>?_) fun l' c1=>?_
 ·
  unfold ql
  walk_at "w"
  exact hQ
 walk_at "w"
 refine⟨Nat.le_trans hhi (by decide),?_⟩
 refine c6 (h:=fun r=>frD (q*r)) _ _ _ (fun r hm Q hQ=>?_) fun l' c2=>?_
 ·
  unfold qk
  walk_at "w"
  refine⟨_,_,rfl,hq.mono (by decide),(hR.room r hm).2.mono (by decide),?_⟩
  walk_at "w"
  exact hQ
 obtain⟨u0,u1⟩:=ej hR hq
 have e1:R.asks.map (fun a=>frD a.size)=(j4 R).map frD:=by unfold j4;rw[List.map_map];rfl
 have e2:R.rooms.map (fun r=>frD (q*r))=(qL R q).map frD:=by unfold qL;rw[List.map_map];rfl
 rw[e1,e2]
 walk_at "w"
 rw[← List.map_append]
 have ls1:(j4 R).length≤20:=by unfold j4;rw[List.length_map];exact hfew
 have ls2:(qL R q).length≤12:=by unfold qL;rw[List.length_map];exact hhi
 have c0:=Cs R q
 have c1':cbR R q<2^3750:=Nat.lt_of_le_of_lt (show cbR R q≤aT R q by unfold aT;omega) u1
 refine⟨Nat.le_trans (show _≤32 by omega) (by decide),fun _=>⟨_,cbR R q,rfl,fun p hp=>Cp hp,c0,Nat.lt_of_lt_of_le c1' (Nat.pow_le_pow_right (by decide) (by decide)),?_⟩⟩
 walk_at "w"
 have eu:(2:Int)*((cbN (j4 R++qL R q):Nat):Int)=((aT R q:Nat):Int):=by
  show(2:Int)*((cbR R q:Nat):Int)=((2*cbR R q:Nat):Int)
  omega
 rw[eu]
 have u2:aT R q<2^4400:=Nat.lt_of_lt_of_le u1 (Nat.pow_le_pow_right (by decide) (by decide))
 refine⟨a8 (by decide),lM (n:=3750) (by rw[Int.natAbs_natCast];exact c1') (by decide),?_⟩
 refine⟨j4 R,aT R q,rfl,by omega,fun p hp=>?_,u2,fun c3=>?_⟩
 ·
  obtain⟨a,ha,rfl⟩:=List.mem_map.mp hp
  exact(hR.rb ha).mono (by decide)
 walk_at "w"
 refine⟨qL R q,aT R q,rfl,by omega,fun p hp=>?_,u2,fun c4=>?_⟩
 ·
  obtain⟨r,hr,rfl⟩:=List.mem_map.mp hp
  exact(hq.mul (hR.room r hr).2).mono (by decide)
 walk_at "w"
 rw[Jf,Jg]
 exact⟨by decide,_,aj (aj aC),h⟩
def eW:FS:=fun ls post=>∃(R:Ring)(k:Nat)(w:Nat→Int)(c:Nat×Nat),ls=[.d (aK R),.d (.int k),.d (.lst (intL R.asks.length w)),.d (cutP c)]∧R.Ok∧k<R.asks.length∧bP R.n c∧post (.d (.int (dI R w (k+1) c.1 c.2))) ls
def ir:W L:=(wBin opIx (wVar 1) (wVar 0))
def fP:W Fl:=(wSeq (wSet 4 (wBin opIx (wVar 0) (wC (.int 1))))
  (wRet (aO II (aVal (wFrz (fG 1 [2,3,4] (Bh (wBin bK (wVar 1) (wC (.int 1))) (aO bL (aVal (wVar 4) aNil))) (aY 0) (aN (aD dc (aVal (wVar 2) (aVal (wBin opIx (wBin opIx (wVar 3) (wVar 0)) (wC (.int 1))) (aVal (wBin opIx (wBin opIx (wVar 3) (wVar 0)) (wC (.int 2))) aNil))))) ir)) aNil))))
theorem ou:∀ls post,ls.length=4→eW ls post→fP (ls++List.replicate 1 .un) (aM ls post):=by
 rintro ls post - ⟨R,k,w,c,rfl,hR,hk,hc,h⟩
 have hfew:=hR.few
 unfold fP
 walk_at "w"
 have el:((R.asks.length:Int)-((k:Int)+1)).toNat=R.asks.length-(k+1):=by omega
 rw[el]
 have er:rngD ((k:Int)+1) (R.asks.length-(k+1))=(List.range (R.asks.length-(k+1))).map fun (i:Nat)=>D.int ((k+1+i:Nat):Int):=by
  unfold rngD
  refine List.map_congr_left fun i _=>?_
  congr 1
 rw[er]
 refine⟨⟨by omega,by omega⟩,⟨by omega,by omega⟩,by rw[List.length_map,List.length_range];exact Nat.le_trans (show _≤20 by omega) (by decide),?_⟩
 refine gb (h:=fun i=>if apart c (bZ R (k+1+i)).one (bZ R (k+1+i)).other=true then some (D.int (w (k+1+i)))else none) _ _ _ (fun i hi Q q=>?_) fun l' cc=>?_
 ·
  have hi:k+1+i<R.asks.length:=by have:=List.mem_range.mp hi;omega
  unfold ir
  walk_at "w"
  refine⟨_,bD hi,?_⟩
  walk_at "w"
  refine⟨_,bD hi,?_⟩
  walk_at "w"
  refine⟨c,_,_,rfl,?_⟩
  rw[c8 hi]at q
  cases e:apart c R.asks[k+1+i].one R.asks[k+1+i].other
  ·
   rw[e]at q
   walk_at "w"
   exact q
  ·
   rw[e]at q
   walk_at "w"
   exact⟨_,tE hi,q⟩
 ·
  walk_at "w"
  rw[gG (fun i=>apart c (bZ R (k+1+i)).one (bZ R (k+1+i)).other) (fun i=>w (k+1+i))]
  refine⟨_,rfl,?_⟩
  rw[pJ]
  have e:dI R w (k+1) c.1 c.2=((List.range (R.asks.length-(k+1))).map fun i=>if apart c (bZ R (k+1+i)).one (bZ R (k+1+i)).other=true then w (k+1+i)else 0).sum:=by
   unfold dI
   congr 1
   refine List.map_congr_left fun i hi=>?_
   have hi:k+1+i<R.asks.length:=by have:=List.mem_range.mp hi;omega
   rw[pD (gE hR hi) hc]
   rfl
  rw[← e]
  exact⟨_,aj (aj (aj (aj aC))),h⟩
def ny:FS:=fun ls post=>∃(R:Ring)(k:Nat)(w f:Nat→Int),ls=[.d (aK R),.d (.int k),.d (.lst (intL R.asks.length w)),.d (.lst (intL R.n f))]∧R.Ok∧k<R.asks.length∧bV (w k)∧post (.d (.int (sW R w f k))) ls
def qn:W Fl:=(wSet 5 (wFrz (aO zV (aVal (wVar 5) (aVal (wBin fm (wBin bK (wBin opIx (wVar 3) (wVar 6)) (wBin opIx (wVar 3) (wVar 7))) (aD eW (aVal (wVar 0) (aVal (wVar 1) (aVal (wVar 2) (aVal (wTup (aVal (wVar 6) (aVal (wVar 7) aNil))) aNil)))))) aNil)))))
def qo:W Fl:=(wIf (aN (wBin opLe (wVar 6) (wVar 7))) qn bu)
def qp:W Fl:=(wFor (wSrc (wVar 4)) (aY 7) qo)
def qq:W Fl:=(wSeq (wSet 4 (wFrz (aO yX (aVal (wFrz (aD nj (aVal (wVar 0) (aVal (wVar 1) (aVal (wC (.str "on")) aNil))))) aNil))))
  (wSeq (wSet 5 (wFrz (wBin aZ (wC (.int 2)) (wBin opIx (wVar 2) (wVar 1)))))
  (wSeq (wFor (wSrc (wVar 4)) (aY 6) qp)
  (wRet (wBin mL (wVar 5) (wC (.int 2)))))))
theorem ym:∀ls post,ls.length=4→ny ls post→qq (ls++List.replicate 4 .un) (aM ls post):=by
 rintro ls post - ⟨R,k,w,f,rfl,hR,hk,hb,h⟩
 have hhi:=hR.hi
 unfold qq
 walk_at "w"
 refine⟨R,k,true,hk,rfl,hR,fun c=>?_⟩
 walk_at "w"
 have hwl:=G1 (hR.ask _ (List.getElem_mem hk)) true
 refine⟨(wayL R.n R.asks[k] true).map fun (t:Nat)=>(t:Int),by rw[List.map_map];rfl,by rw[List.length_map];omega,fun c2=>?_⟩
 rw[← c8 hk,Es,List.map_map]
 have eT:(onT R k).map (D.int ∘ fun (t:Nat)=>(t:Int))=(onT R k).map fun (t:Nat)=>D.int (t:Int):=rfl
 rw[eT]
 walk_at "w"
 refine⟨_,tE hk,a8 (by decide),hb,?_⟩
 have hT:∀t∈onT R k,t<R.n:=fun t ht=>((kE hR hk).mp ht).1
 refine dN (enc:=fun (t:Nat)=>D.int (t:Int)) (onT R k) (fun pre ρ=>∃x6 x7,ρ=[.d (aK R),.d (.int k),.d (.lst (intL R.asks.length w)),.d (.lst (intL R.n f)),.d (.lst ((onT R k).map fun (t:Nat)=>D.int (t:Int))),.d (.int (j3 R w f k pre)),x6,x7]) _ ⟨_,_,rfl⟩ ?_ ?_
 ·
  rintro pre g suf ρ hsp ⟨x6,x7,rfl⟩ Q h1 h2 h3 h4
  have hg:g<R.n:=hT g (by rw[hsp];simp)
  have e1:j3 R w f k (pre++[g])=iG R w f k (j3 R w f k pre) g (onT R k):=by unfold j3;rw[List.foldl_append];rfl
  rw[e1]at h1
  unfold qp
  walk_at "w"
  refine dN (enc:=fun (t:Nat)=>D.int (t:Int)) (onT R k) (fun pre2 ρ=>∃x7,ρ=[.d (aK R),.d (.int k),.d (.lst (intL R.asks.length w)),.d (.lst (intL R.n f)),.d (.lst ((onT R k).map fun (t:Nat)=>D.int (t:Int))),.d (.int (iG R w f k (j3 R w f k pre) g pre2)),.d (.int g),x7]) _ ⟨_,rfl⟩ ?_ ?_
  ·
   rintro pre2 t suf2 ρ hsp2 ⟨x7,rfl⟩ Q2 g1 g2 g3 g4
   have ht:t<R.n:=hT t (by rw[hsp2];simp)
   have e2:iG R w f k (j3 R w f k pre) g (pre2++[t])=if decide (g≤t)then mnI (iG R w f k (j3 R w f k pre) g pre2) (valI R w f k g t)else iG R w f k (j3 R w f k pre) g pre2:=by unfold iG;rw[List.foldl_append];rfl
   rw[e2]at g1
   unfold qo
   walk_at "w"
   by_cases hgt:g≤t
   ·
    have hgt':(g:Int)≤(t:Int):=by omega
    simp only[hgt,hgt',decide_true,if_true]at g1 ⊢
    unfold qn
    walk_at "w"
    refine⟨_,tE hg,_,tE ht,?_⟩
    walk_at "w"
    refine⟨by decide,R,k,w,(g,t),rfl,hR,hk,⟨hgt,ht⟩,?_⟩
    walk_at "w"
    exact g1 _ ⟨_,rfl⟩
   ·
    have hgt':¬(g:Int)≤(t:Int):=by omega
    simp only[hgt,hgt',decide_false,if_false,Bool.false_eq_true]at g1 ⊢
    exact g1 _ ⟨_,rfl⟩
  ·
   rintro ρ ⟨x7,rfl⟩
   exact h1 _ ⟨_,_,rfl⟩
 ·
  rintro ρ ⟨x6,x7,rfl⟩
  walk_at "w"
  exact⟨by decide,by decide +kernel,_,aj (aj (aj (aj aC))),h⟩
def i4:FS:=fun ls post=>∃(R:Ring)(k:Nat)(w f:Nat→Int)(p:Int),ls=[.d (aK R),.d (.int k),.d (.lst (intL R.n f)),.d (.int p),.d (.int (w k-p))]∧R.Ok∧k<R.asks.length∧∀c,post (.own c (intL R.n (pE R w f k p))) ls
def l4:W L:=(wBin fm (wVar 1) (wIfE (aN (aD jP (aVal (wVar 2) (aVal (wVar 3) (aVal (wC (.str "on")) (aVal (wVar 0) aNil)))))) (wVar 4) (wVar 5)))
def k6:W Fl:=(wRet (fG 2 [0,1,3,4] (z9 (wVar 2)) (fF [0,1]) fY l4))
theorem vY(n:Nat)(f:Nat→Int):kB (intL n f)=(List.range n).map fun (t:Nat)=>D.tup [.int (t:Int),.int (f t)]:=by
 refine List.ext_getElem? fun j=>?_
 unfold kB intL
 by_cases hj:j<n
 ·
  simp[List.getElem?_range,hj]
 ·
  simp[hj]
theorem ua:∀ls post,ls.length=5→i4 ls post→k6 (ls++List.replicate 0 .un) (aM ls post):=by
 rintro ls post - ⟨R,k,w,f,p,rfl,hR,hk,h⟩
 have hhi:=hR.hi
 unfold k6
 walk_at "w"
 rw[vY]
 refine⟨by rw[List.length_map,List.length_range];exact Nat.le_trans hhi (by decide),?_⟩
 refine vg (h:=fun t=>D.int (pE R w f k p t)) (List.range R.n) _ _ _ (fun t ht Q hQ=>?_) fun l' m' c=>?_
 ·
  have ht:=List.mem_range.mp ht
  unfold l4
  walk_at "w"
  refine⟨R,k,true,t,hk,rfl,hR,ht,?_⟩
  unfold pE onA at hQ
  rw[c8 hk]at hQ
  cases e:isOn R.n R.asks[k] t
  ·
   rw[e]at hQ
   walk_at "w"
   exact hQ
  ·
   rw[e]at hQ
   walk_at "w"
   exact hQ
 ·
  walk_at "w"
  exact⟨_,aj (aj (aj (aj (aj aC)))),h c⟩
def de:FS:=fun ls post=>∃(R:Ring)(q:Rat),ls=[.d (aK R),.d (frD q)]∧R.Ok∧RB 1750 q∧∀c,post (.own c ((bf R q).map frD)) ls
def eX:W Fl:=(wSeq (wSet 8 (wFrz (aD ny (aVal (wVar 0) (aVal (wVar 6) (aVal (wVar 3) (aVal (wVar 4) aNil)))))))
  (wSeq (wSet 4 (wFrz (aD i4 (aVal (wVar 0) (aVal (wVar 6) (aVal (wVar 4) (aVal (wVar 8) (aVal (wBin fm (wVar 7) (wVar 8)) aNil))))))))
  (uX (wApp 5 (aD tV (aVal (wVar 8) (aVal (wBin opIx (wVar 2) (wC (.int 0))) aNil)))))))
def dG:W Fl:=(wSeq (wSet 2 (wFrz (aD nv (aVal (wVar 0) (aVal (wVar 1) aNil)))))
  (wSeq (wSet 3 (wBin opIx (wVar 2) (wC (.int 1))))
  (wSeq (wSet 4 (wBin opIx (wVar 2) (wC (.int 2))))
  (wSeq (wSet 5 (wLst aNil))
  (wSeq (wFor (z9 (wVar 3)) (fF [6,7]) eX)
  (wRet (jS 5)))))))
theorem CW{m k:Nat}{pre suf:List Nat}(h:List.range m=pre++k::suf):pre=List.range k∧k<m:=by
 have h1:(List.range m)[pre.length]?=some k:=by rw[h];simp
 have hl:pre.length<m:=by
  have:=congrArg List.length h
  simp at this
  omega
 rw[List.getElem?_range hl]at h1
 have h1:pre.length=k:=by simpa using h1
 refine⟨?_,by omega⟩
 have h2:(List.range m).take pre.length=pre:=by rw[h];simp
 rw[← h2,List.take_range,h1]
 congr 1
 omega
theorem Ju{R:Ring}(hR:R.Ok){q:Rat}(hq:RB 1750 q){k:Nat}(hk:k<R.asks.length):bV (wI R q k):=by
 exact lM (n:=4050) (G9 hR hq hk) (by decide)
theorem k7:∀ls post,ls.length=2→de ls post→dG (ls++List.replicate 7 .un) (aM ls post):=by
 rintro ls post - ⟨R,q,rfl,hR,hq,h⟩
 have hfew:=hR.few
 obtain⟨u0,u1⟩:=ej hR hq
 unfold dG
 walk_at "w"
 refine⟨R,q,rfl,hR,hq,?_⟩
 walk_at "w"
 refine⟨by decide,fun c=>?_⟩
 rw[vY]
 refine dN (enc:=fun (t:Nat)=>D.tup [.int (t:Int),.int (wI R q t)]) (List.range R.asks.length) (fun pre ρ=>∃x6 x7 x8,ρ=[.d (aK R),.d (frD q),.d (.tup [.int (aT R q),.lst (intL R.asks.length (wI R q)),.lst (intL R.n (f0I R q))]),.d (.lst (intL R.asks.length (wI R q))),.d (.lst (intL R.n (fAt R (wI R q) (f0I R q) pre.length))),.own c ((pre.map (pH R q)).map frD),x6,x7,x8]) _ ⟨_,_,_,rfl⟩ ?_ ?_
 ·
  rintro pre k suf ρ hsp ⟨x6,x7,x8,rfl⟩ Q h1 h2 h3 h4
  obtain⟨ep,hk⟩:=CW hsp
  have el:pre.length=k:=by rw[ep,List.length_range]
  have e1:(pre++[k]).length=k+1:=by rw[List.length_append,el];rfl
  rw[e1,List.map_append,List.map_append]at h1
  rw[el]
  unfold eX
  walk_at "w"
  refine⟨R,k,wI R q,_,rfl,hR,hk,Ju hR hq hk,?_⟩
  walk_at "w"
  refine⟨R,k,wI R q,_,_,rfl,hR,hk,fun c2=>?_⟩
  walk_at "w"
  refine⟨_,_,rfl,by omega,?_,?_⟩
  ·
   rw[Int.natAbs_natCast]
   exact Nat.lt_of_lt_of_le u1 (Nat.pow_le_pow_right (by decide) (by decide))
  walk_at "w"
  refine⟨Nat.lt_of_lt_of_le (show _<21 by rw[el];omega) (by decide),?_⟩
  exact h1 _ ⟨_,_,_,rfl⟩
 ·
  rintro ρ ⟨x6,x7,x8,rfl⟩
  walk_at "w"
  exact⟨_,aj (aj aC),h c⟩
def cI:FS:=fun ls post=>∃(R:Ring)(ps:List Rat),ls=[.d (aK R),.d (.lst (ps.map frD))]∧R.Ok∧ps.length=R.asks.length∧(∀p∈ps,RB 4400 p)∧post (.d (optI (c7 (bF R ps) ps.length))) ls
def d7:W Fl:=(wIf (wOr (aN (aD jO (aVal (wVar 3) (aVal (wC (.tup [(.int 0),(.int 1)])) aNil)))) (aN (aD jO (aVal (wBin opIx (wBin opIx (wBin opIx (wVar 0) (wC (.int 1))) (wVar 2)) (wC (.int 3))) (aVal (wVar 3) aNil))))) (wRet (jS 2)) bu)
def df:W Fl:=(wSeq (wFor (z9 (wVar 1)) (fF [2,3]) d7)
  (wRet (wC .non)))
theorem jW:∀ls post,ls.length=2→cI ls post→df (ls++List.replicate 2 .un) (aM ls post):=by
 rintro ls post - ⟨R,ps,rfl,hR,hl,hb,h⟩
 unfold df
 walk_at "w"
 rw[En]
 refine dN (enc:=fun (t:Nat)=>D.tup [.int (t:Int),frD (ps.getD t 0)]) (List.range ps.length) (fun pre ρ=>∃x2 x3,ρ=[.d (aK R),.d (.lst (ps.map frD)),x2,x3]∧∀j∈pre,bF R ps j=false) _ ⟨_,_,rfl,fun j hj=>by simp at hj⟩ ?_ ?_
 ·
  rintro pre k suf ρ hsp ⟨x2,x3,rfl,hpre⟩ Q h1 h2 h3 h4
  have hk:k<ps.length:=List.mem_range.mp (by rw[hsp];simp)
  have hpk:∀j,j<k→j∈pre:=fun j hj=>by
   have e:pre=List.range k:=by
    have hl2:pre.length=k:=by
     have:(pre++k::suf)[pre.length]?=some k:=by simp
     rw[← hsp,List.getElem?_range (by have:=congrArg List.length hsp;simp at this;omega)]at this
     exact Option.some.inj this
    have:=congrArg (List.take k) hsp
    rw[List.take_range,Nat.min_eq_left (by omega),← hl2,List.take_left]at this
    rw[← this,hl2]
   rw[e];exact List.mem_range.mpr hj
  have hk2:k<R.asks.length:=by omega
  have hpb:=hb _ (List.getElem_mem hk)
  have ha:=hR.ask _ (List.getElem_mem hk2)
  have ew:bF R ps k=(decide (ps[k]<0) ||decide (R.asks[k].size<ps[k])):=by
   unfold bF
   rw[iF hk,xx hk2]
  have fin:bF R ps k=true→Q (.rt (.d (.int (k:Int)))) [.d (aK R),.d (.lst (ps.map frD)),.d (.int (k:Int)),.d (frD ps[k])]:=fun hw=>by
   refine h4 _ _ ?_
   have e:=zw hk hw fun j hj=>hpre j (hpk j hj)
   rw[e]at h
   exact⟨_,aj (aj aC),h⟩
  have cont:bF R ps k=false→Q .nx [.d (aK R),.d (.lst (ps.map frD)),.d (.int (k:Int)),.d (frD ps[k])]:=fun hw=>by
   refine h1 _ ⟨_,_,rfl,fun j hj=>?_⟩
   rcases List.mem_append.mp hj with hj|hj
   ·
    exact hpre j hj
   ·
    rw[List.mem_singleton.mp hj];exact hw
  have z0:D.tup [.int 0,.int 1]=frD 0:=rfl
  rw[iF hk]
  unfold d7
  walk_at "w"
  rw[z0]
  refine⟨_,_,rfl,hpb.mono (by decide),RB.zero.mono (by decide),?_⟩
  walk_at "w"
  split
  ·
   rename_i c
   exact fin (by rw[ew,decide_eq_true c];rfl)
  ·
   rename_i c
   refine⟨_,bD hk2,?_⟩
   walk_at "w"
   refine⟨_,_,rfl,(hR.rb (List.getElem_mem hk2)).mono (by decide),hpb.mono (by decide),?_⟩
   walk_at "w"
   split
   ·
    rename_i c2
    exact fin (by rw[ew,decide_eq_true c2,Bool.or_true])
   ·
    rename_i c2
    exact cont (by rw[ew,decide_eq_false c,decide_eq_false c2];rfl)
 ·
  rintro ρ ⟨x2,x3,rfl,hpre⟩
  walk_at "w"
  have e:c7 (bF R ps) ps.length=none:=gf.mpr fun k hk=>hpre k (List.mem_range.mpr hk)
  rw[e]at h
  exact⟨_,aj (aj aC),h⟩
def gQ:FS:=fun ls post=>∃(R:Ring)(d:D),ls=[.d (aK R),.d d]∧R.Ok∧(∀(xs:List D)(q:Rat),d=.lst xs→frD q∈xs→RB 4400 q)∧post (.d (.bl (iI R d))) ls
def j8:W L:=(aD gL (aVal (wVar 0) aNil))
def fA:W Fl:=(wSeq (wIf (wOr (wNot (aN (wUn (ky "list") (wVar 1)))) (aN (wBin opNe (aO bL (aVal (wVar 1) aNil)) (aO bL (aVal (wBin opIx (wVar 0) (wC (.int 1))) aNil))))) (wRet (wC (.bl false))) bu)
  (wRet (jT (aO IK (aVal (wFrz (fG 1 [] (wSrc (wVar 1)) (aY 0) fY j8)) aNil)) (wBin z4 (aD cI (aVal (wVar 0) (aVal (wVar 1) aNil))) (wC .non)))))
theorem qQ:∀ls post,ls.length=2→gQ ls post→fA (ls++List.replicate 0 .un) (aM ls post):=by
 rintro ls post - ⟨R,d,rfl,hR,hb,h⟩
 have few:=hR.few
 by_cases hd:∃xs,d=.lst xs
 ·
  obtain⟨xs,rfl⟩:=hd
  unfold fA
  walk_at "w"
  have es:iI R (.lst xs)=(decide (xs.length=R.asks.length) && (xs.all ratB && (c7 (bF R (xs.map ratQ)) xs.length).isNone)):=rfl
  rw[es]at h
  by_cases hl:xs.length=R.asks.length
  ·
   rw[decide_eq_true hl,Bool.true_and]at h
   rw[if_neg (by rw[hl];simp)]
   refine⟨Nat.le_trans (by omega:xs.length≤20) (by decide),?_⟩
   rw[show xs=xs.map (fun d=>d)from(List.map_id' xs).symm]
   refine c6 (enc:=fun d=>d) (h:=fun d=>D.bl (ratB d)) xs _ _ (fun d hd Q hQ=>?_) fun l'=>?_
   ·
    unfold j8
    walk_at "w"
    refine⟨_,rfl,?_⟩
    walk_at "w"
    exact hQ
   ·
    simp only[List.map_id']
    walk_at "w"
    intro _
    refine⟨xs.map ratB,by rw[List.map_map];rfl,?_⟩
    have ea:(xs.map ratB).all id=xs.all ratB:=by simp
    rw[ea]
    cases e:xs.all ratB with
    | false =>
     rw[e,Bool.false_and]at h
     walk_at "w"
     exact⟨_,aj (aj aC),h⟩
    | true =>
     obtain⟨ps,rfl⟩:=tJ e
     rw[jI,List.length_map,e,Bool.true_and]at h
     walk_at "w"
     refine⟨R,ps,rfl,hR,by simpa using hl,fun p hp=>hb _ _ rfl (List.mem_map.mpr ⟨p,hp,rfl⟩),?_⟩
     cases e:c7 (bF R ps) ps.length with
     |none=>rw[e]at h;exact⟨_,aj (aj aC),h⟩
     |some k=>rw[e]at h;exact⟨_,aj (aj aC),h⟩
  ·
   rw[decide_eq_false hl,Bool.false_and]at h
   rw[if_pos (by omega)]
   exact⟨_,aj (aj aC),h⟩
 ·
  have e:iI R d=false:=by
   unfold iI
   split
   ·
    exact absurd ⟨_,rfl⟩ hd
   ·
    rfl
  rw[e]at h
  have ei:isTy "list" d=false:=by
   cases d<;>first
    |exact absurd ⟨_,rfl⟩ hd
    |rfl
  unfold fA
  walk_at "w"
  rw[ei]
  walk_at "w"
  exact⟨_,aj (aj aC),h⟩
def i5:FS:=fun ls post=>∃(R:Ring),ls=[.d (aK R)]∧R.Ok∧∀c,post (.bx none [.d (frD (gcut R).1),.own c ((bf R (gcut R).1).map frD),.d (cutP (gcut R).2)]) ls
def k8:W Fl:=(wSeq (wSet 1 (wFrz (aD eU (aVal (wVar 0) aNil))))
  (wRet (GE (aVal (wBin opIx (wVar 1) (wC (.int 0))) (aVal (aD de (aVal (wVar 0) (aVal (wBin opIx (wVar 1) (wC (.int 0))) aNil))) (aVal (wBin opIx (wVar 1) (wC (.int 1))) aNil))))))
theorem ub:∀ls post,ls.length=1→i5 ls post→k8 (ls++List.replicate 1 .un) (aM ls post):=by
 rintro ls post - ⟨R,rfl,hR,h⟩
 unfold k8
 walk_at "w"
 refine⟨R,rfl,hR,?_⟩
 walk_at "w"
 refine⟨R,_,rfl,hR,(kD hR).mono (by decide),fun c=>?_⟩
 walk_at "w"
 exact⟨by decide,_,aj aC,h c⟩
def nA:FS:=fun ls post=>∃(R:Ring)(d:D)(q:Rat),ls=[.d (aK R),.d d,.d (frD q)]∧R.Ok∧j5 R d∧post (.d (.bl (topB R q d))) ls
def qr:W Fl:=(wRet (jT (aD gQ (aVal (wVar 0) (aVal (wVar 1) aNil))) (wBin opEq (wBin opIx (aD qj (aVal (wVar 0) (aVal (wVar 1) aNil))) (wC (.int 0))) (wVar 2))))
theorem yn:∀ls post,ls.length=3→nA ls post→qr (ls++List.replicate 0 .un) (aM ls post):=by
 rintro ls post - ⟨R,d,q,rfl,hR,hs,h⟩
 unfold qr
 walk_at "w"
 refine⟨R,d,rfl,hR,hs.rb,?_⟩
 cases e:iI R d with
 | false =>
  rw[xI e]at h
  walk_at "w"
  exact⟨_,aj (aj (aj aC)),h⟩
 | true =>
  obtain⟨ps,rfl,hl,hn⟩:=tK e
  rw[oJ hl hn]at h
  walk_at "w"
  refine⟨R,ps,rfl,hR,hl,hs.lb ps rfl hl hn,?_⟩
  simp only[topP]
  walk_at "w"
  exact⟨_,aj (aj (aj aC)),h⟩
def i6:FS:=fun ls post=>∃(R:Ring)(d:D)(q:Rat),ls=[.d (aK R),.d d,.d (frD q)]∧R.Ok∧post (.d (.bl (tM R q d))) ls
def k9:W Fl:=(wRet (jT (aD pW (aVal (wVar 0) (aVal (wVar 1) aNil))) (wBin opEq (aD gM (aVal (wVar 0) (aVal (wVar 1) aNil))) (wVar 2))))
theorem uc:∀ls post,ls.length=3→i6 ls post→k9 (ls++List.replicate 0 .un) (aM ls post):=by
 rintro ls post - ⟨R,d,q,rfl,hR,h⟩
 unfold k9
 walk_at "w"
 refine⟨R,d,rfl,?_⟩
 cases e:cutB R.n d with
 | false =>
  rw[tN e]at h
  walk_at "w"
  exact⟨_,aj (aj (aj aC)),h⟩
 | true =>
  obtain⟨c,rfl,hc⟩:=xH e
  rw[lU hc]at h
  walk_at "w"
  refine⟨R,c,rfl,hR,hc,?_⟩
  walk_at "w"
  exact⟨_,aj (aj (aj aC)),h⟩
def ez:FS:=fun ls post=>∃(R:Ring)(d:D),ls=[.d (aK R),.d d]∧R.Ok∧(∀a b c,d=.tup [a,b,c]→j5 R b)∧post (.d (.bl (dS R d))) ls
def dW:W Fl:=(wSeq (wIf (wOr (wNot (aN (wUn (ky "tuple") (wVar 1)))) (wOr (aN (wBin opNe (aO bL (aVal (wVar 1) aNil)) (wC (.int 3)))) (wNot (aN (aD gL (aVal (wBin opIx (wVar 1) (wC (.int 0))) aNil)))))) (wRet (wC (.bl false))) bu)
  (wRet (jT (aD nA (aVal (wVar 0) (aVal (wBin opIx (wVar 1) (wC (.int 1))) (aVal (wBin opIx (wVar 1) (wC (.int 0))) aNil)))) (aD i6 (aVal (wVar 0) (aVal (wBin opIx (wVar 1) (wC (.int 2))) (aVal (wBin opIx (wVar 1) (wC (.int 0))) aNil)))))))
theorem qR:∀ls post,ls.length=2→ez ls post→dW (ls++List.replicate 0 .un) (aM ls post):=by
 rintro ls post - ⟨R,d,rfl,hR,hs,h⟩
 by_cases hd:∃xs,d=.tup xs
 ·
  obtain⟨xs,rfl⟩:=hd
  by_cases h3:xs.length=3
  ·
   obtain⟨a,b,c,rfl⟩:∃a b c,xs=[a,b,c]:=by
    match xs,h3 with
    |[a,b,c],_=>exact⟨a,b,c,rfl⟩
   have hb:=hs a b c rfl
   unfold dW
   walk_at "w"
   refine⟨_,rfl,?_⟩
   have el:dS R (.tup [a,b,c])=(ratB a && (topB R (ratQ a) b && tM R (ratQ a) c)):=rfl
   rw[el]at h
   cases ea:ratB a with
   | false =>
    rw[ea,Bool.false_and]at h
    walk_at "w"
    exact⟨_,aj (aj aC),h⟩
   | true =>
    obtain⟨q,rfl⟩:=tI ea
    rw[ea,Bool.true_and,gH]at h
    walk_at "w"
    refine⟨R,b,q,rfl,hR,hb,?_⟩
    cases eb:topB R q b with
    | false =>
     rw[eb,Bool.false_and]at h
     walk_at "w"
     exact⟨_,aj (aj aC),h⟩
    | true =>
     rw[eb,Bool.true_and]at h
     walk_at "w"
     refine⟨R,c,q,rfl,hR,?_⟩
     walk_at "w"
     exact⟨_,aj (aj aC),h⟩
  ·
   have el:dS R (.tup xs)=false:=by
    unfold dS
    split
    ·
     rename_i e
     injection e with e
     subst e
     exact absurd rfl h3
    ·
     rfl
   rw[el]at h
   unfold dW
   walk_at "w"
   rw[if_pos (by omega)]
   exact⟨_,aj (aj aC),h⟩
 ·
  have el:dS R d=false:=by
   unfold dS
   split
   ·
    exact absurd ⟨_,rfl⟩ hd
   ·
    rfl
  rw[el]at h
  have ei:isTy "tuple" d=false:=by
   cases d<;>first
    |exact absurd ⟨_,rfl⟩ hd
    |rfl
  unfold dW
  walk_at "w"
  rw[ei]
  walk_at "w"
  exact⟨_,aj (aj aC),h⟩
def cf:FS:=fun ls post=>∃(ns:List Int)(k:Int),ls=[.d (.lst (ns.map .int)),.d (.int k)]∧0≤k∧k≤100∧∀a xs,StOk xs→post (.own a xs) ls
def i7:W Fl:=(wSeq (wSet 2 (wC (.int 0)))
  (wSeq (wIf (aN (wBin opLt (wVar 1) (aO bL (aVal (wVar 0) aNil)))) (wSet 2 (wBin opIx (wVar 0) (wVar 1))) bu)
  (wRet (wLst (aVal (wVar 2) (aVal (wBin dZ (wBin bK (wBin bK (wBin dZ (wVar 2) (wC (.int 2147483587))) (wBin aZ (wBin aZ (wC (.int 48271)) (wVar 1)) (wVar 1))) (wC (.int 13))) (wC (.int 2147483587))) (aVal (wBin opGe (wVar 2) (wBin zT (wC (.int 10)) (wC (.int 18)))) aNil)))))))
theorem qS:∀ls post,ls.length=2→cf ls post→i7 (ls++List.replicate 1 .un) (aM ls post):=by
 rintro ls post - ⟨ns,k,rfl,h0,h1,h⟩
 unfold i7
 have fin:∀(c:Int)(ρ:Ev)(e:ρ=[.d (.lst (ns.map .int)),.d (.int k),.d (.int c)]),∀a:Addr,aM [.d (.lst (ns.map .int)),.d (.int k)] post (.rt (.own a [.int c,.int ((c.fmod 2147483587+48271*k*k+13).fmod 2147483587),.bl (decide ((10:Int)^18≤c))])) ρ:=fun c ρ e a=>by
  refine⟨_,aj (aj aC),h a _ ⟨_,_,_,rfl,?_,?_⟩⟩
  ·
   rw[Int.fmod_eq_emod_of_nonneg _ (by decide)];exact Int.emod_nonneg _ (by decide)
  ·
   rw[Int.fmod_eq_emod_of_nonneg _ (by decide)]
   have:=Int.emod_lt_of_pos (c.fmod 2147483587+48271*k*k+13) (b:=2147483587) (by decide)
   omega
 have hb1:bV 48271:=a8 (by decide)
 have hb2:bV k:=a8 (Nat.lt_of_le_of_lt (show k.natAbs≤100 by omega) (by decide))
 have hb3:bV (48271*k):=a8 (Nat.lt_of_le_of_lt (show(48271*k).natAbs≤4827100 by omega) (by decide))
 walk_at "w"
 try rw[List.length_map]
 split
 ·
  rename_i hk
  have hk:k<(ns.length:Int):=by simpa using hk
  have hi:k.toNat<ns.length:=by omega
  refine⟨.int ns[k.toNat],BO h0 (by rw[List.getElem?_map,List.getElem?_eq_getElem hi];rfl),?_⟩
  exact⟨by decide,hb1,hb2,hb3,hb2,by decide,by decide,by decide,by decide,by decide,fin _ _ rfl⟩
 ·
  exact⟨by decide,hb1,hb2,hb3,hb2,by decide,by decide,by decide,by decide,by decide,fin _ _ rfl⟩
def ay:FS:=fun ls post=>∃(a:Addr)(xs:List D)(m:Int),ls=[.own a xs,.d (.int m)]∧StOk xs∧0<m∧m≤10^60∧∀(r:Int)(ys:List D),StOk ys→0≤r→r<m→post (.d (.int r)) [.own a ys,.d (.int m)]
def gR:W Fl:=(wSeq (zX 0 (wC (.int 1)) (wBin dZ (wBin bK (wBin aZ (fZ 0 (wIxV 0 (wC (.int 1))) (wBin opIx (wVar 0) (wC (.int 1)))) (wC (.int 39373))) (wC (.int 17))) (wC (.int 2147483647))))
  (wSet 3 (wFrz (wBin bK (wBin aZ (wVar 3) (wC (.int 2147483629))) (wBin dZ (wBin aZ (fZ 0 (wIxV 0 (wC (.int 1))) (wBin opIx (wVar 0) (wC (.int 1)))) (fZ 0 (wIxV 0 (wC (.int 1))) (wBin opIx (wVar 0) (wC (.int 1))))) (wC (.int 2147483629)))))))
def la:W Fl:=(wSeq (wIf (aN (fZ 0 (wIxV 0 (wC (.int 2))) (wBin opIx (wVar 0) (wC (.int 2))))) (wSeq (wSet 2 (wBin dZ (fZ 0 (wIxV 0 (wC (.int 0))) (wBin opIx (wVar 0) (wC (.int 0)))) (wVar 1)))
  (wSeq (zX 0 (wC (.int 0)) (wBin mL (fZ 0 (wIxV 0 (wC (.int 0))) (wBin opIx (wVar 0) (wC (.int 0)))) (wVar 1)))
  (wSeq (zX 0 (wC (.int 2)) (wBin opGt (fZ 0 (wIxV 0 (wC (.int 0))) (wBin opIx (wVar 0) (wC (.int 0)))) (wC (.int 0))))
  (wRet (jS 2))))) bu)
  (wSeq (wSet 3 (wC (.int 0)))
  (wSeq (wFor (lG (wBin bK (wC (.int 1)) (wBin aZ (wC (.int 8)) (aO zW (aVal (wBin opGt (wVar 1) (wBin zT (wC (.int 10)) (wC (.int 6)))) aNil))))) (aY 4) gR)
  (wRet (wBin dZ (wBin mL (wVar 3) (wC (.int 64))) (wVar 1))))))
theorem vZ{a:Addr}{c:Int}{m x2:L}{post:Fl→Ev→Prop}:∀(items:List D)(sd dr:Int)(j:Nat)(x4:L),j+items.length≤100→0≤sd→sd<2147483647→0≤dr→dr<2^(40*j) →
  (∀sd' dr' x',0≤sd'→sd' < 2147483647→0≤dr'→post .nx [.own a [.int c,.int sd',.bl false],m,x2,.d (.int dr'),x']) →
  fW (aY 4) gR items [.own a [.int c,.int sd,.bl false],m,x2,.d (.int dr),x4] post
 |[],sd,dr,j,x4,_,h0,h1,h2,h3,h=>h sd dr x4 h0 h1 h2
 | y::items,sd,dr,j,x4,hl,h0,h1,h2,h3,h=>by
  unfold fW gR
  walk_at "w"
  obtain⟨r0,r1⟩:=gB (sd*39373+17) (m:=2147483647) (by decide)
  generalize (sd*39373+17).fmod 2147483647=s' at r0 r1 ⊢
  obtain⟨q0,q1⟩:=gB (s'*s') (m:=2147483629) (by decide)
  generalize (s'*s').fmod 2147483629=t' at q0 q1 ⊢
  have hl':j+(items.length+1)≤100:=hl
  have b1:bV sd:=xf (n:=40) h0 (by omega) (by decide)
  have b2:bV s':=xf (n:=40) r0 (by omega) (by decide)
  have b3:bV dr:=xf (n:=40*j) h2 h3 (by omega)
  have b4:bV 39373:=a8 (by decide)
  have b5:bV 2147483629:=a8 (by decide)
  refine⟨b1,b4,by decide,b3,b5,b2,b2,by decide,?_⟩
  refine vZ items s' (dr*2147483629+t') (j+1) _ (by omega) r0 r1 (by omega) ?_ h
  have e:(2:Int)^(40*(j+1))=2^(40*j)*1099511627776:=by
   rw[Nat.mul_succ,Int.pow_add];rfl
  omega
theorem ud:∀ls post,ls.length=2→ay ls post→la (ls++List.replicate 3 .un) (aM ls post):=by
 rintro ls post - ⟨a,xs,m,rfl,⟨c,sd,t,rfl,h0,h1⟩,hm,hM,h⟩
 unfold la
 have hm0:m≠0:=by omega
 have hmz:=vh (by omega) hM
 cases t with
 | true =>
  walk_at "w"
  obtain⟨r0,r1⟩:=gB c hm
  exact⟨hm0,hm0,hmz,_,d9 List.mem_cons_self (aj aC),h _ _ ⟨_,_,_,rfl,h0,h1⟩ r0 r1⟩
 | false =>
  walk_at "w"
  refine⟨by decide,by decide,by decide,a8 (by decide),a8 (by split<;>decide),⟨by split<;>decide,by split<;>decide⟩,?_⟩
  refine vZ (c:=c) _ sd 0 0 _ (by simp only[rngD,List.length_map,List.length_range];split<;>decide) h0 h1 (by decide) (by decide) fun sd' dr' x' g0 g1 g2=>?_
  walk_at "w"
  obtain⟨r0,r1⟩:=gB (dr'.fdiv 64) hm
  exact⟨by decide,by decide,hm0,_,d9 List.mem_cons_self (aj aC),h _ _ ⟨_,_,_,rfl,g0,g1⟩ r0 r1⟩
def gS:FS:=fun ls post=>∃(a:Addr)(xs:List D)(many:Nat),ls=[.own a xs,.d (.int many)]∧StOk xs∧many≤26 ∧
 ∀(zs:List Str)(c:Addr)(ys:List D),StOk ys→zs.length=many→(∀z∈zs,NmOk z)→zs.Nodup→post (.own c (zs.map .str)) [.own a ys,.d (.int many)]
def j9:W L:=(wBin bK (wBin bK (wSl2 (wVar 1) none (some (wVar 2))) (wBin opIx (wVar 3) (wBin dZ (wBin bK (wVar 4) (wVar 0)) (wC (.int 26))))) (wSl2 (wVar 1) (some (wBin bK (wVar 2) (wC (.int 1)))) none))
def ka:W Fl:=(wRet (fG 1 [3,4,2,5] (lG (wVar 1)) (aY 0) fY j9))
def kb:W Fl:=(wSeq (wSet 5 (wFrz (a5 ay 0 0 (aVar 0 (aVal (wC (.int 26)) aNil)))))
  ka)
def kc:W L:=(wBin opIx (wVar 1) (a5 ay 0 2 (aVar 2 (aVal (wC (.int 26)) aNil))))
def kd:W Fl:=(wSeq (wSet 4 (wFrz (a5 ay 0 0 (aVar 0 (aVal (wFrz (aO bL (aVal (wVar 3) aNil))) aNil)))))
  kb)
def ke:W Fl:=(wSeq (wSet 3 (wFrz (Gv "" (fG 1 [2,0] (lG (wBin bK (wC (.int 1)) (a5 ay 0 0 (aVar 0 (aVal (wC (.int 8)) aNil))))) (aY 0) fY kc))))
  kd)
def i8:W Fl:=(wSeq (wSet 2 (wC (.str "abcdefghijklmnopqrstuvwxyz")))
  ke)
theorem qT:∀ls post,ls.length=2→gS ls post→i8 (ls++List.replicate 4 .un) (aM ls post):=by
 rintro ls post - ⟨a,xs,many,rfl,hx,hm,h⟩
 unfold i8
 walk_at "w"
 unfold ke
 walk_at "w"
 refine⟨a,xs,8,rfl,hx,by decide,by decide,fun r ys hy r0 r1=>⟨ys,rfl,?_⟩⟩
 walk_at "w"
 refine⟨⟨by omega,by omega⟩,?_⟩
 rw[gA]
 refine⟨by rw[List.length_map,List.length_range];exact Nat.le_trans (show(1+r).toNat≤8 by omega) (by decide),?_⟩
 refine y7 _ (fun j ρ acc=>∃(l:L)(ys:List D)(cs:List Nat),ρ=[l,.d (.str sM),.own a ys]∧StOk ys∧acc=cs.map (fun c=>D.str ⟨#[c]⟩)∧cs.length=j∧∀c∈cs,pq c) _ _ ⟨_,ys,[],rfl,hy,rfl,rfl,fun c hc=>by simp at hc⟩ ?_ ?_
 ·
  rintro j x ρ acc hx ⟨l,ys,cs,rfl,hy,rfl,hl,hc⟩ Q hQ
  unfold fY kc
  walk_at "w"
  refine⟨a,ys,26,rfl,hy,by decide,by decide,fun q ws hw q0 q1=>⟨ws,rfl,by decide,_,rE q0 q1,?_⟩⟩
  refine hQ _ _ ⟨_,ws,cs++[q.toNat+97],rfl,hw,by simp,by simp[hl],fun c hm=>?_⟩
  rcases List.mem_append.mp hm with hm|hm
  ·
   exact hc c hm
  ·
   rw[List.mem_singleton.mp hm]
   unfold pq
   omega
 ·
  rintro ρ acc ⟨l,ys,cs,rfl,hy,rfl,hl,hc⟩
  rw[List.length_map,List.length_range]at hl
  walk_at "w"
  intro aa
  refine⟨cs.map fun c=>⟨#[c]⟩,by simp,by rw[zi,List.length_map];show cs.length+cs.length*0≤_;omega,?_⟩
  have hb:NmOk (Txt.join "" (cs.map fun c=>(⟨#[c]⟩:Str))):=by
   refine⟨?_,?_,?_⟩
   ·
    rw[mR];omega
   ·
    rw[mR];omega
   ·
    rw[mR];exact hc
  generalize Txt.join "" (cs.map fun c=>(⟨#[c]⟩:Str))=base at hb ⊢
  have hbl:=jG base
  have hb1:=hb.lo
  have hb2:=hb.hi
  unfold kd
  walk_at "w"
  refine⟨Nat.le_trans (show base.length≤8 by omega) (by decide),a,ys,base.length,rfl,hy,by omega,by omega,fun p ws hw p0 p1=>⟨ws,rfl,?_⟩⟩
  unfold kb
  walk_at "w"
  refine⟨a,ws,26,rfl,hw,by decide,by decide,fun t vs hv t0 t1=>⟨vs,rfl,?_⟩⟩
  unfold ka
  walk_at "w"
  refine⟨⟨by omega,by omega⟩,?_⟩
  rw[gA]
  refine⟨by rw[List.length_map,List.length_range];exact Nat.le_trans (show((many:Int)).toNat≤26 by omega) (by decide),?_⟩
  refine c6 (h:=fun k=>D.str (nameAt base p.toNat t.toNat k)) _ _ _ (fun k hk Q q=>?_) fun l'=>?_
  ·
   have hk:k<many:=by have:=List.mem_range.mp hk;omega
   unfold j9
   walk_at "w"
   refine⟨Nat.le_trans (show base.length≤8 by omega) (by decide),by decide,by decide,_,rE (i:=(t+(k:Int)).fmod 26) (gB _ (by decide)).1 (gB _ (by decide)).2,?_⟩
   have e1:=Ef (x:=base) p0 (by omega)
   have e2:=Ae (x:=base) (i:=p+1) (by omega) (by omega)
   have l1:(Txt.slice base none (some p)).length≤8:=by rw[jG,e1,List.length_take];omega
   have l2:(Txt.slice base (some (p+1)) none).length≤8:=by rw[jG,e2,List.length_drop];omega
   have e3:((t+(k:Int)).fmod 26).toNat=(t.toNat+k) % 26:=by
    rw[Int.fmod_eq_emod_of_nonneg _ (by decide)]
    omega
   have e4:Txt.slice base none (some p)++(⟨#[((t+(k:Int)).fmod 26).toNat+97]⟩:Str)++Txt.slice base (some (p+1)) none=nameAt base p.toNat t.toNat k:=by
    apply G0
    rw[lN,lN,e1,e2,e3]
    have:(p+1).toNat=p.toNat+1:=by omega
    simp[L2.nameAt,this]
   have one:∀c:Nat,(⟨#[c]⟩:Str).length=1:=fun _=>rfl
   have lc:(Txt.slice base none (some p)++(⟨#[((t+(k:Int)).fmod 26).toNat+97]⟩:Str)).length≤9:=by
    rw[jG,lN,List.length_append,← jG,← jG,one];omega
   refine⟨Nat.le_trans (show _≤9 by rw[one];omega) (by decide),Nat.le_trans (show base.length≤8 by omega) (by decide),Nat.le_trans (Nat.add_le_add lc l2) (by decide),?_⟩
   rw[e4]
   exact q
  ·
   walk_at "w"
   intro c
   refine⟨_,d9 (ys:=vs) (by simp) (aj aC),?_⟩
   have e:List.map (fun k=>D.str (nameAt base p.toNat t.toNat k)) (List.range ((many:Int)).toNat)=((List.range many).map fun k=>nameAt base p.toNat t.toNat k).map D.str:=by
    rw[List.map_map,Int.toNat_natCast]
    rfl
   rw[e]
   refine h _ c vs hv (by simp) (fun z hz=>?_) (vv List.nodup_range fun x hx y hy=>?_)
   ·
    obtain⟨k,_,rfl⟩:=List.mem_map.mp hz
    exact B7 hb (by omega)
   ·
    exact Af (by omega) (by have:=List.mem_range.mp hx;omega) (by have:=List.mem_range.mp hy;omega)
def bQ:FS:=fun ls post=>∃t b:Int,ls=[.d (.int t),.d (.int b)]∧b≠0∧b.natAbs<2^9000∧post (.d (frD (Rat.divInt t b))) ls
def nX:W Fl:=(wPar 2 3 (wBin dZ (wVar 3) (wVar 2)) (wVar 2))
def nB:W Fl:=(wSeq (wSet 2 (wFrz (aO zU (aVal (wVar 0) aNil))))
  (wSeq (wSet 3 (wFrz (aO zU (aVal (wVar 1) aNil))))
  (wSeq (uY (aN (wBin opNe (wVar 2) (wC (.int 0)))) nX)
  (wSeq (wIf (aN (wBin opLt (wVar 1) (wC (.int 0)))) (wSet 3 (wBin fm (wC (.int 0)) (wVar 3))) bu)
  (wRet (wTup (aVal (wBin mL (wVar 0) (wVar 3)) (aVal (wBin mL (wVar 1) (wVar 3)) aNil))))))))
theorem v5:∀ls post,ls.length=2→bQ ls post→nB (ls++List.replicate 2 .un) (aM ls post):=by
 rintro ls post - ⟨t,b,rfl,hb,hz,h⟩
 unfold nB
 walk_at "w"
 have h1:=yT (t:=t) hb
 have h2:=Nat.lt_of_le_of_lt (yU (t:=t) hb) hz
 have fin:∀{g:Int}{ρ:Ev},g=cw t b→g≠0∧g.natAbs<2^9000∧g≠0∧g.natAbs<2^9000∧2≤sizeLine∧aM [.d (.int t),.d (.int b)] post (.rt (.d (.tup [.int (t.fdiv g),.int (b.fdiv g)]))) ρ:=fun {g ρ} e=>by
  have e1:g≠0:=by rw[e];exact h1
  have e2:g.natAbs<2^9000:=by rw[e];exact h2
  refine⟨e1,e2,e1,e2,by decide,_,aj (aj aC),?_⟩
  rw[ze hb e]
  exact h
 refine⟨fun n ρ=>∃x y:Int,ρ=[.d (.int t),.d (.int b),.d (.int x),.d (.int y)]∧0≤x∧0≤y∧Int.gcd x y=Int.gcd t b∧n=x.natAbs,⟨_,_,_,rfl,by split<;>omega,by split<;>omega,?_,rfl⟩,?_⟩
 ·
  have e1:(if t<0 then -t else t)=(t.natAbs:Int):=by split<;>omega
  have e2:(if b<0 then -b else b)=(b.natAbs:Int):=by split<;>omega
  rw[e1,e2]
  simp[Int.gcd]
 ·
  rintro n ρ ⟨x,y,rfl,x0,y0,hg,rfl⟩
  unfold nX
  walk_at "w"
  split
  ·
   rename_i hx
   have hx:x≠0:=by simpa using hx
   refine⟨hx,_,j2 y hx,_,_,rfl,(gB y (by omega)).1,x0,?_,rfl⟩
   rw[Int.gcd_comm,yS,Int.gcd_comm]
   exact hg
  ·
   rename_i hx
   have hx:x=0:=by simpa using hx
   subst hx
   have hy:y=(Int.gcd t b:Int):=by rw[← hg,Int.gcd_zero_left];omega
   split
   ·
    rename_i hlt
    exact fin (by simp[cw,hlt,hy])
   ·
    rename_i hlt
    exact fin (by simp[cw,hlt,hy])
def cA:FS:=fun ls post=>∃(a:Addr)(xs:List D)(least kind:Int),ls=[.own a xs,.d (.int least),.d (.int kind)]∧StOk xs∧0≤least∧least≤1∧0≤kind∧kind<5 ∧
 ∀(q:Rat)(ys:List D),StOk ys→0≤q→(least=1→0<q)→RB 60 q→post (.d (frD q)) [.own a ys,.d (.int least),.d (.int kind)]
def i9:W Fl:=(wRet (aD bQ (aVal (wVar 4) (aVal (wVar 3) aNil))))
def ja:W Fl:=(wSeq (wSet 4 (wFrz (wBin bK (wVar 1) (a5 ay 0 0 (aVar 0 (aVal (wBin opIx (wLst (aVal (wC (.int 3)) (aVal (wC (.int 10)) (aVal (wC (.int 10)) (aVal (wC (.int 40)) (aVal (wBin zT (wC (.int 10)) (wC (.int 12))) aNil)))))) (wVar 2)) aNil))))))
  i9)
def gT:W Fl:=(wSeq (wSet 3 (wFrz (wBin bK (wC (.int 1)) (a5 ay 0 0 (aVar 0 (aVal (wBin opIx (wLst (aVal (wC (.int 1)) (aVal (wC (.int 1)) (aVal (wC (.int 4)) (aVal (wC (.int 12)) (aVal (wC (.int 12)) aNil)))))) (wVar 2)) aNil))))))
  ja)
theorem CY{t b:Int}(h0:0≤t)(h1:t<2^59)(h2:0<b)(h3:b<2^59):0≤Rat.divInt t b∧(0<t→0<Rat.divInt t b)∧RB 60 (Rat.divInt t b):=by
 have e:=Rat.divInt_nonneg (a:=t) (b:=b) h0 (by omega)
 refine⟨e,fun ht=>?_,RB.of_divInt (by omega) ?_ ?_⟩
 ·
  refine Rat.lt_of_le_of_ne e fun z=>?_
  have:Rat.divInt 0 1=Rat.divInt t b:=by rw[← z];rfl
  rw[Rat.divInt_eq_divInt_iff (by decide) (by omega)]at this
  omega
 ·
  have:(2:Int)^59=((2^59:Nat):Int):=by decide
  have:(2:Nat)^59<2^60:=by decide
  omega
 ·
  have:(2:Int)^59=((2^59:Nat):Int):=by decide
  have:(2:Nat)^59<2^60:=by decide
  omega
theorem Kk{k:Int}(h0:0≤k)(h1:k<5):∃m:Int,atI [D.int 1,.int 1,.int 4,.int 12,.int 12] k=some (.int m)∧1≤m∧m≤12:=by
 obtain rfl|rfl|rfl|rfl|rfl:k=0∨k=1∨k=2∨k=3∨k=4:=by omega
 all_goals exact⟨_,rfl,by decide,by decide⟩
theorem Kl{k:Int}(h0:0≤k)(h1:k<5):∃m:Int,atI [D.int 3,.int 10,.int 10,.int 40,.int (10^12)] k=some (.int m)∧1≤m∧m≤10^12:=by
 obtain rfl|rfl|rfl|rfl|rfl:k=0∨k=1∨k=2∨k=3∨k=4:=by omega
 all_goals exact⟨_,rfl,by decide,by decide⟩
theorem qt:∀ls post,ls.length=3→cA ls post→gT (ls++List.replicate 2 .un) (aM ls post):=by
 rintro ls post - ⟨a,xs,least,kind,rfl,hx,l0,l1,k0,k1,h⟩
 obtain⟨m1,e1,m10,m11⟩:=Kk k0 k1
 obtain⟨m2,e2,m20,m21⟩:=Kl k0 k1
 unfold gT
 walk_at "w"
 refine⟨by decide,fun _=>⟨_,e1,a,xs,m1,rfl,hx,by omega,by omega,fun r ys hy r0 r1=>⟨ys,rfl,?_⟩⟩⟩
 unfold ja
 walk_at "w"
 refine⟨by decide,by decide,by decide,by decide,fun _=>⟨_,e2,a,ys,m2,rfl,hy,by omega,by omega,fun s zs hz s0 s1=>⟨zs,rfl,?_⟩⟩⟩
 unfold i9
 walk_at "w"
 obtain⟨a1,a2,a3⟩:=CY (t:=least+s) (b:=1+r) (by omega) (by omega) (by omega) (by omega)
 exact⟨_,_,rfl,by omega,vh (by omega) (by omega),_,d9 (by simp) (aj (aj aC)),h _ zs hz a1 (fun e=>a2 (by omega)) a3⟩
def gU:FS:=fun ls post=>∃(a:Addr)(xs:List D)(n:Nat)(kind:Int),ls=[.own a xs,.d (.int n),.d (.int kind)]∧StOk xs∧1≤n∧n≤1000∧0≤kind∧kind<5 ∧
 ∀(qs:List Rat)(c:Addr)(ys:List D),StOk ys→qs.length=n→(∀q∈qs,0<q∧RB 60 q)→post (.own c (qs.map frD)) [.own a ys,.d (.int n),.d (.int kind)]
def kf:W Fl:=(wSeq (wSet 6 (wFrz (a5 cA 0 0 (aVar 0 (aVal (wC (.int 1)) (aVal (wVar 2) aNil))))))
  (uX (wApp 5 (wBin opIx (wLst (aVal (wVar 4) (aVal (wVar 6) aNil))) (aO zW (aVal (wBin opEq (wVar 3) (wC (.int 2))) aNil))))))
def kg:W Fl:=(wRet (jS 5))
def ki:W Fl:=(wSeq (uY (aN (wBin opLt (fZ 5 (DG 5) (aO bL (aVal (wVar 5) aNil))) (wVar 1))) kf)
  kg)
def fQ:W Fl:=(wSeq (wSet 5 (wLst (aVal (wVar 4) aNil)))
  ki)
def kj:W Fl:=(wSeq (wIf (aN (wBin opEq (wVar 3) (wC (.int 0)))) (wSet 4 (wTup (aVal (wC (.int 1)) (aVal (wC (.int 1)) aNil)))) bu)
  fQ)
def kl:W Fl:=(wSeq (wSet 4 (wFrz (a5 cA 0 0 (aVar 0 (aVal (wC (.int 1)) (aVal (wVar 2) aNil))))))
  kj)
def jc:W Fl:=(wSeq (wSet 3 (wFrz (a5 ay 0 0 (aVar 0 (aVal (wC (.int 3)) aNil)))))
  kl)
theorem qU:∀ls post,ls.length=3→gU ls post→jc (ls++List.replicate 4 .un) (aM ls post):=by
 rintro ls post - ⟨a,xs,n,kind,rfl,hx,n1,n2,k0,k1,h⟩
 have one:frD 1=.tup [.int 1,.int 1]:=rfl
 have rest:∀(alike:Int)(p:Rat)(ys:List D),StOk ys→0<p→RB 60 p →
   fQ [.own a ys,.d (.int n),.d (.int kind),.d (.int alike),.d (frD p),.un,.un] (aM [.own a xs,.d (.int n),.d (.int kind)] post):=by
  intro alike p ys hy hp hb
  unfold fQ
  walk_at "w"
  refine⟨by decide,fun c=>?_⟩
  unfold ki
  walk_at "w"
  refine⟨fun m ρ=>∃(qs:List Rat)(zs:List D)(l:L),ρ=[.own a zs,.d (.int n),.d (.int kind),.d (.int alike),.d (frD p),.own c (qs.map frD),l]∧StOk zs∧qs.length≤n∧m=n-qs.length∧∀q∈qs,0<q∧RB 60 q,⟨_,[p],ys,_,rfl,hy,n1,rfl,by intro q hq;rw[List.mem_singleton.mp hq];exact⟨hp,hb⟩⟩,?_⟩
  rintro m ρ ⟨qs,zs,l,rfl,hz,hl,rfl,hq⟩
  walk_at "w"
  try rw[List.length_map]
  split
  ·
   rename_i hlt
   unfold kf
   walk_at "w"
   refine⟨a,zs,1,kind,rfl,hz,by decide,by decide,k0,k1,fun q ws hw q0 q1 qb=>⟨ws,rfl,?_⟩⟩
   walk_at "w"
   have hs:qs.length<sizeLine:=by exact Nat.lt_of_le_of_lt (show qs.length≤1000 by omega) (by decide)
   have more:∀q':Rat,0<q'→RB 60 q'→∃m,m<n-qs.length∧∃(qs':List Rat)(zs:List D)(l:L),[L.own a ws,.d (.int n),.d (.int kind),.d (.int alike),.d (frD p),.own c (qs.map frD++[frD q']),.d (frD q)]=[.own a zs,.d (.int n),.d (.int kind),.d (.int alike),.d (frD p),.own c (qs'.map frD),l]∧StOk zs∧qs'.length≤n∧m=n-qs'.length∧∀q∈qs',0<q∧RB 60 q:=by
    intro q' p0 pb
    refine⟨n-(qs++[q']).length,by rw[List.length_append];simp only[List.length_singleton];omega,qs++[q'],ws,.d (frD q),by rw[List.map_append];rfl,hw,by rw[List.length_append];simp only[List.length_singleton];omega,rfl,fun z hz=>?_⟩
    rcases List.mem_append.mp hz with hz|hz
    ·
     exact hq z hz
    ·
     rw[List.mem_singleton.mp hz];exact⟨p0,pb⟩
   refine⟨by decide,fun _=>?_⟩
   by_cases h2:alike=2
   ·
    refine⟨frD q,?_,hs,more q (q1 rfl) qb⟩
    simp[h2,sJ]
   ·
    refine⟨frD p,?_,hs,more p hp hb⟩
    simp[h2,sI]
  ·
   have e:qs.length=n:=by omega
   unfold kg
   walk_at "w"
   exact⟨_,d9 (by simp) (aj (aj aC)),h qs c zs hz e hq⟩
 unfold jc
 walk_at "w"
 refine⟨a,xs,3,rfl,hx,by decide,by decide,fun r ys hy r0 r1=>⟨ys,rfl,?_⟩⟩
 unfold kl
 walk_at "w"
 refine⟨a,ys,1,kind,rfl,hy,by decide,by decide,k0,k1,fun q zs hz q0 q1 qb=>⟨zs,rfl,?_⟩⟩
 unfold kj
 walk_at "w"
 split
 ·
  exact⟨by decide,rest r 1 zs hz (by decide) ⟨by decide,by decide⟩⟩
 ·
  exact rest r q zs hz (q1 rfl) qb
def jd:FS:=fun ls post=>∃(a:Addr)(xs:List D)(shape k:Int)(n:Nat),ls=[.own a xs,.d (.int shape),.d (.int n),.d (.int k)]∧StOk xs∧2≤n∧n≤1000∧0≤k∧k≤1000 ∧
 ∀(i j:Nat)(ys:List D),StOk ys→i<n→j<n→i≠j→post (.d (.tup [.int i,.int j])) [.own a ys,.d (.int shape),.d (.int n),.d (.int k)]
def l5:W Fl:=(wRet (wTup (aVal (wVar 4) (aVal (wVar 5) aNil))))
def l6:W Fl:=(wSeq (wIf (aN (wBin opEq (wVar 1) (wC (.int 3)))) (wRet (wTup (aVal (wC (.int 0)) (aVal (wFrz (wBin bK (wC (.int 1)) (wBin dZ (wVar 5) (wBin fm (wVar 2) (wC (.int 1)))))) aNil)))) bu)
  l5)
def l7:W Fl:=(wSeq (wIf (aN (wBin opEq (wVar 1) (wC (.int 2)))) (wRet (wTup (aVal (wFrz (wBin aZ (wBin dZ (wVar 3) (wC (.int 2))) (wBin fm (wVar 2) (wC (.int 1))))) (aVal (wFrz (wBin aZ (wBin fm (wC (.int 1)) (wBin dZ (wVar 3) (wC (.int 2)))) (wBin fm (wVar 2) (wC (.int 1))))) aNil)))) bu)
  l6)
def l8:W Fl:=(wSeq (wIf (aN (wBin opEq (wVar 1) (wC (.int 1)))) (wRet (wTup (aVal (wBin dZ (wVar 3) (wVar 2)) (aVal (wBin dZ (wBin bK (wVar 3) (wBin mL (wVar 2) (wC (.int 2)))) (wVar 2)) aNil)))) bu)
  l7)
def l9:W Fl:=(wSeq (wSet 5 (wBin dZ (wBin bK (wBin bK (wVar 4) (wC (.int 1))) (a5 ay 0 0 (aVar 0 (aVal (wBin fm (wVar 2) (wC (.int 1))) aNil)))) (wVar 2)))
  l8)
def lg:W Fl:=(wSeq (wSet 4 (wFrz (a5 ay 0 0 (aVar 0 (aVal (wVar 2) aNil)))))
  l9)
theorem ue:∀ls post,ls.length=4→jd ls post→lg (ls++List.replicate 2 .un) (aM ls post):=by
 rintro ls post - ⟨a,xs,shape,k,n,rfl,hx,n2,n3,k0,k1,h⟩
 have fin:∀(ys:List D)(i j:Int)(ρ:Ev),StOk ys→0≤i→i<n→0≤j→j<n→i≠j→.own a ys∈ρ→aM [.own a xs,.d (.int shape),.d (.int n),.d (.int k)] post (.rt (.d (.tup [.int i,.int j]))) ρ:=by
  intro ys i j ρ hy i0 i1 j0 j1 hij hm
  have:=h i.toNat j.toNat ys hy (by omega) (by omega) (by omega)
  rw[Int.toNat_of_nonneg i0,Int.toNat_of_nonneg j0]at this
  exact⟨_,d9 hm (aj (aj (aj aC))),this⟩
 unfold lg
 walk_at "w"
 refine⟨a,xs,n,rfl,hx,by omega,by omega,fun r ys hy r0 r1=>⟨ys,rfl,?_⟩⟩
 unfold l9
 walk_at "w"
 refine⟨a,ys,n-1,rfl,hy,by omega,by omega,fun s zs hz s0 s1=>⟨zs,rfl,?_⟩⟩
 walk_at "w"
 refine⟨by omega,?_⟩
 have e1:=Int.fmod_eq_emod_of_nonneg (r+1+s) (b:=n) (by omega)
 have e2:=Int.fmod_eq_emod_of_nonneg k (b:=n) (by omega)
 have e3:=Int.fdiv_eq_ediv_of_nonneg (n:Int) (b:=2) (by omega)
 have e4:=Int.fmod_eq_emod_of_nonneg (k+(n:Int) / 2) (b:=n) (by omega)
 have e5:=Int.fmod_eq_emod_of_nonneg k (b:=2) (by omega)
 have e6:=Int.fmod_eq_emod_of_nonneg ((r+1+s) % (n:Int)) (b:=(n:Int)-1) (by omega)
 rw[e1]
 have o0:=Int.emod_nonneg (r+1+s) (b:=n) (by omega)
 have o1:=Int.emod_lt_of_pos (r+1+s) (b:=n) (by omega)
 have o2:(r+1+s) % (n:Int)≠r:=fun z=>by
  by_cases q:r+1+s<n
  ·
   rw[Int.emod_eq_of_lt (by omega) q]at z;omega
  ·
   have:(r+1+s) % (n:Int)=r+1+s-n:=by
    rw[← Int.sub_emod_right,Int.emod_eq_of_lt (by omega) (by omega)]
   omega
 unfold l8
 walk_at "w"
 split
 ·
  rw[e2,e3,e4]
  refine⟨by omega,by decide,by decide,by omega,by decide,fin zs _ _ _ hz (Int.emod_nonneg _ (by omega)) (Int.emod_lt_of_pos _ (by omega)) (Int.emod_nonneg _ (by omega)) (Int.emod_lt_of_pos _ (by omega)) (fun z=>?_) (by simp)⟩
  have h1:(k+(n:Int) / 2-k) % n=0:=Int.emod_eq_emod_iff_emod_sub_eq_zero.mp z.symm
  have e9:k+(n:Int) / 2-k=n / 2:=by omega
  rw[e9,Int.emod_eq_of_lt (by omega) (by omega)]at h1
  omega
 ·
  unfold l7
  walk_at "w"
  split
  ·
   rw[e5]
   have m0:=Int.emod_two_eq k
   refine⟨by decide,a8 (by omega),a8 (by omega),by decide,a8 (by omega),a8 (by omega),by decide,?_⟩
   rcases m0 with m0|m0
   ·
    rw[m0]
    exact fin zs _ _ _ hz (by omega) (by omega) (by omega) (by omega) (by omega) (by simp)
   ·
    rw[m0]
    exact fin zs _ _ _ hz (by omega) (by omega) (by omega) (by omega) (by omega) (by simp)
  ·
   unfold l6
   walk_at "w"
   split
   ·
    rw[e6]
    have p0:=Int.emod_nonneg ((r+1+s) % (n:Int)) (b:=(n:Int)-1) (by omega)
    have p1:=Int.emod_lt_of_pos ((r+1+s) % (n:Int)) (b:=(n:Int)-1) (by omega)
    exact⟨by omega,by decide,fin zs _ _ _ hz (by omega) (by omega) (by omega) (by omega) (by omega) (by simp)⟩
   ·
    unfold l5
    walk_at "w"
    exact⟨by decide,fin zs _ _ _ hz (by omega) (by omega) (by omega) (by omega) (Ne.symm o2) (by simp)⟩
structure Drawn (most count:Nat) (R:Ring):Prop where
 ok:R.Ok
 hi:R.n≤most
 few:R.asks.length≤count
 nms:(∀a∈R.asks,NmOk a.nm)∧(R.asks.map (·.nm)).Nodup
 tt:∀a∈R.asks,RB 60 a.size
theorem Drawn.nt{m c:Nat}{R:Ring}(h:Drawn m c R):∀a∈R.asks,NmOk a.nm∧RB 60 a.size:=fun a ha=>⟨h.nms.1 a ha,h.tt a ha⟩
def je:FS:=fun ls post=>∃(ns:List Int)(at_ most count:Nat),ls=[.d (.lst (ns.map .int)),.d (.int at_),.d (.int most),.d (.int count)]∧at_≤90∧2≤most∧most≤12∧count≤20 ∧
 ∀R:Ring,Drawn most count R→post (.d (aK R)) ls
def gW:W Fl:=(wSeq (Bp [13,14] (a5 jd 0 4 (aVar 4 (aVal (wVar 8) (aVal (wVar 5) (aVal (wVar 12) aNil))))))
  (uX (wApp 11 (wTup (aVal (wBin opIx (wVar 9) (wVar 12)) (aVal (wVar 13) (aVal (wVar 14) (aVal (wFrz (a5 cA 0 4 (aVar 4 (aVal (wC (.int 0)) (aVal (wBin opIx (wVar 7) (wC (.int 1))) aNil))))) aNil))))))))
def ma:W Fl:=(wRet (wTup (aVal (wVar 10) (aVal (wVar 11) aNil))))
def me:W Fl:=(wSeq (wFor (lG (wVar 6)) (aY 12) gW)
  ma)
def mf:W Fl:=(wSeq (wSet 11 (wLst aNil))
  me)
def mh:W Fl:=(wSeq (wSet 4 (aD cf (aVal (wVar 0) (aVal (wFrz (wBin bK (wVar 1) (wC (.int 2)))) aNil))))
  mf)
def mi:W Fl:=(wSeq (wSet 10 (wFrz (aD gU (aVal (aD cf (aVal (wVar 0) (aVal (wFrz (wBin bK (wVar 1) (wC (.int 1)))) aNil))) (aVal (wVar 5) (aVal (wBin opIx (wVar 7) (wC (.int 0))) aNil))))))
  mh)
def mj:W Fl:=(wSeq (wSet 9 (wFrz (a5 gS 0 4 (aVar 4 (aVal (wVar 6) aNil)))))
  mi)
def ml:W Fl:=(wSeq (wSet 8 (wFrz (a5 ay 0 4 (aVar 4 (aVal (wC (.int 6)) aNil)))))
  mj)
def mn:W Fl:=(wSeq (wSet 7 (wFrz (wLst (aVal (wFrz (a5 ay 0 4 (aVar 4 (aVal (wC (.int 5)) aNil)))) (aVal (wFrz (a5 ay 0 4 (aVar 4 (aVal (wC (.int 5)) aNil)))) aNil)))))
  ml)
def mq:W Fl:=(wSeq (wSet 6 (wFrz (a5 ay 0 4 (aVar 4 (aVal (wFrz (wBin bK (wVar 3) (wC (.int 1)))) aNil)))))
  mn)
def mr:W Fl:=(wSeq (wSet 5 (wFrz (wBin bK (wC (.int 2)) (a5 ay 0 4 (aVar 4 (aVal (wBin fm (wVar 2) (wC (.int 1))) aNil))))))
  mq)
def lh:W Fl:=(wSeq (wSet 4 (aD cf (aVal (wVar 0) (aVal (wVar 1) aNil))))
  mr)
theorem CZ{S a1 m3 c3 rms:D}{b c:Addr}{n shape kind:Nat}{zs:List Str}{post:Fl→Ev→Prop}(hn:2≤n)(hn2:n≤12)(hk:kind<5)(k0:Nat)(hzl:zs.length≤20)(hz:∀z∈zs,NmOk z)(xs:List D)(hx:StOk xs)(x13 x14:L)
  (fin:∀(as:List Ask)(ys:List D)(x12 x13 x14:L),(∀a∈as,jU n a∧RB 60 a.size)→as.map (·.nm)=zs→post .nx [.d S,.d a1,.d m3,.d c3,.own b ys,.d (.int n),.d (.int (zs.length:Int)),.d (.lst [.int k0,.int kind]),.d (.int shape),.d (.lst (zs.map .str)),.d rms,.own c (as.map askD),x12,x13,x14]) :
  fW (aY 12) gW ((List.range zs.length).map fun (i:Nat)=>D.int (i:Int)) [.d S,.d a1,.d m3,.d c3,.own b xs,.d (.int n),.d (.int (zs.length:Int)),.d (.lst [.int k0,.int kind]),.d (.int shape),.d (.lst (zs.map .str)),.d rms,.own c [],.un,x13,x14] post:=by
 refine lK _ (fun j ρ=>∃(as:List Ask)(ys:List D)(x12 x13 x14:L),ρ=[.d S,.d a1,.d m3,.d c3,.own b ys,.d (.int n),.d (.int (zs.length:Int)),.d (.lst [.int k0,.int kind]),.d (.int shape),.d (.lst (zs.map .str)),.d rms,.own c (as.map askD),x12,x13,x14]∧StOk ys∧(∀a∈as,jU n a∧RB 60 a.size)∧as.map (·.nm)=zs.take j) _ ⟨[],xs,_,_,_,rfl,hx,fun a ha=>by simp at ha,rfl⟩ ?_ ?_
 ·
  rintro j x ρ hj ⟨as,ys,x12,x13,x14,rfl,hy,ha,hn'⟩ Q h1 h2 h3 h4
  have hj':j<zs.length:=by
   have:=(List.getElem?_eq_some_iff.mp hj).1
   simpa using this
  have ex:x=.int (j:Int):=by
   rw[List.getElem?_map,List.getElem?_range hj']at hj
   exact(Option.some.inj hj).symm
  subst ex
  unfold gW
  walk_at "w"
  refine⟨b,ys,shape,j,n,rfl,hy,hn,by omega,by omega,by omega,fun i k ws hw i1 k1 hik=>⟨ws,rfl,?_⟩⟩
  walk_at "w"
  refine⟨.str zs[j],bD hj',?_⟩
  refine⟨b,ws,0,kind,rfl,hw,by decide,by decide,by omega,by omega,fun q vs hv q0 _ qb=>⟨vs,rfl,?_⟩⟩
  walk_at "w"
  have hlen:as.length=j:=by
   have:=congrArg List.length hn'
   rw[List.length_map,List.length_take]at this
   omega
  refine⟨by decide,by rw[hlen];exact Nat.lt_of_lt_of_le hj' (Nat.le_trans hzl (by decide)),h1 _ ⟨as++[⟨zs[j],i,k,q⟩],vs,_,_,_,by rw[List.map_append];rfl,hv,fun a hm=>?_,?_⟩⟩
  ·
   rcases List.mem_append.mp hm with hm|hm
   ·
    exact ha a hm
   ·
    rw[List.mem_singleton.mp hm]
    exact⟨⟨i1,k1,hik,q0,Eh qb,(hz _ (List.getElem_mem hj')).ok⟩,qb⟩
  ·
   rw[List.map_append,hn',List.take_succ,List.getElem?_eq_getElem hj']
   rfl
 ·
  rintro ρ ⟨as,ys,x12,x13,x14,rfl,hy,ha,hn'⟩
  rw[List.length_map,List.length_range,List.take_of_length_le (Nat.le_refl _)]at hn'
  exact fin as ys x12 x13 x14 ha hn'
theorem uf:∀ls post,ls.length=4→je ls post→lh (ls++List.replicate 11 .un) (aM ls post):=by
 rintro ls post - ⟨ns,at_,most,count,rfl,ha,m2,m12,c20,h⟩
 unfold lh
 walk_at "w"
 refine⟨ns,at_,rfl,by omega,by omega,fun b xs hx=>?_⟩
 unfold mr
 walk_at "w"
 refine⟨b,xs,(most:Int)-1,rfl,hx,by omega,by omega,fun r ys hy r0 r1=>⟨ys,rfl,?_⟩⟩
 unfold mq
 walk_at "w"
 refine⟨b,ys,(count:Int)+1,rfl,hy,by omega,by omega,fun s zs hz s0 s1=>⟨zs,rfl,?_⟩⟩
 unfold mn
 walk_at "w"
 refine⟨b,zs,5,rfl,hz,by decide,by decide,fun k1 ws hw k10 k11=>⟨ws,rfl,?_⟩⟩
 walk_at "w"
 refine⟨b,ws,5,rfl,hw,by decide,by decide,fun k2 vs hv k20 k21=>⟨vs,rfl,?_⟩⟩
 walk_at "w"
 refine⟨by decide,fun kk=>?_⟩
 unfold ml
 walk_at "w"
 refine⟨b,vs,6,rfl,hv,by decide,by decide,fun sh us hu sh0 sh1=>⟨us,rfl,?_⟩⟩
 unfold mj
 walk_at "w"
 obtain⟨many,rfl⟩:=Int.eq_ofNat_of_zero_le s0
 obtain⟨pl,epl⟩:∃pl:Nat,2+r=(pl:Int):=Int.eq_ofNat_of_zero_le (by omega)
 obtain⟨sh',rfl⟩:=Int.eq_ofNat_of_zero_le sh0
 obtain⟨k1',rfl⟩:=Int.eq_ofNat_of_zero_le k10
 obtain⟨k2',rfl⟩:=Int.eq_ofNat_of_zero_le k20
 rw[epl]
 refine⟨b,us,many,rfl,hu,by omega,fun nms c ts ht hnl hnm hnd=>⟨ts,rfl,?_⟩⟩
 unfold mi
 walk_at "w"
 refine⟨ns,at_+1,rfl,by omega,by omega,fun b2 xs2 hx2=>?_⟩
 refine⟨b2,xs2,pl,k1',rfl,hx2,by omega,by omega,by omega,by omega,fun qs c2 ys2 hy2 hql hq=>?_⟩
 unfold mh
 walk_at "w"
 refine⟨ns,at_+2,rfl,by omega,by omega,fun b3 xs3 hx3=>?_⟩
 unfold mf
 walk_at "w"
 refine⟨by decide,fun c3=>?_⟩
 unfold me
 walk_at "w"
 refine⟨⟨by omega,by omega⟩,?_⟩
 rw[gA,Int.toNat_natCast,← hnl]
 refine CZ (n:=pl) (by omega) (by omega) (by omega) k1' (by omega) hnm xs3 hx3 _ _ fun as ys' x12 x13 x14 hao han=>?_
 walk_at "w"
 unfold ma
 walk_at "w"
 refine⟨by decide,_,aj (aj (aj (aj aC))),h ⟨qs,as⟩ ?_⟩
 have hal:as.length=nms.length:=by rw[← han,List.length_map]
 refine⟨⟨?_,?_,?_,hq,?_,J0 (fun a ha=>(hao a ha).2) (by show as.length≤20;omega)⟩,?_,?_,⟨?_,?_⟩,fun a ha=>(hao a ha).2⟩
 ·
  show 2≤qs.length;omega
 ·
  show qs.length≤12;omega
 ·
  show as.length≤20;omega
 ·
  show ∀a∈as,jU qs.length a;rw[hql];exact fun a ha=>(hao a ha).1
 ·
  show qs.length≤most;omega
 ·
  show as.length≤count;omega
 ·
  intro a ha
  exact hnm _ (by rw[← han];exact List.mem_map_of_mem ha)
 ·
  show(as.map (·.nm)).Nodup
  rw[han]
  exact hnd
def cg:FS:=fun ls post=>(∃i:Int,ls=[.d (.int i)]∧post (.d (.bl true)) ls)∨∃d:D,ls=[.d d]∧(∀i,d≠.int i)∧post (.d (.bl false)) ls
def fB:W Fl:=(wRet (jT (wUn (ky "int") (wVar 0)) (Bc (aN (wUn (ky "bool") (wVar 0))))))
theorem qV:∀ls post,ls.length=1→cg ls post→fB (ls++List.replicate 0 .un) (aM ls post):=by
 rintro ls post-(⟨i,rfl,h⟩|⟨d,rfl,hd,h⟩)
 ·
  unfold fB
  walk_at "w"
  exact⟨_,aj aC,h⟩
 ·
  unfold fB
  cases d with
  |int i=>exact absurd rfl (hd i)
  |_=>walk_at "w"; exact⟨_,aj aC,h⟩
def cj:FS:=fun ls post=>∃d:D,ls=[.d d]∧(∀i j,d=.tup [.int i,.int j]→j.natAbs<2^9000)∧post (.d (.bl (ratB d))) ls
def jf:W Fl:=(wSeq (wIf (wOr (wNot (aN (wUn (ky "tuple") (wVar 0)))) (wOr (aN (wBin opNe (aO bL (aVal (wVar 0) aNil)) (wC (.int 2)))) (wOr (wNot (aN (aD cg (aVal (wBin opIx (wVar 0) (wC (.int 0))) aNil)))) (wNot (aN (aD cg (aVal (wBin opIx (wVar 0) (wC (.int 1))) aNil))))))) (wRet (wC (.bl false))) bu)
  (wRet (jT (wBin opGt (wBin opIx (wVar 0) (wC (.int 1))) (wC (.int 0))) (wBin opEq (aD bQ (aVal (wBin opIx (wVar 0) (wC (.int 0))) (aVal (wBin opIx (wVar 0) (wC (.int 1))) aNil))) (wVar 0)))))
theorem qW:∀ls post,ls.length=1→cj ls post→jf (ls++List.replicate 0 .un) (aM ls post):=by
 rintro ls post - ⟨d,rfl,hb,h⟩
 unfold jf
 by_cases hd:∃i j,d=.tup [.int i,.int j]
 ·
  obtain⟨i,j,rfl⟩:=hd
  have jb:=hb i j rfl
  walk_at "w"
  rw[if_neg (by simp)]
  refine .inl ⟨i,rfl,?_⟩
  walk_at "w"
  refine .inl ⟨j,rfl,?_⟩
  walk_at "w"
  have e:ratB (.tup [.int i,.int j])=(decide (1≤j) && decide ((Int.gcd i j:Int)=1)):=rfl
  rw[e]at h
  by_cases c:0<j
  ·
   rw[if_pos (by omega)]
   refine⟨i,j,rfl,by omega,jb,?_⟩
   walk_at "w"
   have e2:eqD (frD (Rat.divInt i j)) (.tup [.int i,.int j])=decide ((Int.gcd i j:Int)=1):=by
    show eqD (.tup [.int (Rat.divInt i j).num,.int ((Rat.divInt i j).den:Int)]) _=_
    rw[w4,eM,eM,oB,kA,kA,Bool.and_true,← Bool.decide_and,decide_eq_decide]
    exact Hb c
   rw[decide_eq_true (show 1≤j by omega),Bool.true_and]at h
   rw[e2]
   exact⟨ft (n:=1) rfl (by decide),_,aj aC,h⟩
  ·
   rw[if_neg (by omega)]
   rw[decide_eq_false (show ¬1≤j by omega),Bool.false_and]at h
   exact⟨_,aj aC,h⟩
 ·
  have hn:∀i j,d≠.tup [.int i,.int j]:=fun i j e=>hd ⟨i,j,e⟩
  rw[xF hn]at h
  cases d with
  | tup xs =>
   rcases xs with _|⟨x,_|⟨y,_|⟨z,zs⟩⟩⟩
   ·
    walk_at "w"
    rw[if_pos (by decide)]
    exact⟨_,aj aC,h⟩
   ·
    walk_at "w"
    rw[if_pos (by decide)]
    exact⟨_,aj aC,h⟩
   ·
    walk_at "w"
    rw[if_neg (by simp)]
    by_cases hx:∃i,x=.int i
    ·
     obtain⟨i,rfl⟩:=hx
     refine .inl ⟨i,rfl,?_⟩
     walk_at "w"
     refine .inr ⟨y,rfl,fun j e=>hn i j (by rw[e]),?_⟩
     walk_at "w"
     exact⟨_,aj aC,h⟩
    ·
     refine .inr ⟨x,rfl,fun j e=>hx ⟨j,e⟩,?_⟩
     walk_at "w"
     exact⟨_,aj aC,h⟩
   ·
    walk_at "w"
    rw[if_pos (by simp;omega)]
    exact⟨_,aj aC,h⟩
  | _ =>
   walk_at "w"
   exact⟨_,aj aC,h⟩
def eA:FS:=fun ls post=>∃p q:Rat,ls=[.d (frD p),.d (frD q)]∧RB 400000 p∧RB 400000 q∧post (.d (.bl (decide (p<q)))) ls
def jg:W Fl:=(wRet (wBin opLt (wBin aZ (wBin opIx (wVar 0) (wC (.int 0))) (wBin opIx (wVar 1) (wC (.int 1)))) (wBin aZ (wBin opIx (wVar 1) (wC (.int 0))) (wBin opIx (wVar 0) (wC (.int 1))))))
theorem qX:∀ls post,ls.length=2→eA ls post→jg (ls++List.replicate 0 .un) (aM ls post):=by
 rintro ls post - ⟨p,q,rfl,hp,hq,h⟩
 unfold jg
 walk_at "w"
 refine⟨hp.bn (by decide),hq.bd (by decide),hq.bn (by decide),hp.bd (by decide),_,aj (aj aC),?_⟩
 rw[IV]
 exact h
def dg:FS:=fun ls post=>∃(R:Ring)(d:D),ls=[.d (aK R),.d d]∧R.Ok∧zC d∧post (.d (.bl (iI R d))) ls
def eY:W Fl:=(wIf (wOr (aN (wBin opLt (wBin opIx (wBin opIx (wVar 1) (wVar 2)) (wC (.int 0))) (wC (.int 0)))) (aN (aD eA (aVal (wBin opIx (wBin opIx (wBin opIx (wVar 0) (wC (.int 1))) (wVar 2)) (wC (.int 3))) (aVal (wBin opIx (wVar 1) (wVar 2)) aNil))))) (wRet (wC (.bl false))) bu)
def bR:W L:=(wVar 0)
def dH:W Fl:=(wSeq (wIf (wOr (wNot (aN (wUn (ky "list") (wVar 1)))) (aN (wBin opNe (aO bL (aVal (wVar 1) aNil)) (aO bL (aVal (wBin opIx (wVar 0) (wC (.int 1))) aNil))))) (wRet (wC (.bl false))) bu)
  (wSeq (wIf (aN (wBin opNe (fG 1 [] (wSrc (wVar 1)) (aY 0) (wNot (aN (aD cj (aVal (wVar 0) aNil)))) bR) (wLst aNil))) (wRet (wC (.bl false))) bu)
  (wSeq (wFor (lG (aO bL (aVal (wVar 1) aNil))) (aY 2) eY)
  (wRet (wC (.bl true))))))
theorem lj{n:Nat}{p:D→Bool}:∀{xs:List D},okDs n xs=true→okDs n (xs.filter p)=true
 |[],_=>rfl
 | x::xs,h=>by
  rw[okDs,Bool.and_eq_true]at h
  rw[List.filter_cons]
  split
  ·
   rw[okDs,Bool.and_eq_true]
   exact⟨h.1,lj h.2⟩
  ·
   exact lj h.2
theorem C0{p:D→Bool}(xs:List D):(xs.filter fun x=>!p x).isEmpty=xs.all p:=by
 induction xs with
 |nil=>rfl
 | cons x xs ih =>
  rw[List.filter_cons,List.all_cons]
  cases p x
  ·
   rfl
  ·
   simpa using ih
theorem Hr{p:D→Bool}(xs:List D):xs.filterMap (fun x=>if p x=true then none else some x)=xs.filter fun x=>!p x:=by
 induction xs with
 |nil=>rfl
 | cons x xs ih =>
  rw[List.filterMap_cons,List.filter_cons,ih]
  cases p x<;>rfl
theorem ll:∀ls post,ls.length=2→dg ls post→dH (ls++List.replicate 1 .un) (aM ls post):=by
 rintro ls post - ⟨R,d,rfl,hR,hs,h⟩
 have few:=hR.few
 unfold dH
 cases d with
 | lst xs =>
  obtain⟨xl,xo⟩:=hs.sh xs rfl
  have key:∀(k:List D→Ev→Prop),(∀l,k (xs.filter fun x=>!ratB x) [l])→d4 (aY 0) (wNot (aN (aD cj (aVal (wVar 0) aNil)))) bR xs [.un] [] k:=by
   intro k hk
   have cp:=gb (α:=D) (enc:=fun x=>x) (h:=fun x=>if ratB x=true then none else some x) (caps:=[]) (ti:=wNot (aN (aD cj (aVal (wVar 0) aNil)))) (te:=bR) (k:=k) xs [] .un (fun x hx Q hQ=>?_) fun l=>by rw[List.nil_append,Hr];exact hk l
   ·
    rwa [List.map_id']at cp
   walk_at "w"
   refine⟨x,rfl,fun i j e=>Nat.lt_of_lt_of_le (hs.bd xs i j rfl (by rw[← e];exact hx)).2 (Nat.pow_le_pow_right (by decide) (by decide)),?_⟩
   walk_at "w"
   cases e:ratB x
   ·
    rw[e]at hQ
    unfold bR
    walk_at "w"
    exact hQ
   ·
    rw[e]at hQ
    exact hQ
  walk_at "w"
  by_cases hl:xs.length=R.asks.length
  ·
   rw[if_neg (by omega)]
   refine⟨Nat.le_trans xl (by decide),key _ fun l a=>?_⟩
   walk_at "w"
   refine⟨Nat.zero_le _,fun _=>⟨ft (n:=10) (lj xo) (by decide),ft (n:=1) rfl (by decide),?_⟩⟩
   rw[Hc,C0]
   cases e:xs.all ratB
   ·
    rw[if_pos rfl]
    have e2:iI R (.lst xs)=false:=by
     show(decide (xs.length=R.asks.length) && (xs.all ratB && _))=false
     rw[e,Bool.false_and,Bool.and_false]
    rw[e2]at h
    exact⟨_,aj (aj aC),h⟩
   ·
    rw[if_neg (by decide)]
    obtain⟨ps,rfl⟩:=tJ e
    rw[List.length_map]at hl xl
    rw[vB hl]at h
    have hb:∀p∈ps,RB 4400 p:=fun p hp=>by
     have:=hs.bd _ p.num (p.den:Int) rfl (List.mem_map.mpr ⟨p,hp,rfl⟩)
     exact⟨this.1,by simpa using this.2⟩
    walk_at "w"
    refine⟨⟨by omega,by omega⟩,?_⟩
    rw[Int.toNat_natCast]
    refine lL _ (fun j ρ=>∃x2,ρ=[.d (aK R),.d (.lst (ps.map frD)),x2]∧∀t,t<j→bF R ps t=false) _ ⟨_,rfl,fun t ht=>by omega⟩ ?_ ?_
    ·
     rintro k ρ hk ⟨x2,rfl,hpre⟩ Q h1 h2 h3 h4
     have hk2:k<R.asks.length:=by omega
     have ew:bF R ps k=(decide (ps[k]<0) ||decide (R.asks[k].size<ps[k])):=by
      unfold bF
      rw[iF hk,xx hk2]
     have yes:bF R ps k=true→∀ρ,Q (.rt (.d (.bl false))) (.d (aK R)::.d (.lst (ps.map frD))::ρ):=fun hy ρ=>h4 _ _ (by
      rw[zw (P:=bF R ps) hk hy hpre]at h
      exact⟨_,aj (aj aC),h⟩)
     unfold eY
     walk_at "w"
     refine⟨_,bD hk,?_⟩
     walk_at "w"
     by_cases c:ps[k]<0
     ·
      have cn:ps[k].num<0:=by
       have:¬0≤ps[k].num:=fun z=>by have:=Rat.num_nonneg.mp z;grind
       omega
      rw[if_pos cn]
      exact yes (by rw[ew,decide_eq_true c,Bool.true_or]) _
     ·
      have cn:0≤ps[k].num:=Rat.num_nonneg.mpr (by grind)
      rw[if_neg (by omega)]
      refine⟨_,bD hk2,?_⟩
      walk_at "w"
      refine⟨_,bD hk,?_⟩
      refine⟨_,_,rfl,(hR.rb (List.getElem_mem hk2)).mono (by decide),(hb _ (List.getElem_mem hk)).mono (by decide),?_⟩
      walk_at "w"
      by_cases c2:R.asks[k].size<ps[k]
      ·
       rw[if_pos c2]
       exact yes (by rw[ew,decide_eq_true c2,Bool.or_true]) _
      ·
       rw[if_neg c2]
       refine h1 _ ⟨_,rfl,fun t ht=>?_⟩
       rcases Nat.lt_or_ge t k with g|g
       ·
        exact hpre t g
       ·
        have:t=k:=by omega
        subst this
        rw[ew,decide_eq_false c,decide_eq_false c2]
        rfl
    ·
     rintro ρ ⟨x2,rfl,hpre⟩
     walk_at "w"
     rw[gf.mpr hpre]at h
     exact⟨_,aj (aj aC),h⟩
  ·
   rw[if_pos (by omega)]
   have e2:iI R (.lst xs)=false:=by
    show(decide (xs.length=R.asks.length) && _)=false
    rw[decide_eq_false hl,Bool.false_and]
   rw[e2]at h
   exact⟨_,aj (aj aC),h⟩
 | _ =>
  walk_at "w"
  exact⟨_,aj (aj aC),h⟩
def jh:FS:=fun ls post=>∃(R:Ring)(k:Nat)(hk:k<R.asks.length),ls=[.d (aK R),.d (.int k)]∧R.Ok∧∀c,post (.own c ((wayL R.n R.asks[k] true).map fun (t:Nat)=>D.int (t:Int))) ls
def mv:W Fl:=(wSeq (uX (wApp 6 (wVar 3)))
  (wSet 3 (wBin dZ (wBin bK (wVar 3) (wC (.int 1))) (aO bL (aVal (wBin opIx (wVar 0) (wC (.int 0))) aNil)))))
def lp:W Fl:=(wSeq (Bp [2,3,4,5] (wBin opIx (wBin opIx (wVar 0) (wC (.int 1))) (wVar 1)))
  (wSeq (wSet 6 (wLst aNil))
  (wSeq (uY (aN (wBin opNe (wVar 3) (wVar 4))) mv)
  (wRet (jS 6)))))
theorem qY{f:Nat→Nat}{s m:Nat}(h:s<m):((List.range m).map f).take (s+1)=((List.range m).map f).take s++[f s]:=by
 rw[List.take_succ,List.getElem?_map,List.getElem?_range h]
 rfl
theorem ug:∀ls post,ls.length=2→jh ls post→lp (ls++List.replicate 5 .un) (aM ls post):=by
 rintro ls post - ⟨R,k,hk,rfl,hR,h⟩
 have ha:=hR.ask _ (List.getElem_mem hk)
 have hlo:=hR.lo
 have hhi:=hR.hi
 generalize hA:R.asks[k]=A at ha h
 have h1:=ha.one
 have h2:=ha.other
 unfold lp
 walk_at "w"
 refine⟨askD A,by rw[← hA];exact bD hk,?_⟩
 walk_at "w"
 refine⟨by decide,fun c=>?_⟩
 refine⟨fun m ρ=>∃s,ρ=[.d (aK R),.d (.int k),.d (.str A.nm),.d (.int (((A.one+s) % R.n:Nat):Int)),.d (.int A.other),.d (frD A.size),.own c (((onL R.n A.one A.other).take s).map fun (t:Nat)=>D.int (t:Int))]∧s≤far R.n A.one A.other∧m=far R.n A.one A.other-s,⟨_,0,by rw[Nat.add_zero,Nat.mod_eq_of_lt h1];rfl,Nat.zero_le _,rfl⟩,?_⟩
 rintro m ρ ⟨s,rfl,hs,rfl⟩
 have hf:far R.n A.one A.other<R.n:=Nat.mod_lt _ (by omega)
 have hfe:=pw h1 h2
 have hm:(A.one+s) % R.n=if A.one+s<R.n then A.one+s else A.one+s-R.n:=lP (by omega)
 have hlt:=Nat.mod_lt (A.one+s) (y:=R.n) (by omega)
 walk_at "w"
 split
 ·
  rename_i hne
  have hs':s<far R.n A.one A.other:=by
   refine Nat.lt_of_le_of_ne hs fun z=>hne ?_
   rw[z,hfe]at hm
   rw[z,hfe,hm]
   split<;>split<;>omega
  unfold mv
  walk_at "w"
  refine⟨?_,by omega,far R.n A.one A.other-(s+1),by omega,s+1,?_,hs',rfl⟩
  ·
   rw[List.length_take]
   exact Nat.lt_of_le_of_lt (Nat.min_le_left _ _) (Nat.lt_of_lt_of_le (show s<12 by omega) (by decide))
  have e1:(onL R.n A.one A.other).take (s+1)=(onL R.n A.one A.other).take s++[(A.one+s) % R.n]:=qY hs'
  have e2:(((((A.one+s) % R.n:Nat):Int)+1).fmod (R.n:Int))=(((A.one+(s+1)) % R.n:Nat):Int):=by
   have:=zj (n:=R.n) (i:=(A.one+s) % R.n) (s:=1)
   rw[Nat.mod_add_mod,Nat.add_assoc]at this
   exact this
  rw[e1,e2,List.map_append]
  rfl
 ·
  rename_i heq
  have heq:(((A.one+s) % R.n:Nat):Int)=A.other:=by simpa using heq
  have hs':s=far R.n A.one A.other:=by
   refine Nat.le_antisymm hs ?_
   rw[hfe]
   have e:(A.one+s) % R.n=A.other:=by omega
   rw[hm]at e
   have hne:=ha.ne
   split at e<;>split<;>omega
  refine⟨_,aj (aj aC),?_⟩
  have e1:(onL R.n A.one A.other).take s=wayL R.n A true:=by
   rw[hs',← FC,List.take_of_length_le (Nat.le_refl _)];rfl
  rw[e1]
  exact h c
def gX:FS:=fun ls post=>∃p q:Rat,ls=[.d (frD p),.d (frD q)]∧RB 4400 p∧RB 4400 q∧post (.d (frD (p-q))) ls
def ji:W Fl:=(wRet (aD bQ (aVal (wBin fm (wBin aZ (wBin opIx (wVar 0) (wC (.int 0))) (wBin opIx (wVar 1) (wC (.int 1)))) (wBin aZ (wBin opIx (wVar 1) (wC (.int 0))) (wBin opIx (wVar 0) (wC (.int 1))))) (aVal (wFrz (wBin aZ (wBin opIx (wVar 0) (wC (.int 1))) (wBin opIx (wVar 1) (wC (.int 1))))) aNil))))
theorem q8:∀ls post,ls.length=2→gX ls post→ji (ls++List.replicate 0 .un) (aM ls post):=by
 rintro ls post - ⟨p,q,rfl,hp,hq,h⟩
 unfold ji
 walk_at "w"
 refine⟨hp.bn (by decide),hq.bd (by decide),hq.bn (by decide),hp.bd (by decide),hp.bd (by decide),hq.bd (by decide),_,_,rfl,mQ p q,?_,_,aj (aj aC),?_⟩
 ·
  rw[jE]
  exact Nat.lt_of_lt_of_le (aP hp.2 hq.2) (Nat.pow_le_pow_right (by decide) (by decide))
 ·
  rw[Ft]
  exact h
def bA:FS:=fun ls post=>∃p q:Rat,ls=[.d (frD p),.d (frD q)]∧RB 400000 p∧RB 400000 q∧p.den*q.den<2^9000∧post (.d (frD (p+q))) ls
def lq:W Fl:=(wRet (aD bQ (aVal (wFrz (wBin bK (wBin aZ (wBin opIx (wVar 0) (wC (.int 0))) (wBin opIx (wVar 1) (wC (.int 1)))) (wBin aZ (wBin opIx (wVar 1) (wC (.int 0))) (wBin opIx (wVar 0) (wC (.int 1)))))) (aVal (wFrz (wBin aZ (wBin opIx (wVar 0) (wC (.int 1))) (wBin opIx (wVar 1) (wC (.int 1))))) aNil))))
theorem uh:∀ls post,ls.length=2→bA ls post→lq (ls++List.replicate 0 .un) (aM ls post):=by
 rintro ls post - ⟨p,q,rfl,hp,hq,hz,h⟩
 unfold lq
 walk_at "w"
 refine⟨hp.bn (by decide),hq.bd (by decide),hq.bn (by decide),hp.bd (by decide),hp.bd (by decide),hq.bd (by decide),_,_,rfl,mQ p q,by rw[jE];exact hz,_,aj (aj aC),?_⟩
 rw[vb]
 exact h
theorem qu{p q:Rat}{post:L→List L→Prop}(hp:RB 4400 p)(hq:RB 4400 q)(h:post (.d (frD (p+q))) [.d (frD p),.d (frD q)]):bA [.d (frD p),.d (frD q)] post :=
 ⟨p,q,rfl,hp.mono (by decide),hq.mono (by decide),Nat.lt_of_lt_of_le (aP hp.2 hq.2) (Nat.pow_le_pow_right (by decide) (by decide)),h⟩
def gY:FS:=fun ls post=>∃(R:Ring)(ps:List Rat),ls=[.d (aK R),.d (.lst (ps.map frD))]∧R.Ok∧ps.length=R.asks.length∧LB R ps∧∀a,post (.own a (frL R.n (bM R.n R.asks ps))) ls
def km:W Fl:=(zX 2 (wVar 6) (aD bA (aVal (fZ 2 (wIxV 2 (wVar 6)) (wBin opIx (wVar 2) (wVar 6))) (aVal (wBin opIx (wLst (aVal (wVar 5) (aVal (wBin opIx (wVar 1) (wVar 3)) aNil))) (aO zW (aVal (wBin (Gm false) (wVar 6) (wVar 4)) aNil))) aNil))))
def ko:W Fl:=(wSeq (wSet 4 (wFrz (aD jh (aVal (wVar 0) (aVal (wVar 3) aNil)))))
  (wSeq (wSet 5 (wFrz (aD gX (aVal (wBin opIx (wBin opIx (wBin opIx (wVar 0) (wC (.int 1))) (wVar 3)) (wC (.int 3))) (aVal (wBin opIx (wVar 1) (wVar 3)) aNil)))))
  (wFor (lG (fZ 2 (DG 2) (aO bL (aVal (wVar 2) aNil)))) (aY 6) km)))
def kq:W L:=(wTup (aVal (wC (.int 0)) (aVal (wC (.int 1)) aNil)))
def jj:W Fl:=(wSeq (wSet 2 (fG 1 [] (wSrc (wBin opIx (wVar 0) (wC (.int 0)))) (aY 0) fY kq))
  (wSeq (wFor (lG (aO bL (aVal (wVar 1) aNil))) (aY 3) ko)
  (wRet (jS 2))))
theorem rf:∀ls post,ls.length=2→gY ls post→jj (ls++List.replicate 5 .un) (aM ls post):=by
 rintro ls post - ⟨R,ps,rfl,hR,hl,hb,h⟩
 have hfew:=hR.few
 have hlo:=hR.lo
 have hhi:=hR.hi
 unfold jj
 walk_at "w"
 refine⟨Nat.le_trans hhi (by decide),?_⟩
 refine c6 (h:=fun _=>frD 0) _ _ _ (fun q hq Q hQ=>?_) fun l' a=>?_
 ·
  unfold kq
  walk_at "w"
  exact⟨by decide,hQ⟩
 ·
  walk_at "w"
  refine⟨⟨by omega,by omega⟩,?_⟩
  have e0:(R.rooms.map fun _=>frD 0)=frL R.n (bM R.n (R.asks.take 0) (ps.take 0)):=by
   unfold frL
   refine List.ext_getElem (by simp[Ring.n]) fun j h1 h2=>?_
   simp only[List.getElem_map]
   rfl
  rw[Int.toNat_natCast,e0]
  refine lL _ (fun k ρ=>∃x3 x4 x5 x6,ρ=[.d (aK R),.d (.lst (ps.map frD)),.own a (frL R.n (bM R.n (R.asks.take k) (ps.take k))),x3,x4,x5,x6]) _ ⟨_,_,_,_,rfl⟩ ?_ ?_
  ·
   rintro k ρ hk ⟨x3,x4,x5,x6,rfl⟩ Q h1 h2 h3 h4
   have hk2:k<R.asks.length:=by omega
   have ha:=hR.ask _ (List.getElem_mem hk2)
   have hpb:=hb.p _ (List.getElem_mem hk)
   have hf:∀t,RB 4100 (bM R.n (R.asks.take k) (ps.take k) t):=fun t=>hb.ld k t
   unfold ko
   walk_at "w"
   refine⟨R,k,hk2,rfl,hR,fun c2=>?_⟩
   walk_at "w"
   refine⟨_,bD hk2,?_⟩
   walk_at "w"
   refine⟨_,bD hk,?_⟩
   refine⟨_,_,rfl,(hR.rb (List.getElem_mem hk2)).mono (by decide),hpb.mono (by decide),?_⟩
   walk_at "w"
   refine⟨⟨by omega,by omega⟩,?_⟩
   rw[Int.toNat_natCast]
   refine lL _ (fun j ρ=>∃x6,ρ=[.d (aK R),.d (.lst (ps.map frD)),.own a (frL R.n fun t=>if t<j then bM R.n (R.asks.take (k+1)) (ps.take (k+1)) t else bM R.n (R.asks.take k) (ps.take k) t),.d (.int k),.d (.lst ((wayL R.n R.asks[k] true).map fun (t:Nat)=>D.int (t:Int))),.d (frD (R.asks[k].size-ps[k])),x6]) _ ⟨_,by simp;rfl⟩ ?_ ?_
   ·
    rintro t ρ ht ⟨x6,rfl⟩ Q' g1 g2 g3 g4
    have m1:=xr ha true ht
    unfold km
    walk_at "w"
    refine⟨_,B1 ht,?_⟩
    walk_at "w"
    refine⟨_,bD hk,by decide,fun _=>⟨rfl,Ca _,?_⟩⟩
    rw[zm,if_neg (Nat.lt_irrefl t)]
    have es:atI [frD (R.asks[k].size-ps[k]),frD ps[k]] (if decide (t∈wayL R.n R.asks[k] true)=true then 1 else 0)=some (frD (sent R.n R.asks[k] ps[k] t)):=by
     unfold sent
     cases e:isOn R.n R.asks[k] t
     ·
      rw[e]at m1
      rw[if_neg (by rw[decide_eq_true_iff,m1];decide),sI]
      rfl
     ·
      rw[e]at m1
      rw[if_pos (by rw[decide_eq_true_iff,m1];rfl),sJ]
      rfl
    refine⟨_,es,?_⟩
    refine qu ((hf t).mono (by decide)) ((hb.st k hk2 hk t).mono (by decide)) ?_
    walk_at "w"
    have:=I0 (n:=R.n) (f:=fun s=>if s<t then bM R.n (R.asks.take (k+1)) (ps.take (k+1)) s else bM R.n (R.asks.take k) (ps.take k) s) ht
    rw[xn]at this
    refine⟨t,this,?_⟩
    rw[GT]
    have ef:(frL R.n fun s=>if s=t then bM R.n (R.asks.take k) (ps.take k) t+sent R.n R.asks[k] ps[k] t else if s<t then bM R.n (R.asks.take (k+1)) (ps.take (k+1)) s else bM R.n (R.asks.take k) (ps.take k) s)=frL R.n fun s=>if s<t+1 then bM R.n (R.asks.take (k+1)) (ps.take (k+1)) s else bM R.n (R.asks.take k) (ps.take k) s:=by
     refine vo fun s hs=>?_
     by_cases e:s=t
     ·
      subst e
      rw[if_pos rfl,if_pos (by omega),rG hk2 hk]
     ·
      rw[if_neg e]
      by_cases e2:s<t
      ·
       rw[if_pos e2,if_pos (by omega)]
      ·
       rw[if_neg e2,if_neg (by omega)]
    rw[ef]
    exact g1 _ ⟨_,rfl⟩
   ·
    rintro ρ ⟨x6,rfl⟩
    have ef:(frL R.n fun s=>if s<R.n then bM R.n (R.asks.take (k+1)) (ps.take (k+1)) s else bM R.n (R.asks.take k) (ps.take k) s)=frL R.n (bM R.n (R.asks.take (k+1)) (ps.take (k+1))):=vo fun s hs=>by rw[if_pos hs]
    rw[ef]
    exact h1 _ ⟨_,_,_,_,rfl⟩
  ·
   rintro ρ ⟨x3,x4,x5,x6,rfl⟩
   walk_at "w"
   rw[List.take_of_length_le (by omega),List.take_of_length_le (by omega)]
   exact⟨_,aj (aj aC),h a⟩
def fC:FS:=fun ls post=>∃p q:Rat,ls=[.d (frD p),.d (frD q)]∧RB 4400 p∧RB 4400 q∧q≠0∧post (.d (frD (p / q))) ls
def lr:W Fl:=(wRet (aD bQ (aVal (wFrz (wBin aZ (wBin opIx (wVar 0) (wC (.int 0))) (wBin opIx (wVar 1) (wC (.int 1))))) (aVal (wFrz (wBin aZ (wBin opIx (wVar 0) (wC (.int 1))) (wBin opIx (wVar 1) (wC (.int 0))))) aNil))))
theorem ui:∀ls post,ls.length=2→fC ls post→lr (ls++List.replicate 0 .un) (aM ls post):=by
 rintro ls post - ⟨p,q,rfl,hp,hq,h0,h⟩
 unfold lr
 walk_at "w"
 refine⟨hp.bn (by decide),hq.bd (by decide),hp.bd (by decide),hq.bn (by decide),_,_,rfl,Int.mul_ne_zero (iE p) (vi h0),?_,_,aj (aj aC),?_⟩
 ·
  rw[Int.natAbs_mul,Int.natAbs_natCast]
  exact Nat.lt_of_lt_of_le (aP hp.2 hq.1) (Nat.pow_le_pow_right (by decide) (by decide))
 ·
  rw[za p h0]
  exact h
def lu:FS:=fun ls post=>∃(R:Ring)(ps:List Rat),ls=[.d (aK R),.d (.lst (ps.map frD))]∧R.Ok∧ps.length=R.asks.length∧LB R ps∧post (.d (frD (topQ R ps))) ls
def nY:W Fl:=(wSeq (wSet 5 (wFrz (aD fC (aVal (wVar 3) (aVal (wVar 4) aNil)))))
  (wIf (aN (aD eA (aVal (wVar 2) (aVal (wVar 5) aNil)))) (wSet 2 (wVar 5)) bu))
def nC:W Fl:=(wSeq (wSet 2 (wTup (aVal (wC (.int 0)) (aVal (wC (.int 1)) aNil))))
  (wSeq (wFor (wZip (aD gY (aVal (wVar 0) (aVal (wVar 1) aNil))) (wBin opIx (wVar 0) (wC (.int 0)))) (fF [3,4]) nY)
  (wRet (jS 2))))
theorem v7:∀ls post,ls.length=2→lu ls post→nC (ls++List.replicate 4 .un) (aM ls post):=by
 rintro ls post - ⟨R,ps,rfl,hR,hl,hb,h⟩
 have hfew:=hR.few
 unfold nC
 walk_at "w"
 refine⟨by decide,R,ps,rfl,hR,hl,hb,fun c2=>?_⟩
 walk_at "w"
 rw[zv,Cg]
 have lb:∀t,RB 4100 (bM R.n R.asks ps t):=fun t=>hb.all hl t
 refine dN (enc:=fun (t:Nat)=>D.tup [frD (bM R.n R.asks ps t),frD (R.room t)]) (List.range R.n) (fun pre ρ=>∃x3 x4 x5,ρ=[.d (aK R),.d (.lst (ps.map frD)),.d (frD (maxQ (aF R ps) pre)),x3,x4,x5]∧RB 4170 (maxQ (aF R ps) pre)) _ ⟨_,_,_,rfl,RB.zero.mono (by decide)⟩ ?_ ?_
 ·
  rintro pre t suf ρ hsp ⟨x3,x4,x5,rfl,hm⟩ Q h1 h2 h3 h4
  have ht:t<R.n:=List.mem_range.mp (by rw[hsp];simp)
  obtain⟨r1,r2⟩:=cH hR ht
  have sb:RB 4170 (aF R ps t):=((lb t).div r2 (by grind)).mono (by decide)
  rw[Ex]at h1
  unfold nY
  walk_at "w"
  refine⟨_,_,rfl,(lb t).mono (by decide),r2.mono (by decide),(by grind),?_⟩
  have es:bM R.n R.asks ps t / R.room t=aF R ps t:=rfl
  rw[es]
  walk_at "w"
  refine⟨_,_,rfl,hm.mono (by decide),sb.mono (by decide),?_⟩
  walk_at "w"
  split
  ·
   rename_i hlt
   rw[if_pos hlt]at h1
   exact h1 _ ⟨_,_,_,rfl,sb⟩
  ·
   rename_i hlt
   rw[if_neg hlt]at h1
   exact h1 _ ⟨_,_,_,rfl,hm⟩
 ·
  rintro ρ ⟨x3,x4,x5,rfl,hm⟩
  walk_at "w"
  exact⟨_,aj (aj aC),h⟩
def gZ:FS:=fun ls post=>∃(c:Nat×Nat)(i j:Nat),ls=[.d (cutP c),.d (.int i),.d (.int j)]∧post (.d (.bl (apart c i j))) ls
def jk:W Fl:=(wRet (wBin opNe (nK opLt opLe (wBin opIx (wVar 0) (wC (.int 0))) (wVar 1) (wBin opIx (wVar 0) (wC (.int 1)))) (nK opLt opLe (wBin opIx (wVar 0) (wC (.int 0))) (wVar 2) (wBin opIx (wVar 0) (wC (.int 1))))))
theorem rg:∀ls post,ls.length=3→gZ ls post→jk (ls++List.replicate 0 .un) (aM ls post):=by
 rintro ls post - ⟨c,i,j,rfl,h⟩
 unfold jk
 walk_at "w"
 have w1:∀p:Nat,fV c p=decide ((c.1:Int)<p∧(p:Int)≤c.2):=fun p=>by unfold fV;rw[decide_eq_decide];omega
 unfold apart at h
 rw[w1,w1]at h
 by_cases a1:(c.1:Int)<i<;>by_cases a2:(c.1:Int)<j<;>by_cases b1:(i:Int)≤c.2<;>by_cases b2:(j:Int)≤c.2
 all_goals
  simp only[a1,a2,b1,b2,if_true,if_false,true_and,false_and,and_self,decide_true,decide_false,not_true_eq_false,not_false_eq_true]at h ⊢
  exact⟨_,aj (aj (aj aC)),h⟩
def fR:FS:=fun ls post=>∃(R:Ring)(c:Nat×Nat),ls=[.d (aK R),.d (cutP c)]∧R.Ok∧post (.d (frD (bh R.asks c))) ls
def jm:W Fl:=(wIf (aN (aD gZ (aVal (wVar 1) (aVal (wVar 4) (aVal (wVar 5) aNil))))) (wSet 2 (aD bA (aVal (wVar 2) (aVal (wVar 6) aNil)))) bu)
def g5:W Fl:=(wSeq (wSet 2 (wTup (aVal (wC (.int 0)) (aVal (wC (.int 1)) aNil))))
  (wSeq (wFor (wSrc (wBin opIx (wVar 0) (wC (.int 1)))) (fF [3,4,5,6]) jm)
  (wRet (jS 2))))
theorem qv:∀ls post,ls.length=2→fR ls post→g5 (ls++List.replicate 5 .un) (aM ls post):=by
 rintro ls post - ⟨R,c,rfl,hR,h⟩
 have hfew:=hR.few
 unfold g5
 walk_at "w"
 refine⟨by decide,?_⟩
 refine dN (enc:=askD) R.asks (fun pre ρ=>∃(q:Rat)(x3 x4 x5 x6:L),ρ=[.d (aK R),.d (cutP c),.d (frD q),x3,x4,x5,x6]∧q=bh pre c) _ ⟨0,_,_,_,_,rfl,rfl⟩ ?_ ?_
 ·
  rintro pre A suf ρ hsp ⟨q,x3,x4,x5,x6,rfl,hq⟩ Q h1 h2 h3 h4
  have hmA:A∈R.asks:=by rw[hsp];simp
  have hqb:RB 1546 q:=by
   rw[hq]
   refine rJ hR (fun a ha=>by rw[hsp];simp[ha]) ?_ c
   have:=congrArg List.length hsp
   rw[List.length_append,List.length_cons]at this
   omega
  have hA:jU R.n A:=hR.ask A (by rw[hsp];simp)
  have hlen:pre.length<20:=by
   have:=congrArg List.length hsp
   rw[List.length_append,List.length_cons]at this
   omega
  unfold jm
  walk_at "w"
  refine⟨c,A.one,A.other,rfl,?_⟩
  walk_at "w"
  have e1:bh (pre++[A]) c=if apart c A.one A.other=true then q+A.size else q:=by
   unfold bh at hq ⊢
   rw[List.filter_append,List.map_append,hq]
   split
   ·
    rename_i e
    rw[List.filter_cons,if_pos e]
    exact nO _ _
   ·
    rename_i e
    rw[List.filter_cons,if_neg e]
    simp
  cases e:apart c A.one A.other
  ·
   rw[e]at e1
   walk_at "w"
   refine h1 _ ⟨q,_,_,_,_,rfl,e1.symm⟩
  ·
   rw[e]at e1
   walk_at "w"
   refine qu (hqb.mono (by decide)) ((hR.rb hmA).mono (by decide)) ?_
   walk_at "w"
   refine h1 _ ⟨_,_,_,_,_,rfl,e1.symm⟩
 ·
  rintro ρ ⟨q,x3,x4,x5,x6,rfl,hq⟩
  walk_at "w"
  rw[hq]
  exact⟨_,aj (aj aC),h⟩
def g6:FS:=fun ls post=>∃(R:Ring)(c:Nat×Nat),ls=[.d (aK R),.d (cutP c)]∧R.Ok∧bP R.n c∧post (.d (frD (a7 R c))) ls
def jn:W Fl:=(wRet (aD fC (aVal (wFrz (aD fR (aVal (wVar 0) (aVal (wVar 1) aNil)))) (aVal (wFrz (aD bA (aVal (wBin opIx (wBin opIx (wVar 0) (wC (.int 0))) (wBin opIx (wVar 1) (wC (.int 0)))) (aVal (wBin opIx (wBin opIx (wVar 0) (wC (.int 0))) (wBin opIx (wVar 1) (wC (.int 1)))) aNil)))) aNil))))
theorem rh:∀ls post,ls.length=2→g6 ls post→jn (ls++List.replicate 0 .un) (aM ls post):=by
 rintro ls post - ⟨R,c,rfl,hR,hc,h⟩
 have h1:c.1<R.n:=by have:=hc.1;have:=hc.2;omega
 obtain⟨r1,r2⟩:=eP hR hc
 unfold jn
 walk_at "w"
 refine⟨R,c,rfl,hR,?_⟩
 walk_at "w"
 refine⟨_,sQ h1,?_⟩
 walk_at "w"
 refine⟨_,sQ hc.2,?_⟩
 refine qu ((cH hR h1).2.mono (by decide)) ((cH hR hc.2).2.mono (by decide)) ?_
 walk_at "w"
 exact⟨_,_,rfl,(pC hR c).mono (by decide),r2.mono (by decide),(show eO R c≠0 by grind),_,aj (aj aC),h⟩
def lx:FS:=fun ls post=>∃(R:Ring)(d:D),ls=[.d (aK R),.d d]∧R.Ok∧(∀a b c,d=.tup [a,b,c]→j5 R b∧zC b∧∀i j,a=.tup [.int i,.int j]→j.natAbs<2^9000)∧post (.d (.bl (dS R d))) ls
def nZ:W Fl:=(wRet (jT (wBin opEq (aD lu (aVal (wVar 0) (aVal (wBin opIx (wVar 1) (wC (.int 1))) aNil))) (wBin opIx (wVar 1) (wC (.int 0)))) (wBin opEq (aD g6 (aVal (wVar 0) (aVal (wBin opIx (wVar 1) (wC (.int 2))) aNil))) (wBin opIx (wVar 1) (wC (.int 0))))))
def jo:W Fl:=(wSeq (wIf (wOr (wNot (aN (nK opLe opLe (wC (.int 0)) (wBin opIx (wBin opIx (wVar 1) (wC (.int 2))) (wC (.int 0))) (wBin opIx (wBin opIx (wVar 1) (wC (.int 2))) (wC (.int 1)))))) (aN (wBin opGe (wBin opIx (wBin opIx (wVar 1) (wC (.int 2))) (wC (.int 1))) (aO bL (aVal (wBin opIx (wVar 0) (wC (.int 0))) aNil))))) (wRet (wC (.bl false))) bu)
  nZ)
def jq:W Fl:=(wSeq (wIf (wOr (aN (wBin opNe (aO bL (aVal (wBin opIx (wVar 1) (wC (.int 2))) aNil)) (wC (.int 2)))) (wOr (wNot (aN (aD cg (aVal (wBin opIx (wBin opIx (wVar 1) (wC (.int 2))) (wC (.int 0))) aNil)))) (wNot (aN (aD cg (aVal (wBin opIx (wBin opIx (wVar 1) (wC (.int 2))) (wC (.int 1))) aNil)))))) (wRet (wC (.bl false))) bu)
  jo)
def n4:W Fl:=(wSeq (wIf (wOr (wNot (aN (aD dg (aVal (wVar 0) (aVal (wBin opIx (wVar 1) (wC (.int 1))) aNil))))) (wNot (aN (wUn (ky "tuple") (wBin opIx (wVar 1) (wC (.int 2))))))) (wRet (wC (.bl false))) bu)
  jq)
def nD:W Fl:=(wSeq (wIf (wOr (wNot (aN (wUn (ky "tuple") (wVar 1)))) (wOr (aN (wBin opNe (aO bL (aVal (wVar 1) aNil)) (wC (.int 3)))) (wNot (aN (aD cj (aVal (wBin opIx (wVar 1) (wC (.int 0))) aNil)))))) (wRet (wC (.bl false))) bu)
  n4)
theorem v8:∀ls post,ls.length=2→lx ls post→nD (ls++List.replicate 0 .un) (aM ls post):=by
 rintro ls post - ⟨R,d,rfl,hR,hs,h⟩
 unfold nD
 by_cases hd:∃a b c,d=.tup [a,b,c]
 ·
  obtain⟨a,b,c,rfl⟩:=hd
  obtain⟨h1,h2,h3⟩:=hs a b c rfl
  have eL:dS R (.tup [a,b,c])=(ratB a && (topB R (ratQ a) b && tM R (ratQ a) c)):=rfl
  rw[eL]at h
  walk_at "w"
  rw[if_neg (by simp)]
  refine⟨a,rfl,h3,?_⟩
  walk_at "w"
  cases ea:ratB a
  ·
   rw[ea,Bool.false_and]at h
   exact⟨_,aj (aj aC),h⟩
  rw[ea,Bool.true_and]at h
  obtain⟨q,rfl⟩:=tI ea
  rw[gH]at h
  unfold n4
  walk_at "w"
  refine⟨R,b,rfl,hR,h2,?_⟩
  walk_at "w"
  cases eb:iI R b
  ·
   rw[xI eb,Bool.false_and]at h
   exact⟨_,aj (aj aC),h⟩
  obtain⟨ps,rfl,pl,pn⟩:=tK eb
  rw[oJ pl pn]at h
  by_cases hc:cutB R.n c=true
  ·
   obtain⟨e,rfl,he⟩:=xH hc
   rw[lU he]at h
   have i1:=he.1
   have i2:=he.2
   have lb:=h1.lb ps rfl pl pn
   rw[if_neg (by decide),if_neg (by rw[nN];decide)]
   rw[← EK hR fun t ht=>EJ hR pl pn ht]at h
   unfold jq
   walk_at "w"
   rw[if_neg (by simp)]
   refine .inl ⟨_,rfl,?_⟩
   walk_at "w"
   refine .inl ⟨_,rfl,?_⟩
   walk_at "w"
   unfold jo
   walk_at "w"
   rw[if_pos (by omega),if_neg (by omega),if_neg (by omega)]
   unfold nZ
   walk_at "w"
   refine⟨R,ps,rfl,hR,pl,lb,?_⟩
   walk_at "w"
   by_cases et:topQ R ps=q
   ·
    rw[if_pos et]
    refine⟨R,e,rfl,hR,he,?_⟩
    walk_at "w"
    rw[decide_eq_true et,Bool.true_and]at h
    exact⟨_,aj (aj aC),h⟩
   ·
    rw[if_neg et]
    rw[decide_eq_false et,Bool.false_and]at h
    exact⟨_,aj (aj aC),h⟩
  ·
   have hc:=(Bool.not_eq_true _).mp hc
   rw[tN hc,Bool.and_false]at h
   rw[if_neg (by decide)]
   cases c with
   | tup xs =>
    rw[if_neg (by rw[zh];decide)]
    unfold jq
    walk_at "w"
    by_cases hn:xs.length=2
    ·
     rw[if_neg (by omega)]
     obtain⟨x,y,rfl⟩:∃x y,xs=[x,y]:=by
      rcases xs with _|⟨x,_|⟨y,_|⟨z,zs⟩⟩⟩<;>simp at hn
      exact⟨_,_,rfl⟩
     walk_at "w"
     by_cases hx:∃i,x=.int i
     ·
      obtain⟨i,rfl⟩:=hx
      refine .inl ⟨i,rfl,?_⟩
      walk_at "w"
      by_cases hy:∃j,y=.int j
      ·
       obtain⟨j,rfl⟩:=hy
       have hij:¬(0≤i∧i≤j∧j<(R.n:Int)):=of_decide_eq_false hc
       refine .inl ⟨j,rfl,?_⟩
       walk_at "w"
       unfold jo
       walk_at "w"
       have no:aM [.d (aK R),.d (.tup [frD q,.lst (ps.map frD),.tup [.int i,.int j]])] post (.rt (.d (.bl false))) [.d (aK R),.d (.tup [frD q,.lst (ps.map frD),.tup [.int i,.int j]])]:=⟨_,aj (aj aC),h⟩
       by_cases g1:0≤i
       ·
        rw[if_pos g1]
        by_cases g2:i≤j
        ·
         rw[if_neg (by omega),if_pos (by omega)]
         exact no
        ·
         rw[if_pos g2]
         exact no
       ·
        rw[if_neg g1]
        exact no
      ·
       refine .inr ⟨y,rfl,fun j e=>hy ⟨j,e⟩,?_⟩
       walk_at "w"
       exact⟨_,aj (aj aC),h⟩
     ·
      refine .inr ⟨x,rfl,fun j e=>hx ⟨j,e⟩,?_⟩
      walk_at "w"
      exact⟨_,aj (aj aC),h⟩
    ·
     rw[if_pos (by omega)]
     exact⟨_,aj (aj aC),h⟩
   |_=>exact⟨_,aj (aj aC),h⟩
 ·
  have e:dS R d=false:=by
   unfold dS
   split
   ·
    exact absurd ⟨_,_,_,rfl⟩ hd
   ·
    rfl
  rw[e]at h
  cases d with
  | tup xs =>
   have hn:xs.length≠3:=fun z=>hd (by
    rcases xs with _|⟨x,_|⟨y,_|⟨w,_|⟨v,vs⟩⟩⟩⟩<;>simp at z
    exact⟨_,_,_,rfl⟩)
   walk_at "w"
   rw[if_pos (by omega)]
   exact⟨_,aj (aj aC),h⟩
  | _ =>
   walk_at "w"
   exact⟨_,aj (aj aC),h⟩
def g7:FS:=fun ls post=>∃(R:Ring)(d:D),ls=[.d (aK R),.d d,.d (frD (gcut R).1)]∧R.Ok∧KOk R d∧post (.d (.bl true)) ls
def jr:W Fl:=(wSeq (wSet 3 (wFrz (aO pk (aVal (wVar 1) aNil))))
  (wSeq (wSet 4 (wFrz (aD ez (aVal (wVar 0) (aVal (wVar 1) aNil)))))
  (wSeq (wIf (wOr (wNot (aN (wUn (ky "bool") (wVar 4)))) (wOr (aN (wBin opNe (wVar 4) (aD lx (aVal (wVar 0) (aVal (wVar 1) aNil))))) (aN (wBin DU (aO pk (aVal (wVar 1) aNil)) (wVar 3))))) (wRet (wC (.bl false))) bu)
  (wRet (wOrV (Bc (aN (wVar 4))) (wBin opEq (wBin opIx (wVar 1) (wC (.int 0))) (wVar 2)))))))
theorem Az{R:Ring}{d:D}(h:dS R d=true):∃a b c,d=.tup [a,b,c]:=by
 unfold dS at h
 split at h
 ·
  exact⟨_,_,_,rfl⟩
 ·
  cases h
theorem rj:∀ls post,ls.length=3→g7 ls post→jr (ls++List.replicate 2 .un) (aM ls post):=by
 rintro ls post - ⟨R,d,rfl,hR,hd,h⟩
 unfold jr
 walk_at "w"
 refine⟨_,rfl,hd.rp,?_⟩
 walk_at "w"
 refine⟨R,d,rfl,hR,fun a b c e=>(hd.s a b c e).1,?_⟩
 walk_at "w"
 refine⟨R,d,rfl,hR,hd.s,?_⟩
 walk_at "w"
 rw[if_neg (by simp)]
 refine⟨_,rfl,hd.rp,?_⟩
 dsimp only
 rw[if_neg (by simp)]
 cases e:dS R d with
 | false =>
  rw[if_pos rfl]
  exact⟨_,aj (aj (aj aC)),h⟩
 | true =>
  rw[if_neg (by decide)]
  obtain⟨a,b,c,rfl⟩:=Az e
  have ea:=Ak hR (hd.s a b c rfl).1 e
  subst ea
  walk_at "w"
  rw[decide_eq_true True.intro]
  exact⟨_,aj (aj (aj aC)),h⟩
structure Hs (R:Ring) (ps:List Rat):Prop extends kC R ps 70 where
 tw:Tw R ps
def g8:FS:=fun ls post=>∃(a:Addr)(xs:List D)(R:Ring),ls=[.own a xs,.d (aK R)]∧StOk xs∧R.Ok∧(∀a∈R.asks,RB 60 a.size)∧∀(ps:List Rat)(c:Addr)(ys:List D),StOk ys→Hs R ps→post (.own c (ps.map frD)) [.own a ys,.d (aK R)]
def kr:W Fl:=(wSeq (wSet 7 (wFrz (a5 ay 0 0 (aVar 0 (aVal (wC (.int 4)) aNil)))))
  (wSeq (wSet 8 (wFrz (a5 ay 0 0 (aVar 0 (aVal (wC (.int 13)) aNil)))))
  (uX (wApp 2 (wBin opIx (wLst (aVal (wTup (aVal (wC (.int 0)) (aVal (wC (.int 1)) aNil))) (aVal (wVar 6) (aVal (wFrz (aD bQ (aVal (wFrz (wBin aZ (wBin opIx (wVar 6) (wC (.int 0))) (wVar 8))) (aVal (wFrz (wBin aZ (wBin opIx (wVar 6) (wC (.int 1))) (wC (.int 12)))) aNil)))) aNil)))) (aO zV (aVal (wVar 7) (aVal (wC (.int 2)) aNil))))))))
def jt:W Fl:=(wSeq (wSet 2 (wLst aNil))
  (wSeq (wFor (wSrc (wBin opIx (wVar 1) (wC (.int 1)))) (fF [3,4,5,6]) kr)
  (wRet (jS 2))))
def Tw1(z p:Rat):Prop:=∃v:Int,0≤v∧v≤12∧p=z*Rat.divInt v 12
theorem Km{R:Ring}{ps:List Rat}(hl:ps.length=R.asks.length)(h:∀x∈R.asks.zip ps,Tw1 x.1.size x.2):Tw R ps:=fun k hk=>by
 have h1:k<ps.length:=by omega
 have:=h (R.asks[k],ps[k]) (by
  rw[List.mem_iff_getElem]
  exact⟨k,by rw[List.length_zip];omega,by rw[List.getElem_zip]⟩)
 rw[iF h1,xx hk]
 exact this
theorem C1{s:Rat}{v:Int}(h0:0≤s)(hb:RB 60 s)(v0:0≤v)(v1:v<13):(0≤Rat.divInt (s.num*v) ((s.den:Int)*12)∧Rat.divInt (s.num*v) ((s.den:Int)*12)≤s)∧RB 70 (Rat.divInt (s.num*v) ((s.den:Int)*12)):=by
 have e:Rat.divInt (s.num*v) ((s.den:Int)*12)=s*Rat.divInt v 12:=by
  rw[← Rat.divInt_mul_divInt,Rat.num_divInt_den]
 have f0:0≤Rat.divInt v 12:=Rat.divInt_nonneg v0 (by decide)
 have f1:0≤1-Rat.divInt v 12:=by
  have e1:1-Rat.divInt v 12=Rat.divInt (12-v) 12:=by
   have:(1:Rat)=Rat.divInt 12 12:=rfl
   rw[this,Rat.divInt_sub_divInt _ _ (by decide) (by decide),Rat.divInt_eq_divInt_iff (by decide) (by decide)]
   omega
  rw[e1]
  exact Rat.divInt_nonneg (by omega) (by decide)
 have m0:=Rat.mul_nonneg h0 f0
 have m1:=Rat.mul_nonneg h0 f1
 have hd:=den_pos s
 refine⟨⟨by rw[e];exact m0,by rw[e];grind⟩,RB.of_divInt (Int.mul_ne_zero (by omega) (by decide)) ?_ ?_⟩
 ·
  rw[Int.natAbs_mul]
  exact Nat.lt_of_lt_of_le (aP (n:=10) hb.1 (show v.natAbs<2^10 by omega)) (Nat.le_refl _)
 ·
  rw[Int.natAbs_mul]
  exact Nat.lt_of_lt_of_le (aP (m:=60) (n:=10) (by rw[Int.natAbs_natCast];exact hb.2) (show(12:Int).natAbs<2^10 by decide)) (Nat.le_refl _)
theorem rk:∀ls post,ls.length=2→g8 ls post→jt (ls++List.replicate 7 .un) (aM ls post):=by
 rintro ls post - ⟨a,xs,R,rfl,hx,hR,hT,h⟩
 have hfew:=hR.few
 unfold jt
 walk_at "w"
 refine⟨by decide,fun c=>?_⟩
 refine dN (enc:=askD) R.asks (fun pre ρ=>∃(ps:List Rat)(ys:List D)(x3 x4 x5 x6 x7 x8:L),ρ=[.own a ys,.d (aK R),.own c (ps.map frD),x3,x4,x5,x6,x7,x8]∧StOk ys∧ps.length=pre.length∧(∀x∈pre.zip ps,0≤x.2∧x.2≤x.1.size)∧(∀p∈ps,RB 70 p)∧∀x∈pre.zip ps,Tw1 x.1.size x.2) _ ⟨[],xs,_,_,_,_,_,_,rfl,hx,rfl,(fun x hx=>by simp at hx),(fun x hx=>by simp at hx),fun x hx=>by simp at hx⟩ ?_ ?_
 ·
  rintro pre A suf ρ hsp ⟨ps,ys,x3,x4,x5,x6,x7,x8,rfl,hy,hl,hlo,hb,hw1⟩ Q h1 h2 h3 h4
  have hA:jU R.n A:=hR.ask A (by rw[hsp];simp)
  have hAb:RB 60 A.size:=hT A (by rw[hsp];simp)
  have hlen:pre.length<20:=by
   have:=congrArg List.length hsp
   rw[List.length_append,List.length_cons]at this
   omega
  unfold kr
  walk_at "w"
  refine⟨a,ys,4,rfl,hy,by decide,by decide,fun r zs hz r0 r1=>⟨zs,rfl,?_⟩⟩
  walk_at "w"
  refine⟨a,zs,13,rfl,hz,by decide,by decide,fun v ws hw v0 v1=>⟨ws,rfl,?_⟩⟩
  walk_at "w"
  obtain⟨p1,p2⟩:=C1 hA.size hAb v0 v1
  have hd:=den_pos A.size
  have fin:∀p:Rat,(0≤p∧p≤A.size)→RB 70 p→Tw1 A.size p→Q .nx [.own a ws,.d (aK R),.own c (ps.map frD++[frD p]),.d (.str A.nm),.d (.int A.one),.d (.int A.other),.d (frD A.size),.d (.int r),.d (.int v)]:=by
   intro p hp hpb hpw
   refine h1 _ ⟨ps++[p],ws,_,_,_,_,_,_,by rw[List.map_append];rfl,hw,by rw[List.length_append,List.length_append,hl];rfl,fun x hx=>?_,fun q hq=>?_,fun x hx=>?_⟩
   ·
    rw[List.zip_append (by omega)]at hx
    rcases List.mem_append.mp hx with hx|hx
    ·
     exact hlo x hx
    ·
     have:x=(A,p):=by simpa using hx
     subst this
     exact hp
   ·
    rcases List.mem_append.mp hq with hq|hq
    ·
     exact hb q hq
    ·
     rw[List.mem_singleton.mp hq];exact hpb
   ·
    rw[List.zip_append (by omega)]at hx
    rcases List.mem_append.mp hx with hx|hx
    ·
     exact hw1 x hx
    ·
     have:x=(A,p):=by simpa using hx
     subst this
     exact hpw
  have hsz:ps.length<sizeLine:=Nat.lt_of_lt_of_le (show ps.length<20 by omega) (by decide)
  refine⟨by decide,hAb.bn (by decide),a8 (by omega),hAb.bd (by decide),a8 (by decide),A.size.num*v,(A.size.den:Int)*12,rfl,Int.mul_ne_zero (by omega) (by decide),?_,?_⟩
  ·
   rw[Int.natAbs_mul]
   exact Nat.lt_of_lt_of_le (aP (m:=60) (n:=10) (by rw[Int.natAbs_natCast];exact hAb.2) (show(12:Int).natAbs<2^10 by decide)) (Nat.pow_le_pow_right (by decide) (by decide))
  ·
   walk_at "w"
   refine⟨by decide,fun _=>?_⟩
   have hr:r=0∨r=1∨r=2∨r=3:=by omega
   rcases hr with rfl|rfl|rfl|rfl
   ·
    exact⟨frD 0,sI,hsz,fin 0 ⟨by decide,hA.size⟩ (RB.zero.mono (by decide)) ⟨0,by decide,by decide,by rw[show Rat.divInt 0 12=0 from rfl,Rat.mul_zero]⟩⟩
   ·
    exact⟨frD A.size,sJ,hsz,fin A.size ⟨hA.size,Rat.le_refl⟩ (hAb.mono (by decide)) ⟨12,by decide,by decide,by rw[show Rat.divInt 12 12=1 from rfl,Rat.mul_one]⟩⟩
   ·
    exact⟨_,D0,hsz,fin _ p1 p2 ⟨v,v0,by omega,by rw[← Rat.divInt_mul_divInt,Rat.num_divInt_den]⟩⟩
   ·
    exact⟨_,D0,hsz,fin _ p1 p2 ⟨v,v0,by omega,by rw[← Rat.divInt_mul_divInt,Rat.num_divInt_den]⟩⟩
 ·
  rintro ρ ⟨ps,ys,x3,x4,x5,x6,x7,x8,rfl,hy,hl,hlo,hb,hw1⟩
  walk_at "w"
  exact⟨_,d9 (ys:=ys) (by simp) (aj aC),h ps c ys hy ⟨⟨hl,hlo,hb⟩,Km hl hw1⟩⟩
def dh:FS:=fun ls post=>∃(a:Addr)(xs:List D)(R:Ring)(N:Nat),ls=[.own a xs,.d (aK R),.d (.lst ((bf R (gcut R).1).map frD))]∧StOk xs∧R.Ok∧(∀a∈R.asks,RB 60 a.size)∧NOk R N ∧
 ∀(b:D)(ys:List D),StOk ys→BP R b→post (.d b) [.own a ys,.d (aK R),.d (.lst ((bf R (gcut R).1).map frD))]
def cJ:W Fl:=(wRet (wFrz (wBin bK (wBin bK (wSl2 (wVar 2) none (some (wVar 5))) (wLst (aVal (wBin opIx (wLst (aVal (wTup (aVal (wUn zQ (wC (.int 1))) (aVal (wC (.int 3)) aNil))) (aVal (wFrz (aD bA (aVal (wBin opIx (wBin opIx (wBin opIx (wVar 1) (wC (.int 1))) (wVar 5)) (wC (.int 3))) (aVal (wTup (aVal (wC (.int 1)) (aVal (wC (.int 3)) aNil))) aNil)))) aNil))) (a5 ay 0 0 (aVar 0 (aVal (wC (.int 2)) aNil)))) aNil))) (wSl2 (wVar 2) (some (wBin bK (wVar 5) (wC (.int 1)))) none))))
def eZ:W Fl:=(wRet (wFrz (a5 g8 0 0 (aVar 0 (aVal (wVar 1) aNil)))))
def cK:W Fl:=(wRet (wFrz (wBin bK (wBin bK (wSl2 (wVar 2) none (some (wVar 5))) (wLst (aVal (wFrz (aD bA (aVal (wBin opIx (wVar 2) (wVar 5)) (aVal (wFrz (aD bQ (aVal (wBin fm (a5 ay 0 0 (aVar 0 (aVal (wC (.int 5)) aNil))) (wC (.int 2))) (aVal (wC (.int 3)) aNil)))) aNil)))) aNil))) (wSl2 (wVar 2) (some (wBin bK (wVar 5) (wC (.int 1)))) none))))
def e8:W Fl:=(wSeq (wIf (aN (wBin opEq (wVar 4) (wC (.int 4)))) cJ bu)
  eZ)
def cL:W Fl:=(wRet (wFrz (wSl2 (wVar 2) (some (wC (.int 1))) none)))
def fb:W Fl:=(wSeq (wIf (aN (wBin opEq (wVar 4) (wC (.int 3)))) cK bu)
  e8)
def cM:W Fl:=(wRet (wFrz (wBin bK (wBin bK (wSl2 (wVar 2) none (some (wVar 5))) (wLst (aVal (wVar 3) aNil))) (wSl2 (wVar 2) (some (wBin bK (wVar 5) (wC (.int 1)))) none))))
def fc:W Fl:=(wSeq (wIf (aN (wBin opEq (wVar 4) (wC (.int 2)))) cL bu)
  fb)
def ff:W Fl:=(wSeq (wIf (aN (wBin opEq (wVar 4) (wC (.int 1)))) cM bu)
  fc)
def cN:W Fl:=(wRet (wBin opIx (wLst (aVal (wFrz (aO sj (aVal (wVar 2) aNil))) (aVal (wFrz (wBin bK (wVar 2) (wLst (aVal (wTup (aVal (wC (.int 0)) (aVal (wC (.int 1)) aNil))) aNil)))) (aVal (wC .non) (aVal (GG 0) aNil))))) (a5 ay 0 0 (aVar 0 (aVal (wC (.int 4)) aNil)))))
def fg:W Fl:=(wSeq (wSet 5 (wFrz (a5 ay 0 0 (aVar 0 (aVal (wFrz (aO bL (aVal (wVar 2) aNil))) aNil)))))
  ff)
def fh:W Fl:=(wSeq (wIf (wOr (aN (wBin opEq (wVar 2) (wLst aNil))) (aN (wBin opEq (wVar 4) (wC (.int 0))))) cN bu)
  fg)
def fj:W Fl:=(wSeq (wSet 4 (wFrz (a5 ay 0 0 (aVar 0 (aVal (wC (.int 7)) aNil)))))
  fh)
def dJ:W Fl:=(wSeq (wSet 3 (wBin opIx (wLst (aVal (wC .non) (aVal (wC (.int 5)) (aVal (wC (.str "1")) (aVal (wTup (aVal (wC (.int 2)) (aVal (wC (.int 4)) aNil))) (aVal (wTup (aVal (wC (.int 1)) (aVal (wC (.int 0)) aNil))) (aVal (wFrz (wLst (aVal (wC (.int 1)) (aVal (wC (.int 1)) aNil)))) (aVal (wTup (aVal (wC (.bl true)) (aVal (wC (.int 1)) aNil))) (aVal (wTup (aVal (wUn zQ (wC (.int 1))) (aVal (wC (.int 3)) aNil))) aNil))))))))) (a5 ay 0 0 (aVar 0 (aVal (wC (.int 8)) aNil)))))
  fj)
section
variable{a:Addr}{ys:List D}{R:Ring}{N:Nat}{qs:List Rat}{k:Nat}{od:D}{w:Int}{post:Fl→Ev→Prop}
theorem RB.third(t:Int)(h:t.natAbs<10):RB 60 (Rat.divInt t 3):=RB.of_divInt (by decide) (Nat.lt_trans h (by decide)) (by decide)
theorem v9{N:Nat}{i j:Int}(hi:i.natAbs<2^60)(hj:j.natAbs<2^60)(h:∀n:Nat,0<n→j=(n:Int)→n∣N):EP N (.tup [.int i,.int j]):=by
 have w:∀d∈[D.int i,D.int j],WK 0 602 d:=fun d hd=>by
  simp only[List.mem_cons,List.not_mem_nil,or_false]at hd
  rcases hd with rfl|rfl
  ·
   exact WK.int hi
  ·
   exact WK.int hj
 refine⟨rfl,(WK.two w (by decide) (by show(602+2)*2+3≤1300;decide)).1,fun q e=>?_⟩
 have e2:j=(q.den:Int):=by
  unfold frD at e
  injection e with e
  injection e with _ e
  injection e with e
  injection e
 exact h _ (den_pos q) e2
theorem den3{N:Nat}(h:36∣N)(t:Int):(Rat.divInt t 3).den∣N:=Nat.dvd_trans (sY (t:=t) (b:=3) (by decide)) (Nat.dvd_trans (show 3∣36 by decide) h)
theorem C2(hR:R.Ok)(hN:NOk R N)(hq:∀p∈qs,RB 1640 p∧p.den∣N)(hl:qs.length≤20){x:D}(hx:EP N x):BP R (.lst ((qs.map frD).take k++[x]++(qs.map frD).drop (k+1))):=by
 have it:∀y∈qs.map frD,EP N y:=fun y hy=>by
  obtain⟨p,hp,rfl⟩:=List.mem_map.mp hy
  exact EP.fr ((hq p hp).1.mono (by decide)) (hq p hp).2
 refine BP.lst hR hN.n0 hN.up hN.ask (fun y hy=>?_) ?_
 ·
  rcases List.mem_append.mp hy with hy|hy
  ·
   rcases List.mem_append.mp hy with hy|hy
   ·
    exact it y (List.mem_of_mem_take hy)
   ·
    rw[List.mem_singleton.mp hy];exact hx
  ·
   exact it y (List.mem_of_mem_drop hy)
 ·
  simp only[List.length_append,List.length_take,List.length_drop,List.length_map,List.length_cons,List.length_nil]
  omega
theorem C3(hl:qs.length≤20):((qs.map frD).take k).length+1≤sizeLine∧∀x:D,((qs.map frD).take k++[x]).length+((qs.map frD).drop (k+1)).length≤sizeLine:=by
 refine⟨CC ?_,fun x=>CC ?_⟩
 ·
  simp only[List.length_take,List.length_map]
  omega
 ·
  simp only[List.length_append,List.length_take,List.length_drop,List.length_map,List.length_cons,List.length_nil]
  omega
theorem lb_4(hy:StOk ys)(hR:R.Ok)(hN:NOk R N)(hq:∀p∈qs,RB 1640 p∧p.den∣N)(hl:qs.length≤20)(fin:∀d ys ρ,StOk ys→BP R d→L.own a ys∈ρ→post (.rt (.d d)) ρ){x5:L} :
  cN [.own a ys,.d (aK R),.d (.lst (qs.map frD)),.d od,.d (.int w),x5] post:=by
 unfold cN
 walk_at "w"
 refine⟨by decide,by decide,fun _=>⟨CC (by omega),fun _=>⟨by decide,fun _=>⟨a,ys,4,rfl,hy,by decide,by decide,fun r us hu r0 r1=>⟨us,rfl,?_⟩⟩⟩⟩⟩
 walk_at "w"
 obtain⟨u,eu,hm⟩:=rM (xs:=[D.tup (List.map frD qs),D.lst (List.map frD qs++[D.tup [D.int 0,D.int 1]]),D.non,D.dct 0]) (i:=r) r0 r1
 refine⟨u,eu,fin u us _ hu ?_ (by simp)⟩
 have it:∀y∈qs.map frD,EP N y:=fun y hy=>by
  obtain⟨p,hp,rfl⟩:=List.mem_map.mp hy
  exact EP.fr ((hq p hp).1.mono (by decide)) (hq p hp).2
 simp only[List.mem_cons,List.not_mem_nil,or_false]at hm
 rcases hm with rfl|rfl|rfl|rfl
 ·
  exact BP.no (WK.two (n:=1) (s:=1300) (fun d hd=>(it d hd).wk) (by decide) (by rw[List.length_map];omega)).1 fun xs e=>by cases e
 ·
  refine BP.lst hR hN.n0 hN.up hN.ask (fun y hy=>?_) (by rw[List.length_append,List.length_map,List.length_singleton];omega)
  rcases List.mem_append.mp hy with hy|hy
  ·
   exact it y hy
  ·
   rw[List.mem_singleton.mp hy]
   exact v9 (by decide) (by decide) fun n _ e=>by
    have:n=1:=by omega
    subst this
    exact Nat.one_dvd _
 ·
  exact BP.no ⟨rfl,rfl,by decide,by decide⟩ fun xs e=>by cases e
 ·
  exact BP.no ⟨rfl,rfl,by decide,by decide⟩ fun xs e=>by cases e
theorem lb_3(hy:StOk ys)(hR:R.Ok)(hN:NOk R N)(hq:∀p∈qs,RB 1640 p∧p.den∣N)(hl:qs.length≤20)(ho:EP N od)(fin:∀d ys ρ,StOk ys→BP R d→L.own a ys∈ρ→post (.rt (.d d)) ρ) :
  cM [.own a ys,.d (aK R),.d (.lst (qs.map frD)),.d od,.d (.int w),.d (.int (k:Int))] post:=by
 unfold cM
 walk_at "w"
 obtain⟨z1,z2⟩:=C3 (k:=k) hl
 rw[show(k:Int)+1=((k+1:Nat):Int) by omega,xN,lV]
 exact fun _=>⟨by decide,fun _=>⟨z1,fun _ _=>⟨z2 _,fun _=>fin _ ys _ hy (C2 hR hN hq hl ho) (by simp)⟩⟩⟩
theorem lb_2(hy:StOk ys)(hR:R.Ok)(hN:NOk R N)(hq:∀p∈qs,RB 1640 p∧p.den∣N)(hl:qs.length≤20)(fin:∀d ys ρ,StOk ys→BP R d→L.own a ys∈ρ→post (.rt (.d d)) ρ) :
  cL [.own a ys,.d (aK R),.d (.lst (qs.map frD)),.d od,.d (.int w),.d (.int (k:Int))] post:=by
 unfold cL
 walk_at "w"
 intro _
 have e:=lV (qs.map frD) 1
 have e:cutD (qs.map frD) (some 1) none=(qs.map frD).drop 1:=e
 rw[e]
 refine fin _ ys _ hy (BP.lst hR hN.n0 hN.up hN.ask (fun y hy=>?_) (by rw[List.length_drop,List.length_map];omega)) (by simp)
 obtain⟨p,hp,rfl⟩:=List.mem_map.mp (List.mem_of_mem_drop hy)
 exact EP.fr ((hq p hp).1.mono (by decide)) (hq p hp).2
theorem lb_1(hy:StOk ys)(hR:R.Ok)(hN:NOk R N)(hq:∀p∈qs,RB 1640 p∧p.den∣N)(hl:qs.length≤20)(hk:k<qs.length)(fin:∀d ys ρ,StOk ys→BP R d→L.own a ys∈ρ→post (.rt (.d d)) ρ) :
  cK [.own a ys,.d (aK R),.d (.lst (qs.map frD)),.d od,.d (.int w),.d (.int (k:Int))] post:=by
 unfold cK
 walk_at "w"
 obtain⟨z1,z2⟩:=C3 (k:=k) hl
 obtain⟨p1,p2⟩:=hq _ (List.getElem_mem hk)
 intro _
 refine⟨_,bD hk,a,ys,5,rfl,hy,by decide,by decide,fun r us hu r0 r1=>⟨us,rfl,?_⟩⟩
 dsimp only
 refine⟨r-2,3,rfl,by decide,by decide,?_⟩
 dsimp only
 have t3:=RB.third (r-2) (by omega)
 refine⟨_,_,rfl,p1.mono (by decide),t3.mono (by decide),Nat.lt_of_lt_of_le (aP p1.2 t3.2) (Nat.pow_le_pow_right (by decide) (by decide)),?_⟩
 walk_at "w"
 rw[show(k:Int)+1=((k+1:Nat):Int) by omega,xN,lV]
 exact⟨by decide,fun _=>⟨z1,fun _ _=>⟨z2 _,fun _=>fin _ us _ hu (C2 hR hN hq hl (EP.fr ((p1.add t3).mono (by decide)) (xK hN.n0 p2 (den3 hN.d36 _)))) (by simp)⟩⟩⟩
theorem lb_0(hy:StOk ys)(hR:R.Ok)(hT:∀a∈R.asks,RB 60 a.size)(hN:NOk R N)(hq:∀p∈qs,RB 1640 p∧p.den∣N)(hl:qs.length≤20)(hk:k<R.asks.length)(fin:∀d ys ρ,StOk ys→BP R d→L.own a ys∈ρ→post (.rt (.d d)) ρ) :
  cJ [.own a ys,.d (aK R),.d (.lst (qs.map frD)),.d od,.d (.int w),.d (.int (k:Int))] post:=by
 unfold cJ
 walk_at "w"
 obtain⟨z1,z2⟩:=C3 (k:=k) hl
 have ha:=List.getElem_mem hk
 have p1:=hT _ ha
 intro _
 refine⟨by decide,_,bD hk,?_⟩
 walk_at "w"
 refine⟨by decide,_,Rat.divInt 1 3,rfl,p1.mono (by decide),(RB.third 1 (by decide)).mono (by decide),Nat.lt_of_lt_of_le (aP p1.2 (RB.third 1 (by decide)).2) (Nat.pow_le_pow_right (by decide) (by decide)),?_⟩
 walk_at "w"
 refine⟨by decide,fun _=>⟨a,ys,2,rfl,hy,by decide,by decide,fun r us hu r0 r1=>⟨us,rfl,?_⟩⟩⟩
 walk_at "w"
 obtain⟨u,eu,hm⟩:=rM (xs:=[D.tup [D.int (-1),D.int 3],frD (R.asks[k].size+Rat.divInt 1 3)]) (i:=r) r0 r1
 have hx:EP N u:=by
  simp only[List.mem_cons,List.not_mem_nil,or_false]at hm
  rcases hm with rfl|rfl
  ·
   exact v9 (by decide) (by decide) fun n _ e=>by
    have:n=3:=by omega
    subst this
    exact Nat.dvd_trans (show 3∣36 by decide) hN.d36
  ·
   exact EP.fr ((p1.add (RB.third 1 (by decide))).mono (by decide)) (xK hN.n0 (hN.ask _ ha) (den3 hN.d36 _))
 refine⟨u,eu,?_⟩
 rw[show(k:Int)+1=((k+1:Nat):Int) by omega,xN,lV]
 exact⟨by decide,fun _=>⟨z1,fun _ _=>⟨z2 _,fun _=>fin _ us _ hu (C2 hR hN hq hl hx) (by simp)⟩⟩⟩
end
theorem ly:∀ls post,ls.length=3→dh ls post→dJ (ls++List.replicate 3 .un) (aM ls post):=by
 rintro ls post - ⟨a,xs,R,N,rfl,hx,hR,hT,hN,h⟩
 have hq:=rN hR hN
 have few:=hR.few
 have sl:=ek R (gcut R).1
 have fin:∀d ys ρ,StOk ys→BP R d→L.own a ys∈ρ→aM [.own a xs,.d (aK R),.d (.lst ((bf R (gcut R).1).map frD))] post (.rt (.d d)) ρ:=fun d ys ρ hy hd hm=>⟨_,d9 hm (aj (aj aC)),h d ys hy hd⟩
 generalize bf R (gcut R).1=qs at *
 unfold dJ
 walk_at "w"
 refine⟨by decide,by decide,by decide,fun _=>⟨by decide,by decide,by decide,fun _=>⟨a,xs,8,rfl,hx,by decide,by decide,fun r us hu r0 r1=>⟨us,rfl,?_⟩⟩⟩⟩
 walk_at "w"
 obtain⟨od,eu,hm⟩:=rM (xs:=[D.non,D.int 5,D.str (Str.ofString "1"),D.tup [D.int 2,D.int 4],D.tup [D.int 1,D.int 0],D.lst [D.int 1,D.int 1],D.tup [D.bl true,D.int 1],D.tup [D.int (-1),D.int 3]]) (i:=r) r0 r1
 have ho:EP N od:=by
  simp only[List.mem_cons,List.not_mem_nil,or_false]at hm
  rcases hm with rfl|rfl|rfl|rfl|rfl|rfl|rfl|rfl
  ·
   exact⟨rfl,⟨rfl,rfl,by decide,by decide⟩,fun q e=>by cases e⟩
  ·
   exact⟨rfl,(WK.int (by decide)).mono (by decide) (by decide),fun q e=>by cases e⟩
  ·
   exact⟨by decide +kernel,⟨by decide +kernel,rfl,by decide,by decide +kernel⟩,fun q e=>by cases e⟩
  ·
   exact v9 (by decide) (by decide) fun n _ e=>by
    have:n=4:=by omega
    subst this
    exact Nat.dvd_trans (show 4∣36 by decide) hN.d36
  ·
   exact v9 (by decide) (by decide) fun n n0 e=>by omega
  ·
   exact⟨rfl,⟨rfl,by decide +kernel,by decide,by decide⟩,fun q e=>by cases e⟩
  ·
   exact⟨rfl,⟨rfl,by decide +kernel,by decide,by decide⟩,fun q e=>by cases e⟩
  ·
   exact v9 (by decide) (by decide) fun n _ e=>by
    have:n=3:=by omega
    subst this
    exact Nat.dvd_trans (show 3∣36 by decide) hN.d36
 refine⟨od,eu,?_⟩
 unfold fj
 walk_at "w"
 refine⟨a,us,7,rfl,hu,by decide,by decide,fun w vs hv w0 w1=>⟨vs,rfl,?_⟩⟩
 walk_at "w"
 unfold fh
 walk_at "w"
 have hl:qs.length≤20:=by omega
 refine⟨by decide,fun _=>⟨vm qs,vm [],?_⟩⟩
 rw[show eqD (.lst (qs.map frD)) (.lst [])=decide (qs=[])from GO qs []]
 by_cases c0:qs=[]
 ·
  rw[if_pos (decide_eq_true c0)]
  exact lb_4 hv hR hN hq hl fin
 rw[if_neg (by simpa using c0)]
 by_cases c1:w=0
 ·
  rw[if_pos c1]
  exact lb_4 hv hR hN hq hl fin
 rw[if_neg c1]
 have l0:0<qs.length:=List.length_pos_iff.mpr c0
 unfold fg
 walk_at "w"
 refine⟨a,vs,qs.length,rfl,hv,by omega,by omega,fun t ts ht t0 t1=>⟨ts,rfl,?_⟩⟩
 have hk:t.toNat<qs.length:=by omega
 rw[show t=((t.toNat:Nat):Int) by omega]
 walk_at "w"
 generalize t.toNat=k at hk
 unfold ff
 walk_at "w"
 by_cases c2:w=1
 ·
  rw[if_pos c2]
  exact lb_3 ht hR hN hq hl ho fin
 rw[if_neg c2]
 unfold fc
 walk_at "w"
 by_cases c3:w=2
 ·
  rw[if_pos c3]
  exact lb_2 ht hR hN hq hl fin
 rw[if_neg c3]
 unfold fb
 walk_at "w"
 by_cases c4:w=3
 ·
  rw[if_pos c4]
  exact lb_1 ht hR hN hq hl hk fin
 rw[if_neg c4]
 unfold e8
 walk_at "w"
 by_cases c5:w=4
 ·
  rw[if_pos c5]
  exact lb_0 ht hR hT hN hq hl (by omega) fin
 rw[if_neg c5]
 unfold eZ
 walk_at "w"
 refine⟨a,ts,R,rfl,ht,hR,hT,fun ps c us hu hp=>⟨us,rfl,?_⟩⟩
 walk_at "w"
 refine fin _ us _ hu (BP.lst hR hN.n0 hN.up hN.ask (fun y hy=>?_) (by rw[List.length_map,hp.len];omega)) (by simp)
 obtain⟨p,hpm,rfl⟩:=List.mem_map.mp hy
 obtain⟨j,hj,rfl⟩:=List.mem_iff_getElem.mp hpm
 have hj':j<R.asks.length:=by rw[← hp.len];exact hj
 refine EP.fr ((hp.rb _ hpm).mono (by decide)) ?_
 obtain⟨v,v0,v1,e⟩:=hp.tw j hj'
 rw[iF hj,xx hj']at e
 rw[e]
 exact Nat.dvd_trans (gF _ _) (Nat.dvd_trans (Nat.mul_dvd_mul (Nat.dvd_refl _) (sY (t:=v) (b:=12) (by decide))) (hN.da _ (List.getElem_mem hj')))
def ju:FS:=fun ls post=>∃(a:Addr)(xs:List D)(R:Ring)(N:Nat),ls=[.own a xs,.d (aK R),.d (.tup [frD (gcut R).1,.lst ((bf R (gcut R).1).map frD),cutP (gcut R).2])]∧StOk xs∧R.Ok∧(∀a∈R.asks,RB 60 a.size)∧NOk R N ∧
 ∀(d:D)(ys:List D),StOk ys→KOk R d→post (.d d) [.own a ys,.d (aK R),.d (.tup [frD (gcut R).1,.lst ((bf R (gcut R).1).map frD),cutP (gcut R).2])]
def mw:W Fl:=(wSet 4 (wFrz (a5 dh 0 0 (aVar 0 (aVal (wVar 1) (aVal (wVar 4) aNil))))))
def g9:W Fl:=(wRet (wTup (aVal (wVar 3) (aVal (wVar 4) (aVal (wVar 5) aNil)))))
def mx:W Fl:=(wRet (wTup (aVal (wVar 3) (aVal (wVar 5) (aVal (wVar 4) aNil)))))
def di:W Fl:=(wSeq (wIf (aN (wBin opGt (wVar 6) (wC (.int 4)))) mw bu)
  g9)
def hG:W Fl:=(wRet (wBin opIx (wLst (aVal (wC .non) (aVal (wFrz (wLst (aVal (wVar 3) (aVal (wVar 4) (aVal (wVar 5) aNil))))) (aVal (wTup (aVal (wVar 3) (aVal (wVar 4) aNil))) (aVal (wTup (aVal (wVar 3) (aVal (wVar 4) (aVal (wVar 5) (aVal (wVar 5) aNil))))) (aVal (wTup aNil) aNil)))))) (a5 ay 0 0 (aVar 0 (aVal (wC (.int 5)) aNil)))))
def dj:W Fl:=(wSeq (wIf (aN (wBin opEq (wVar 6) (wC (.int 4)))) mx bu)
  di)
def hJ:W Fl:=(wSet 5 (wBin opIx (wLst (aVal (wFrz (GM (wVar 5))) (aVal (wFrz (aO yN (aVal (wVar 5) aNil))) (aVal (wC .non) (aVal (wBin opIx (wVar 5) (wC (.int 0))) (aVal (wTup (aVal (wBin opIx (wVar 5) (wC (.int 0))) (aVal (wFrz (aO bL (aVal (wBin opIx (wVar 1) (wC (.int 0))) aNil))) aNil))) (aVal (wTup (aVal (wC (.bl true)) (aVal (wBin opIx (wVar 5) (wC (.int 1))) aNil))) aNil))))))) (a5 ay 0 0 (aVar 0 (aVal (wC (.int 6)) aNil)))))
def dk:W Fl:=(wSeq (wIf (aN (wBin opEq (wVar 6) (wC (.int 3)))) hG bu)
  dj)
def hU:W Fl:=(wSet 5 (wTup (aVal (wFrz (a5 ay 0 0 (aVar 0 (aVal (wFrz (aO bL (aVal (wBin opIx (wVar 1) (wC (.int 0))) aNil))) aNil)))) (aVal (wFrz (a5 ay 0 0 (aVar 0 (aVal (wFrz (aO bL (aVal (wBin opIx (wVar 1) (wC (.int 0))) aNil))) aNil)))) aNil))))
def eB:W Fl:=(wSeq (wIf (aN (wBin opEq (wVar 6) (wC (.int 2)))) hJ bu)
  dk)
def hW:W Fl:=(wSet 3 (wBin opIx (wLst (aVal (wFrz (aD bA (aVal (wVar 3) (aVal (wTup (aVal (wC (.int 1)) (aVal (wC (.int 7)) aNil))) aNil)))) (aVal (wTup (aVal (wC (.int 0)) (aVal (wC (.int 1)) aNil))) (aVal (wC .non) (aVal (wTup (aVal (wC (.int 2)) (aVal (wC (.int 2)) aNil))) (aVal (wC (.int 1)) aNil)))))) (a5 ay 0 0 (aVar 0 (aVal (wC (.int 5)) aNil)))))
def hX:W Fl:=(wSeq (wIf (aN (wBin opEq (wVar 6) (wC (.int 1)))) hU bu)
  eB)
def my:W Fl:=(wSeq (wIf (aN (wBin opEq (wVar 6) (wC (.int 0)))) hW bu)
  hX)
def mz:W Fl:=(wSeq (wSet 6 (wFrz (a5 ay 0 0 (aVar 0 (aVal (wC (.int 8)) aNil)))))
  my)
def lz:W Fl:=(wSeq (Bp [3,4,5] (wVar 2))
  mz)
section
variable{a:Addr}{ys:List D}{R:Ring}{td A B C:D}{w:Int}{post:Fl→Ev→Prop}
theorem wa(hA:WK 4 60000 A)(hB:BP R B)(hC:WK 4 60000 C):KOk R (.tup [A,B,C]):=by
 have hw:∀d∈[A,B,C],WK 4 60000 d:=fun d hd=>by
  simp only[List.mem_cons,List.not_mem_nil,or_false]at hd
  rcases hd with rfl|rfl|rfl
  ·
   exact hA
  ·
   exact hB.wk
  ·
   exact hC
 refine⟨(WK.two (m:=5) (t:=200000) hw (by decide) (by show(60000+2)*3+3≤200000;decide)).1.rep (by decide) (by decide),fun x y z e=>?_⟩
 cases e
 exact hB
theorem zE{ds:List D}(h:∀d∈ds,WK 4 60000 d)(hl:ds.length≤4):KOk R (.lst ds)∧(ds.length≠3→KOk R (.tup ds)):=by
 have:=WK.two (m:=5) (t:=300000) h (by decide) (by omega)
 refine⟨⟨this.2.rep (by decide) (by decide),fun x y z e=>by cases e⟩,fun hn=>⟨this.1.rep (by decide) (by decide),fun x y z e=>?_⟩⟩
 cases e
 exact absurd rfl hn
theorem qw{i j:Int}(hi:i.natAbs<2^60)(hj:j.natAbs<2^60):WK 1 1300 (.tup [.int i,.int j])∧WK 1 1300 (.lst [.int i,.int j]):=by
 have hw:∀d∈[D.int i,D.int j],WK 0 602 d:=fun d hd=>by
  simp only[List.mem_cons,List.not_mem_nil,or_false]at hd
  rcases hd with rfl|rfl
  ·
   exact WK.int hi
  ·
   exact WK.int hj
 exact WK.two hw (by decide) (by show(602+2)*2+3≤1300;decide)
theorem lc_5{q:Rat}(hy:StOk ys)(hq:RB 1750 q)(fin:∀d ys,StOk ys→WK 4 60000 d→post .nx [.own a ys,.d (aK R),.d td,.d d,.d B,.d C,.d (.int w)]) :
  hW [.own a ys,.d (aK R),.d td,.d (frD q),.d B,.d C,.d (.int w)] post:=by
 unfold hW
 walk_at "w"
 have h7:RB 60 (Rat.divInt 1 7):=RB.of_divInt (by decide) (by decide) (by decide)
 refine⟨by decide,q,Rat.divInt 1 7,rfl,hq.mono (by decide),h7.mono (by decide),Nat.lt_of_lt_of_le (aP hq.2 h7.2) (Nat.pow_le_pow_right (by decide) (by decide)),?_⟩
 walk_at "w"
 refine⟨by decide,by decide,by decide,fun _=>⟨a,ys,5,rfl,hy,by decide,by decide,fun r us hu r0 r1=>⟨us,rfl,?_⟩⟩⟩
 walk_at "w"
 obtain⟨u,eu,hm⟩:=rM (xs:=[frD (q+Rat.divInt 1 7),D.tup [D.int 0,D.int 1],D.non,D.tup [D.int 2,D.int 2],D.int 1]) (i:=r) r0 r1
 refine⟨u,eu,fin u us hu ?_⟩
 simp only[List.mem_cons,List.not_mem_nil,or_false]at hm
 rcases hm with rfl|rfl|rfl|rfl|rfl
 ·
  exact(WK.fr ((hq.add h7).mono (by decide))).mono (by decide) (by decide)
 ·
  exact(qw (by decide) (by decide)).1.mono (by decide) (by decide)
 ·
  exact⟨rfl,rfl,by decide,by decide⟩
 ·
  exact(qw (by decide) (by decide)).1.mono (by decide) (by decide)
 ·
  exact(WK.int (by decide)).mono (by decide) (by decide)
theorem lc_4(hy:StOk ys)(hR:R.Ok)(fin:∀d ys,StOk ys→WK 4 60000 d→post .nx [.own a ys,.d (aK R),.d td,.d A,.d B,.d d,.d (.int w)]) :
  hU [.own a ys,.d (aK R),.d td,.d A,.d B,.d C,.d (.int w)] post:=by
 have n1:=hR.lo
 have n2:=hR.hi
 have en:R.rooms.length=R.n:=rfl
 unfold hU
 walk_at "w"
 refine⟨a,ys,R.n,rfl,hy,by omega,by omega,fun r us hu r0 r1=>⟨us,rfl,?_⟩⟩
 walk_at "w"
 refine⟨a,us,R.n,rfl,hu,by omega,by omega,fun s vs hv s0 s1=>⟨vs,rfl,?_⟩⟩
 walk_at "w"
 exact⟨by decide,fin _ vs hv ((qw (Nat.lt_of_le_of_lt (show r.natAbs≤12 by omega) (by decide)) (Nat.lt_of_le_of_lt (show s.natAbs≤12 by omega) (by decide))).1.mono (by decide) (by decide))⟩
theorem lc_3{c:Nat×Nat}(hy:StOk ys)(hR:R.Ok)(hc:bP R.n c)(fin:∀d ys,StOk ys→WK 4 60000 d→post .nx [.own a ys,.d (aK R),.d td,.d A,.d B,.d d,.d (.int w)]) :
  hJ [.own a ys,.d (aK R),.d td,.d A,.d B,.d (cutP c),.d (.int w)] post:=by
 have n2:=hR.hi
 have en:R.rooms.length=R.n:=rfl
 have c1:=hc.1
 have c2:=hc.2
 have b1:((c.1:Int)).natAbs<2^60:=by rw[Int.natAbs_natCast];exact Nat.lt_of_le_of_lt (show c.1≤12 by omega) (by decide)
 have b2:((c.2:Int)).natAbs<2^60:=by rw[Int.natAbs_natCast];exact Nat.lt_of_le_of_lt (show c.2≤12 by omega) (by decide)
 have b3:((R.n:Int)).natAbs<2^60:=by rw[Int.natAbs_natCast];exact Nat.lt_of_le_of_lt (show R.n≤12 by omega) (by decide)
 unfold hJ GM
 unfold cutP
 walk_at "w"
 refine fun _=>⟨by decide,by decide,by decide,fun _=>⟨a,ys,6,rfl,hy,by decide,by decide,fun r us hu r0 r1=>⟨us,rfl,?_⟩⟩⟩
 walk_at "w"
 obtain⟨u,eu,hm⟩:=rM (xs:=[D.tup [D.int (c.1:Int),D.int (c.2:Int)].reverse,D.lst [D.int (c.1:Int),D.int (c.2:Int)],D.non,D.int (c.1:Int),D.tup [D.int (c.1:Int),D.int (R.n:Int)],D.tup [D.bl true,D.int (c.2:Int)]]) (i:=r) r0 r1
 refine⟨u,eu,fin u us hu ?_⟩
 simp only[List.mem_cons,List.not_mem_nil,or_false]at hm
 rcases hm with rfl|rfl|rfl|rfl|rfl|rfl
 ·
  exact(qw (i:=(c.2:Int)) (j:=(c.1:Int)) b2 b1).1.mono (by decide) (by decide)
 ·
  exact(qw b1 b2).2.mono (by decide) (by decide)
 ·
  exact⟨rfl,rfl,by decide,by decide⟩
 ·
  exact(WK.int b1).mono (by decide) (by decide)
 ·
  exact(qw b1 b3).1.mono (by decide) (by decide)
 ·
  have hw:∀d∈[D.bl true,D.int (c.2:Int)],WK 0 602 d:=fun d hd=>by
   simp only[List.mem_cons,List.not_mem_nil,or_false]at hd
   rcases hd with rfl|rfl
   ·
    exact⟨rfl,rfl,by decide,by decide⟩
   ·
    exact WK.int b2
  exact(WK.two (m:=4) (t:=60000) hw (by decide) (by show(602+2)*2+3≤60000;decide)).1
theorem lc_2(hy:StOk ys)(hA:WK 4 60000 A)(hB:WK 4 60000 B)(hC:WK 4 60000 C)(fin:∀d ys ρ,StOk ys→KOk R d→L.own a ys∈ρ→post (.rt (.d d)) ρ) :
  hG [.own a ys,.d (aK R),.d td,.d A,.d B,.d C,.d (.int w)] post:=by
 unfold hG
 walk_at "w"
 refine⟨by decide,fun _=>⟨by decide,by decide,by decide,by decide,fun _=>⟨a,ys,5,rfl,hy,by decide,by decide,fun r us hu r0 r1=>⟨us,rfl,?_⟩⟩⟩⟩
 walk_at "w"
 obtain⟨u,eu,hm⟩:=rM (xs:=[D.non,D.lst [A,B,C],D.tup [A,B],D.tup [A,B,C,C],D.tup []]) (i:=r) r0 r1
 refine⟨u,eu,fin u us _ hu ?_ (by simp)⟩
 simp only[List.mem_cons,List.not_mem_nil,or_false]at hm
 rcases hm with rfl|rfl|rfl|rfl|rfl
 ·
  exact⟨⟨rfl,rfl,by decide,by decide⟩,fun x y z e=>by cases e⟩
 ·
  exact(zE (ds:=[A,B,C]) (by simp[hA,hB,hC]) (by simp)).1
 ·
  exact(zE (ds:=[A,B]) (by simp[hA,hB]) (by simp)).2 (by simp)
 ·
  exact(zE (ds:=[A,B,C,C]) (by simp[hA,hB,hC]) (by simp)).2 (by simp)
 ·
  exact(zE (ds:=[]) (by simp) (by simp)).2 (by simp)
end
theorem uj:∀ls post,ls.length=3→ju ls post→lz (ls++List.replicate 4 .un) (aM ls post):=by
 rintro ls post - ⟨a,xs,R,N,rfl,hx,hR,hT,hN,h⟩
 have fin:∀d ys ρ,StOk ys→KOk R d→L.own a ys∈ρ→aM [.own a xs,.d (aK R),.d (.tup [frD (gcut R).1,.lst ((bf R (gcut R).1).map frD),cutP (gcut R).2])] post (.rt (.d d)) ρ:=fun d ys ρ hy hd hm=>⟨_,d9 hm (aj (aj aC)),h d ys hy hd⟩
 have few:=hR.few
 have hq:=(kD hR).mono (show 1667≤1750 by decide)
 obtain⟨hc,_⟩:=fH hR
 have n2:=hR.hi
 have hA:WK 4 60000 (frD (gcut R).1):=(WK.fr (hq.mono (by decide))).mono (by decide) (by decide)
 have hB:BP R (.lst ((bf R (gcut R).1).map frD)):=BP.lst hR hN.n0 hN.up hN.ask (fun y hy=>by
  obtain⟨p,hp,rfl⟩:=List.mem_map.mp hy
  obtain⟨h1,h2⟩:=rN hR hN p hp
  exact EP.fr (h1.mono (by decide)) h2) (by rw[List.length_map,ek];omega)
 have hC:WK 4 60000 (cutP (gcut R).2):=(qw (by rw[Int.natAbs_natCast];exact Nat.lt_of_le_of_lt (show(gcut R).2.1≤12 by have:=hc.1;have:=hc.2;omega) (by decide)) (by rw[Int.natAbs_natCast];exact Nat.lt_of_le_of_lt (show(gcut R).2.2≤12 by have:=hc.2;omega) (by decide))).1.mono (by decide) (by decide)
 have e7:∀(ts:List D)(A B C:D)(w:Int),StOk ts→WK 4 60000 A→BP R B→WK 4 60000 C→g9 [.own a ts,.d (aK R),.d (.tup [frD (gcut R).1,.lst ((bf R (gcut R).1).map frD),cutP (gcut R).2]),.d A,.d B,.d C,.d (.int w)] (aM [.own a xs,.d (aK R),.d (.tup [frD (gcut R).1,.lst ((bf R (gcut R).1).map frD),cutP (gcut R).2])] post):=by
  intro ts A B C w ht h1 h2 h3
  unfold g9
  walk_at "w"
  exact⟨by decide,fin _ ts _ ht (wa h1 h2 h3) (by simp)⟩
 unfold lz
 walk_at "w"
 unfold mz
 walk_at "w"
 refine⟨a,xs,8,rfl,hx,by decide,by decide,fun w vs hv w0 w1=>⟨vs,rfl,?_⟩⟩
 walk_at "w"
 unfold my
 walk_at "w"
 by_cases c0:w=0
 ·
  rw[if_pos c0]
  refine lc_5 hv hq fun d ts ht hd=>?_
  dsimp only
  subst c0
  unfold hX
  walk_at "w"
  unfold eB
  walk_at "w"
  unfold dk
  walk_at "w"
  unfold dj
  walk_at "w"
  unfold di
  walk_at "w"
  exact e7 ts _ _ _ _ ht hd hB hC
 rw[if_neg c0]
 unfold hX
 walk_at "w"
 by_cases c1:w=1
 ·
  rw[if_pos c1]
  refine lc_4 hv hR fun d ts ht hd=>?_
  dsimp only
  subst c1
  unfold eB
  walk_at "w"
  unfold dk
  walk_at "w"
  unfold dj
  walk_at "w"
  unfold di
  walk_at "w"
  exact e7 ts _ _ _ _ ht hA hB hd
 rw[if_neg c1]
 unfold eB
 walk_at "w"
 by_cases c2:w=2
 ·
  rw[if_pos c2]
  refine lc_3 hv hR hc fun d ts ht hd=>?_
  dsimp only
  subst c2
  unfold dk
  walk_at "w"
  unfold dj
  walk_at "w"
  unfold di
  walk_at "w"
  exact e7 ts _ _ _ _ ht hA hB hd
 rw[if_neg c2]
 unfold dk
 walk_at "w"
 by_cases c3:w=3
 ·
  rw[if_pos c3]
  exact lc_2 hv hA hB.wk hC fin
 rw[if_neg c3]
 unfold dj
 walk_at "w"
 by_cases c4:w=4
 ·
  rw[if_pos c4]
  unfold mx
  walk_at "w"
  exact⟨by decide,fin _ vs _ hv (wa hA (BP.no hC fun xs e=>by cases e) hB.wk) (by simp)⟩
 rw[if_neg c4]
 unfold di
 walk_at "w"
 rw[if_pos (by omega)]
 unfold mw
 walk_at "w"
 refine⟨a,vs,R,N,rfl,hv,hR,hT,hN,fun b ts ht hb=>⟨ts,rfl,?_⟩⟩
 walk_at "w"
 exact e7 ts _ _ _ _ ht hA hb hC
def fs_law:FS:=fun ls post=>∃ns:List Int,ls=[.d (.lst (ns.map .int))]∧ns.length≤63∧post (.d (.bl true)) ls
theorem C4{ns:List Int}(hl:ns.length≤63):fs_law [.d (.lst (ns.map .int))] (fun r _=>r=.d (.bl true)):=⟨ns,rfl,hl,rfl⟩
def C5:W Fl:=(wIf (wNot (aN (aD g7 (aVal (wVar 1) (aVal (wFrz (aD ju (aVal (aD cf (aVal (wVar 0) (aVal (wVar 4) aNil))) (aVal (wVar 1) (aVal (wVar 3) aNil))))) (aVal (wBin opIx (wVar 3) (wC (.int 0))) aNil)))))) (wRet (wC (.bl false))) bu)
def C6:W Fl:=(wRet (wBin DT (aO pk (aVal (wVar 1) aNil)) (wVar 2)))
def C7:W Fl:=(wSeq (wFor (Bh (wC (.int 3)) (aO DC (aVal (wC (.int 4)) (aVal (wFrz (aO zV (aVal (wFrz (aO bL (aVal (wVar 0) aNil))) (aVal (wC (.int 19)) aNil)))) aNil)))) (aY 4) C5)
  C6)
def C8:W Fl:=(wSeq (wIf (aN (wBin BN (aD ez (aVal (wVar 1) (aVal (wVar 3) aNil))) (wC (.bl true)))) (wRet (wC (.bl false))) bu)
  C7)
def C9:W Fl:=(wSeq (wSet 3 (wFrz (aD i5 (aVal (wVar 1) aNil))))
  C8)
def Da:W Fl:=(wSeq (wSet 2 (wFrz (aO pk (aVal (wVar 1) aNil))))
  C9)
def Ht:W Fl:=(wSeq (wSet 1 (wFrz (aD je (aVal (wVar 0) (aVal (wC (.int 0)) (aVal (wC (.int 6)) (aVal (wC (.int 6)) aNil)))))))
  Da)
theorem Jv{n:Nat}{a:Ask}(ha:jU n a)(hn:n≤12)(hz:NmOk a.nm)(hs:RB 60 a.size):WK 2 6000 (askD a):=by
 have h1:=ha.one
 have h2:=ha.other
 have hh:=hz.hi
 have e:∀d∈[D.str a.nm,D.int a.one,D.int a.other,frD a.size],WK 1 1300 d:=fun d hd=>by
  simp only[List.mem_cons,List.not_mem_nil,or_false]at hd
  rcases hd with rfl|rfl|rfl|rfl
  ·
   refine⟨ha.nm,rfl,Nat.zero_le _,?_⟩
   simp only[sgnD]
   have:a.nm.length=a.nm.cps.toList.length:=by rw[Array.length_toList];rfl
   omega
  ·
   exact(WK.int (by rw[Int.natAbs_natCast];exact Nat.lt_of_le_of_lt (show a.one≤12 by omega) (by decide))).mono (by decide) (by decide)
  ·
   exact(WK.int (by rw[Int.natAbs_natCast];exact Nat.lt_of_le_of_lt (show a.other≤12 by omega) (by decide))).mono (by decide) (by decide)
  ·
   exact WK.fr (hs.mono (by decide))
 exact(WK.two e (by decide) (by show(1300+2)*4+3≤6000;decide)).1
theorem EY{R:Ring}(hR:R.Ok)(hT:∀a∈R.asks,NmOk a.nm∧RB 60 a.size):RepW (aK R):=by
 have n2:R.rooms.length≤12:=hR.hi
 have few:=hR.few
 have w1:WK 3 130000 (.lst (R.rooms.map frD)):=(WK.two (n:=1) (s:=1300) (fun d hd=>by
  obtain⟨q,hq,rfl⟩:=List.mem_map.mp hd
  exact WK.fr ((hR.room q hq).2.mono (by decide))) (by decide) (by rw[List.length_map];omega)).2
 have w2:WK 3 130000 (.lst (R.asks.map askD)):=(WK.two (n:=2) (s:=6000) (fun d hd=>by
  obtain⟨a,ha,rfl⟩:=List.mem_map.mp hd
  exact Jv (hR.ask a ha) hR.hi (hT a ha).1 (hT a ha).2) (by decide) (by rw[List.length_map];omega)).2
 have w3:∀d∈[D.lst (R.rooms.map frD),D.lst (R.asks.map askD)],WK 3 130000 d:=fun d hd=>by
  simp only[List.mem_cons,List.not_mem_nil,or_false]at hd
  rcases hd with rfl|rfl
  ·
   exact w1
  ·
   exact w2
 exact(WK.two (m:=4) (t:=300000) w3 (by decide) (by show(130000+2)*2+3≤300000;decide)).1.rep (by decide) (by decide)
theorem AA{R:Ring}(hR:R.Ok):dS R (.tup [frD (gcut R).1,.lst ((bf R (gcut R).1).map frD),cutP (gcut R).2])=true:=by
 have hq:=(kD hR).mono (show 1667≤1750 by decide)
 obtain⟨hc,e,hs,_⟩:=fH hR
 rw[CB (ek R _) (Ai hR hq hs) hc,EC hR (Ah hR hq hs),decide_eq_true rfl,Bool.true_and]
 exact decide_eq_true e.symm
theorem Hu:∀ls post,ls.length=1→fs_law ls post→Ht (ls++List.replicate 4 .un) (aM ls post):=by
 rintro ls post - ⟨ns,rfl,hl,h⟩
 unfold Ht
 walk_at "w"
 refine⟨ns,0,6,6,rfl,by decide,by decide,by decide,by decide,fun R hD=>?_⟩
 have hR:=hD.ok
 have hT:=hD.tt
 have rr:=EY hR hD.nt
 obtain⟨N,hN⟩:=xO hR hT hD.few hD.hi
 walk_at "w"
 unfold Da
 walk_at "w"
 refine⟨_,rfl,rr,?_⟩
 walk_at "w"
 unfold C9
 walk_at "w"
 refine⟨R,rfl,hR,fun c=>?_⟩
 walk_at "w"
 unfold C8
 walk_at "w"
 have hq:=(kD hR).mono (show 1667≤1750 by decide)
 obtain⟨_,_,hs,_⟩:=fH hR
 refine⟨R,_,rfl,hR,fun x y z e=>?_,?_⟩
 ·
  cases e
  exact j5.of (LB.send hR hq hs)
 rw[AA hR]
 walk_at "w"
 unfold C7
 walk_at "w"
 have hm:∃m:Int,(if(if 19<(ns.length:Int)then 19 else(ns.length:Int)) > 4 then if 19<(ns.length:Int)then 19 else(ns.length:Int)else 4)=m∧4≤m∧m≤19:=⟨_,rfl,by split<;>(try split)<;>omega,by split<;>(try split)<;>omega⟩
 obtain⟨m,em,m2,m19⟩:=hm
 rw[em]
 refine⟨⟨by decide,by decide⟩,⟨by omega,by omega⟩,?_⟩
 refine y9 3 _ (fun j ρ=>∃x4,ρ=[.d (.lst (ns.map .int)),.d (aK R),.d (.str (IM (aK R))),.d (.tup [frD (gcut R).1,.lst ((bf R (gcut R).1).map frD),cutP (gcut R).2]),x4]) _ ⟨_,rfl⟩ ?_ ?_
 ·
  rintro j ρ hj ⟨x4,rfl⟩ Q g1 g2 g3 g4
  unfold C5
  walk_at "w"
  refine⟨ns,3+(j:Int),rfl,by omega,by omega,fun b xs hx=>?_⟩
  walk_at "w"
  refine⟨b,xs,R,N,rfl,hx,hR,hT,hN,fun d ys hy hd=>?_⟩
  walk_at "w"
  refine⟨R,d,rfl,hR,hd,?_⟩
  walk_at "w"
  exact g1 _ ⟨_,rfl⟩
 ·
  rintro ρ ⟨x4,rfl⟩
  unfold C6
  walk_at "w"
  refine⟨_,rfl,rr,?_⟩
  walk_at "w"
  rw[decide_eq_true True.intro]
  exact⟨_,aj aC,h⟩
structure Tx (K:PySem.W.Frag) (mg:Str→Option Value) (ad:Nat→Addr) (fd:Nat→FuncData):Prop where
 x_greatest_shared:FX K mg "greatest_shared" dB (ad 0) (fd 0) ["one","other"]
 x_least_common:FX K mg "least_common" fJ (ad 1) (fd 1) ["one","other"]
 x_is_whole:FX K mg "is_whole" mX (ad 2) (fd 2) ["thing"]
 x_are_two_wholes:FX K mg "are_two_wholes" d5 (ad 3) (fd 3) ["thing"]
 x_is_ratio:FX K mg "is_ratio" mY (ad 4) (fd 4) ["thing"]
 x_lowest:FX K mg "lowest" tO (ad 5) (fd 5) ["top","bottom"]
 x_ratio:FX K mg "ratio" xQ (ad 6) (fd 6) ["top","bottom"]
 x_plus:FX K mg "plus" CH (ad 7) (fd 7) ["one","other"]
 x_minus:FX K mg "minus" xR (ad 8) (fd 8) ["one","other"]
 x_times:FX K mg "times" xS (ad 9) (fd 9) ["one","other"]
 x_over:FX K mg "over" CI (ad 10) (fd 10) ["one","other"]
 x_under:FX K mg "under" xT (ad 11) (fd 11) ["one","other"]
 x_sum_of:FX K mg "sum_of" tP (ad 12) (fd 12) ["some"]
 x_is_cut:FX K mg "is_cut" tQ (ad 13) (fd 13) ["ring","thing"]
 x_is_within:FX K mg "is_within" kF (ad 14) (fd 14) ["cut","place"]
 x_parts_places:FX K mg "parts_places" fK (ad 15) (fd 15) ["cut","one","other"]
 x_across:FX K mg "across" oK (ad 16) (fd 16) ["ring","cut"]
 x_rooms_of:FX K mg "rooms_of" mZ (ad 17) (fd 17) ["ring","cut"]
 x_shown_by:FX K mg "shown_by" m4 (ad 18) (fd 18) ["ring","cut"]
 x_all_cuts:FX K mg "all_cuts" jJ (ad 19) (fd 19) ["ring"]
 x_greatest_cut:FX K mg "greatest_cut" fL (ad 20) (fd 20) ["ring"]
 x_ties_of:FX K mg "ties_of" iJ (ad 21) (fd 21) ["ring","k","way"]
 x_is_over:FX K mg "is_over" pO (ad 22) (fd 22) ["ring","k","way","tie"]
 x_sent_over:FX K mg "sent_over" kG (ad 23) (fd 23) ["ring","sending","k","tie"]
 x_load_of:FX K mg "load_of" lX (ad 24) (fd 24) ["ring","sending","tie"]
 x_loads_of:FX K mg "loads_of" jK (ad 25) (fd 25) ["ring","sending"]
 x_strains_of:FX K mg "strains_of" fu (ad 26) (fd 26) ["ring","sending"]
 x_top_of:FX K mg "top_of" tR (ad 27) (fd 27) ["ring","sending"]
 x_common_bottom:FX K mg "common_bottom" eQ (ad 28) (fd 28) ["some"]
 x_in_units:FX K mg "in_units" jL (ad 29) (fd 29) ["some","units"]
 x_weighed:FX K mg "weighed" iK (ad 30) (fd 30) ["ring","top"]
 x_still_across:FX K mg "still_across" dO (ad 31) (fd 31) ["ring","k","waiting","cut"]
 x_most_on:FX K mg "most_on" pR (ad 32) (fd 32) ["ring","k","waiting","free"]
 x_left_free:FX K mg "left_free" gI (ad 33) (fd 33) ["ring","k","free","part","rest"]
 x_sent_one_by_one:FX K mg "sent_one_by_one" dC (ad 34) (fd 34) ["ring","top"]
 x_first_wrong_part:FX K mg "first_wrong_part" c9 (ad 35) (fd 35) ["ring","some"]
 x_is_sending:FX K mg "is_sending" fv (ad 36) (fd 36) ["ring","thing"]
 x_least_top:FX K mg "least_top" kH (ad 37) (fd 37) ["ring"]
 x_has_top:FX K mg "has_top" pT (ad 38) (fd 38) ["ring","thing","top"]
 x_shows_top:FX K mg "shows_top" kI (ad 39) (fd 39) ["ring","thing","top"]
 x_lets_least:FX K mg "lets_least" iL (ad 40) (fd 40) ["ring","thing"]
 x__law_begun:FX K mg "_law_begun" iM (ad 41) (fd 41) ["_law_script","_law_k"]
 x__law_take:FX K mg "_law_take" kJ (ad 42) (fd 42) ["_law_state","_law_many"]
 x__law_names:FX K mg "_law_names" dU (ad 43) (fd 43) ["_law_state","_law_many"]
 x__law_low:FX K mg "_law_low" m6 (ad 44) (fd 44) ["_law_top_here","_law_bottom"]
 x__law_amount:FX K mg "_law_amount" gJ (ad 45) (fd 45) ["_law_state","_law_least","_law_kind"]
 x__law_rooms:FX K mg "_law_rooms" iO (ad 46) (fd 46) ["_law_state","_law_ties_here","_law_kind"]
 x__law_ends:FX K mg "_law_ends" kK (ad 47) (fd 47) ["_law_state","_law_shape","_law_places","_law_k"]
 x__law_ring:FX K mg "_law_ring" kM (ad 48) (fd 48) ["_law_script","_law_at","_law_most","_law_count"]
 x__law_whole:FX K mg "_law_whole" iP (ad 49) (fd 49) ["_law_thing"]
 x__law_ratio:FX K mg "_law_ratio" iQ (ad 50) (fd 50) ["_law_thing"]
 x__law_under:FX K mg "_law_under" iR (ad 51) (fd 51) ["_law_one","_law_other"]
 x__law_is_sending:FX K mg "_law_is_sending" b9 (ad 52) (fd 52) ["_law_ring_here","_law_thing"]
 x__law_ties:FX K mg "_law_ties" kN (ad 53) (fd 53) ["_law_ring_here","_law_k"]
 x__law_minus:FX K mg "_law_minus" iS (ad 54) (fd 54) ["_law_one","_law_other"]
 x__law_plus:FX K mg "_law_plus" kO (ad 55) (fd 55) ["_law_one","_law_other"]
 x__law_loads:FX K mg "_law_loads" fw (ad 56) (fd 56) ["_law_ring_here","_law_parts_here"]
 x__law_over:FX K mg "_law_over" kP (ad 57) (fd 57) ["_law_one","_law_other"]
 x__law_top:FX K mg "_law_top" m7 (ad 58) (fd 58) ["_law_ring_here","_law_parts_here"]
 x__law_apart:FX K mg "_law_apart" iT (ad 59) (fd 59) ["_law_cut","_law_one","_law_other"]
 x__law_across:FX K mg "_law_across" gK (ad 60) (fd 60) ["_law_ring_here","_law_cut"]
 x__law_shown:FX K mg "_law_shown" iU (ad 61) (fd 61) ["_law_ring_here","_law_cut"]
 x__law_due:FX K mg "_law_due" m8 (ad 62) (fd 62) ["_law_ring_here","_law_thing"]
 x__law_right:FX K mg "_law_right" iV (ad 63) (fd 63) ["_law_ring_here","_law_thing","_law_top_here"]
 x__law_parts:FX K mg "_law_parts" iW (ad 64) (fd 64) ["_law_state","_law_ring_here"]
 x__law_bent_parts:FX K mg "_law_bent_parts" dD (ad 65) (fd 65) ["_law_state","_law_ring_here","_law_parts_here"]
 x__law_bent:FX K mg "_law_bent" kQ (ad 66) (fd 66) ["_law_state","_law_ring_here","_law_told"]
 x_law:FX K mg "law" EU (ad 67) (fd 67) ["_law_script"]
 z_abs:mg "abs"=none
 z_all:mg "all"=none
 z_bool:mg "bool"=none
 z_enumerate:mg "enumerate"=none
 z_int:mg "int"=none
 z_isinstance:mg "isinstance"=none
 z_len:mg "len"=none
 z_list:mg "list"=none
 z_max:mg "max"=none
 z_min:mg "min"=none
 z_range:mg "range"=none
 z_repr:mg "repr"=none
 z_sorted:mg "sorted"=none
 z_sum:mg "sum"=none
 z_tuple:mg "tuple"=none
 z_zip:mg "zip"=none
 g_NOUGHT:Bs K mg "NOUGHT" (.tup [(.int 0),(.int 1)])
 g_ON:Bs K mg "ON" (.str "on")
section
variable{P:Program}{w:World}{K:PySem.W.Frag}{mg:Str→Option Value}{base:Heap}{ad:Nat→Addr}{fd:Nat→FuncData}
theorem bW:av mW ["one","other"] (ao dB):=⟨rfl,rfl,rfl,by decide +kernel,rfl,by decide +kernel,by decide +kernel⟩
theorem dm(T:Tx K mg ad fd):FnOk P w K mg base CX0 1 (ad 0) (fd 0) ["one","other"] (spF K 2 bz) :=
 aU (k:=0) T.x_greatest_shared.f bW dE (fun cdv A outer s H E hr=>(ai (oA PassesOwn.never (pbc (mM hr.units) (af 1) ag (aH _)) (ai (az (i:=2) bW.nd rfl (by walk_at "o") (ar cq (af 0) (af 1)))
  (ai (az (i:=0) bW.nd rfl (by walk_at "o") (af 1))
  (ak (az (i:=1) bW.nd rfl (by walk_at "o") (af 2))))))
  (ak (ax (aB Bk rfl T.z_abs (by decide +kernel) (ae (af 0) ah))))))
  kT
theorem qx:av qM ["one","other"] (ao fJ):=⟨rfl,rfl,rfl,by decide +kernel,rfl,by decide +kernel,by decide +kernel⟩
theorem qy(T:Tx K mg ad fd):FnOk P w K mg base CX0 2 (ad 1) (fd 1) ["one","other"] (spF K 2 eR) :=
 aU (k:=1) T.x_least_common.f qx fM (fun cdv A outer s H E hr=>(ak (ax (ar aR (ar jY (af 0) (aG (dm T) T.x_greatest_shared hr (ae (af 0) (ae (af 1) ah)))) (af 1)))))
  oj
theorem yo:av Al ["thing"] (ao mX):=⟨rfl,rfl,rfl,by decide +kernel,rfl,by decide +kernel,by decide +kernel⟩
theorem ia(T:Tx K mg ad fd):FnOk P w K mg base CX0 1 (ad 2) (fd 2) ["thing"] (spF K 1 dF) :=
 aU (k:=0) T.x_is_whole.f yo jM (fun cdv A outer s H E hr=>(ak (ax (fo (ik Br rfl T.z_isinstance rfl T.z_int (by decide +kernel) (af 0)) (ij (Bd (ik sy rfl T.z_isinstance rfl T.z_bool (by decide +kernel) (af 0))))))))
  vR
theorem nE:av oi ["thing"] (ao d5):=⟨rfl,rfl,rfl,by decide +kernel,rfl,by decide +kernel,by decide +kernel⟩
theorem gk(T:Tx K mg ad fd):FnOk P w K mg base CX0 2 (ad 3) (fd 3) ["thing"] (spF K 1 cb) :=
 aU (k:=1) T.x_are_two_wholes.f nE cC (fun cdv A outer s H E hr=>(ak (ax (fo (ik iC rfl T.z_isinstance rfl T.z_tuple (by decide +kernel) (af 0)) (fo (bU (cW hr.units) (aB br rfl T.z_len (by decide +kernel) (ae (af 0) ah)) ag (aH _)) (fo (aG (ia T) T.x_is_whole hr (ae (aq (af 0) ag (fun _ _=>rfl)) ah)) (ij (aG (ia T) T.x_is_whole hr (ae (aq (af 0) ag (fun _ _=>rfl)) ah)))))))))
  lZ
theorem yp:av Am ["thing"] (ao mY):=⟨rfl,rfl,rfl,by decide +kernel,rfl,by decide +kernel,by decide +kernel⟩
theorem qz(T:Tx K mg ad fd):FnOk P w K mg base CX0 3 (ad 4) (fd 4) ["thing"] (spF K 1 gL) :=
 aU (k:=2) T.x_is_ratio.f yp jN (fun cdv A outer s H E hr=>(ak (ax (fo (aG (gk T) T.x_are_two_wholes hr (ae (af 0) ah)) (fo (bU Gi (aq (af 0) ag (fun _ _=>rfl)) ag (aH _)) (ij (bU (cW hr.units) (aG (dm T) T.x_greatest_shared hr (ae (aq (af 0) ag (fun _ _=>rfl)) (ae (aq (af 0) ag (fun _ _=>rfl)) ah))) ag (aH _))))))))
  vS
theorem qC:av EO ["top","bottom"] (ao tO):=⟨rfl,rfl,rfl,by decide +kernel,rfl,by decide +kernel,by decide +kernel⟩
theorem jv(T:Tx K mg ad fd):FnOk P w K mg base CX0 2 (ad 5) (fd 5) ["top","bottom"] (spF K 2 eS) :=
 aU (k:=1) T.x_lowest.f qC tU (fun cdv A outer s H E hr=>(ai (az (i:=2) qC.nd rfl (by walk_at "o") (au (aG (dm T) T.x_greatest_shared hr (ae (af 0) (ae (af 1) ah)))))
  (ai (bG (pbc si (af 1) ag (aH _)) (ak (az (i:=2) qC.nd rfl (by walk_at "o") (yJ (af 2)))) aJ)
  (ak (ax (a9 (ae (ar jY (af 0) (af 2)) (ae (ar jY (af 1) (af 2)) ah))))))))
  As
theorem Fb:av Hl ["top","bottom"] (ao xQ):=⟨rfl,rfl,rfl,by decide +kernel,rfl,by decide +kernel,by decide +kernel⟩
theorem Fc(T:Tx K mg ad fd):FnOk P w K mg base CX0 3 (ad 6) (fd 6) ["top","bottom"] (spF K 2 tV) :=
 aU (k:=2) T.x_ratio.f Fb ye (fun cdv A outer s H E hr=>(ai (bG (PBw.pb (cy (cT (bq (aG (ia T) T.x_is_whole hr (ae (af 0) ah)))) (cy (cT (bq (aG (ia T) T.x_is_whole hr (ae (af 1) ah)))) (cS (pbc (cW hr.units) (af 1) ag (aH _)))))) (ak yK) aJ)
  (ak (ax (aG (jv T) T.x_lowest hr (ae (af 0) (ae (af 1) ah)))))))
  CN
theorem Hv:av Js ["one","other"] (ao CH):=⟨rfl,rfl,rfl,by decide +kernel,rfl,by decide +kernel,by decide +kernel⟩
theorem Dc(T:Tx K mg ad fd):FnOk P w K mg base CX0 3 (ad 7) (fd 7) ["one","other"] (spF K 2 pU) :=
 aU (k:=2) T.x_plus.f Hv CO (fun cdv A outer s H E hr=>(ak (ax (aG (jv T) T.x_lowest hr (ae (au (ar a6 (ar aR (aq (af 0) ag (fun _ _=>rfl)) (aq (af 1) ag (fun _ _=>rfl))) (ar aR (aq (af 1) ag (fun _ _=>rfl)) (aq (af 0) ag (fun _ _=>rfl))))) (ae (au (ar aR (aq (af 0) ag (fun _ _=>rfl)) (aq (af 1) ag (fun _ _=>rfl)))) ah))))))
  EV
theorem Fd:av Hm ["one","other"] (ao xR):=⟨rfl,rfl,rfl,by decide +kernel,rfl,by decide +kernel,by decide +kernel⟩
theorem Fe(T:Tx K mg ad fd):FnOk P w K mg base CX0 3 (ad 8) (fd 8) ["one","other"] (spF K 2 oM) :=
 aU (k:=2) T.x_minus.f Fd yf (fun cdv A outer s H E hr=>(ak (ax (aG (jv T) T.x_lowest hr (ae (ar cV (ar aR (aq (af 0) ag (fun _ _=>rfl)) (aq (af 1) ag (fun _ _=>rfl))) (ar aR (aq (af 1) ag (fun _ _=>rfl)) (aq (af 0) ag (fun _ _=>rfl)))) (ae (au (ar aR (aq (af 0) ag (fun _ _=>rfl)) (aq (af 1) ag (fun _ _=>rfl)))) ah))))))
  CP
theorem Ff:av Hn ["one","other"] (ao xS):=⟨rfl,rfl,rfl,by decide +kernel,rfl,by decide +kernel,by decide +kernel⟩
theorem Fg(T:Tx K mg ad fd):FnOk P w K mg base CX0 3 (ad 9) (fd 9) ["one","other"] (spF K 2 tX) :=
 aU (k:=2) T.x_times.f Ff yg (fun cdv A outer s H E hr=>(ak (ax (aG (jv T) T.x_lowest hr (ae (au (ar aR (aq (af 0) ag (fun _ _=>rfl)) (aq (af 1) ag (fun _ _=>rfl)))) (ae (au (ar aR (aq (af 0) ag (fun _ _=>rfl)) (aq (af 1) ag (fun _ _=>rfl)))) ah))))))
  CS
theorem Hw:av Jt ["one","other"] (ao CI):=⟨rfl,rfl,rfl,by decide +kernel,rfl,by decide +kernel,by decide +kernel⟩
theorem Dd(T:Tx K mg ad fd):FnOk P w K mg base CX0 3 (ad 10) (fd 10) ["one","other"] (spF K 2 tY) :=
 aU (k:=2) T.x_over.f Hw CT (fun cdv A outer s H E hr=>(ai (bG (pbc (cW hr.units) (aq (af 1) ag (fun _ _=>rfl)) ag (aH _)) (ak yK) aJ)
  (ak (ax (aG (jv T) T.x_lowest hr (ae (au (ar aR (aq (af 0) ag (fun _ _=>rfl)) (aq (af 1) ag (fun _ _=>rfl)))) (ae (au (ar aR (aq (af 0) ag (fun _ _=>rfl)) (aq (af 1) ag (fun _ _=>rfl)))) ah)))))))
  EX
theorem Fh:av Ho ["one","other"] (ao xT):=⟨rfl,rfl,rfl,by decide +kernel,rfl,by decide +kernel,by decide +kernel⟩
theorem oN(T:Tx K mg ad fd):FnOk P w K mg base CX0 1 (ad 11) (fd 11) ["one","other"] (spF K 2 jO) :=
 aU (k:=0) T.x_under.f Fh yh (fun cdv A outer s H E hr=>(ak (ax (bU si (ar aR (aq (af 0) ag (fun _ _=>rfl)) (aq (af 1) ag (fun _ _=>rfl))) (ar aR (aq (af 1) ag (fun _ _=>rfl)) (aq (af 0) ag (fun _ _=>rfl))) (aH _)))))
  CU
theorem mB:av ER ["some"] (ao tP):=⟨rfl,rfl,rfl,by decide +kernel,rfl,by decide +kernel,by decide +kernel⟩
theorem wb(T:Tx K mg ad fd):FnOk P w K mg base CX0 4 (ad 12) (fd 12) ["some"] (spF K 1 l3) :=
 aU (k:=3) T.x_sum_of.f mB tZ (fun cdv A outer s H E hr=>(ai (az (i:=1) mB.nd rfl (by walk_at "o") (pl_G T.g_NOUGHT rfl))
  (ai (du PassesOwn.never rfl (cU (af 0)) (dY (i:=2) mB.nd rfl (by walk_at "o")) (ak (az (i:=1) mB.nd rfl (by walk_at "o") (aG (Dc T) T.x_plus hr (ae (af 1) (ae (af 2) ah))))))
  (ak (ax (dA 1))))))
  Au
theorem De:av ES ["ring","thing"] (ao tQ):=⟨rfl,rfl,rfl,by decide +kernel,rfl,by decide +kernel,by decide +kernel⟩
theorem Df(T:Tx K mg ad fd):FnOk P w K mg base CX0 3 (ad 13) (fd 13) ["ring","thing"] (spF K 2 pW) :=
 aU (k:=2) T.x_is_cut.f De t5 (fun cdv A outer s H E hr=>(ak (ax (fo (aG (gk T) T.x_are_two_wholes hr (ae (af 1) ah)) (ij (BK ag (vd.cons Gh (aq (af 1) ag (fun _ _=>rfl)) (vd.cons Gh (aq (af 1) ag (fun _ _=>rfl)) (vd.one si (aB br rfl T.z_len (by decide +kernel) (ae (aq (af 0) ag (fun _ _=>rfl)) ah)))))))))))
  Av
theorem wc:av xU ["cut","place"] (ao kF):=⟨rfl,rfl,rfl,by decide +kernel,rfl,by decide +kernel,by decide +kernel⟩
theorem n5(T:Tx K mg ad fd):FnOk P w K mg base CX0 1 (ad 14) (fd 14) ["cut","place"] (spF K 2 fz) :=
 aU (k:=0) T.x_is_within.f wc kU (fun cdv A outer s H E hr=>(ak (ax (sE Gs Bz (aq (af 0) ag (fun _ _=>rfl)) (af 1) (aq (af 0) ag (fun _ _=>rfl))))))
  t6
theorem qD:av qN ["cut","one","other"] (ao fK):=⟨rfl,rfl,rfl,by decide +kernel,rfl,by decide +kernel,by decide +kernel⟩
theorem jw(T:Tx K mg ad fd):FnOk P w K mg base CX0 2 (ad 15) (fd 15) ["cut","one","other"] (spF K 3 dc) :=
 aU (k:=1) T.x_parts_places.f qD fN (fun cdv A outer s H E hr=>(ak (ax (bU (mM hr.units) (aG (n5 T) T.x_is_within hr (ae (af 0) (ae (af 1) ah))) (aG (n5 T) T.x_is_within hr (ae (af 0) (ae (af 2) ah))) (aH _)))))
  om
theorem Dg:av zD ["ring","cut"] (ao oK):=⟨rfl,rfl,rfl,by decide +kernel,rfl,by decide +kernel,by decide +kernel⟩
theorem Dh(T:Tx K mg ad fd):FnOk P w K mg base CX0 5 (ad 16) (fd 16) ["ring","cut"] (spF K 2 pX) :=
 aU (k:=4) T.x_across.f Dg t7 (fun cdv A outer s H E hr=>(ak (ax (aG (wb T) T.x_sum_of hr (ae (au (cY (sc:=(ao oK)) (N:=zD) (Nt:=["ask"]) (Nf:=["cut"]) (fi:=[1]) rfl rfl rfl (cU (aq (af 0) ag (fun _ _=>rfl))) rfl (by decide +kernel) (by decide +kernel) (by decide +kernel) (by decide) rfl (by decide +kernel) (by decide) (fun _ _ _ _=>(cG (by decide) (show((["ask"]:List Str)++(["cut"]:List Str)).Nodup by decide +kernel) rfl (Or.inl rfl))) (fun _ _ _ _=>(wW (bq (aG (jw T) T.x_parts_places hr (ae (af 1) (ae (aq (af 0) ag (fun _ _=>rfl)) (ae (aq (af 0) ag (fun _ _=>rfl)) ah))))))) (fun _ _ _ _=>(aq (af 0) ag (fun _ _=>rfl))))) ah)))))
  Aw
theorem yq:av An ["ring","cut"] (ao mZ):=⟨rfl,rfl,rfl,by decide +kernel,rfl,by decide +kernel,by decide +kernel⟩
theorem yr(T:Tx K mg ad fd):FnOk P w K mg base CX0 4 (ad 17) (fd 17) ["ring","cut"] (spF K 2 kW) :=
 aU (k:=3) T.x_rooms_of.f yq nc (fun cdv A outer s H E hr=>(ak (ax (aG (Dc T) T.x_plus hr (ae (aq (aq (af 0) ag (fun _ _=>rfl)) (aq (af 1) ag (fun _ _=>rfl)) (fun _ _=>rfl)) (ae (aq (aq (af 0) ag (fun _ _=>rfl)) (aq (af 1) ag (fun _ _=>rfl)) (fun _ _=>rfl)) ah))))))
  vT
theorem yt:av Ao ["ring","cut"] (ao m4):=⟨rfl,rfl,rfl,by decide +kernel,rfl,by decide +kernel,by decide +kernel⟩
theorem qE(T:Tx K mg ad fd):FnOk P w K mg base CX0 6 (ad 18) (fd 18) ["ring","cut"] (spF K 2 gM) :=
 aU (k:=5) T.x_shown_by.f yt ng (fun cdv A outer s H E hr=>(ak (ax (aG (Dd T) T.x_over hr (ae (au (aG (Dh T) T.x_across hr (ae (af 0) (ae (af 1) ah)))) (ae (au (aG (yr T) T.x_rooms_of hr (ae (af 0) (ae (af 1) ah)))) ah))))))
  vU
theorem lA:av rO ["ring"] (ao jJ):=⟨rfl,rfl,rfl,by decide +kernel,rfl,by decide +kernel,by decide +kernel⟩
theorem yu(T:Tx K mg ad fd):FnOk P w K mg base CX0 1 (ad 19) (fd 19) ["ring"] (spF K 1 kX) :=
 aU (k:=0) T.x_all_cuts.f lA nh (fun cdv A outer s H E hr=>(ai (az (i:=1) lA.nd rfl (by walk_at "o") (bJ ah))
  (ai (du PassesOwn.never rfl (cB rfl T.z_range (aB br rfl T.z_len (by decide +kernel) (ae (aq (af 0) ag (fun _ _=>rfl)) ah))) (dY (i:=2) lA.nd rfl (by walk_at "o")) (ak (mK (BE 1 (cY (sc:=(ao jJ)) (N:=rO) (Nt:=["h"]) (Nf:=["g"]) (fi:=[2]) rfl rfl rfl (sf rfl T.z_range (af 2) (aB br rfl T.z_len (by decide +kernel) (ae (aq (af 0) ag (fun _ _=>rfl)) ah))) rfl (by decide +kernel) (by decide +kernel) (by decide +kernel) (by decide) rfl (by decide +kernel) (by decide) (fun _ _ _ _=>(cG (by decide) (show((["h"]:List Str)++(["g"]:List Str)).Nodup by decide +kernel) rfl (Or.inl rfl))) (fun _ _ _ _=>cX) (fun _ _ _ _=>(a9 (ae (af 1) (ae (af 0) ah)))))))))
  (ak (ax (dA 1))))))
  vV
theorem b7:av qO ["ring"] (ao fL):=⟨rfl,rfl,rfl,by decide +kernel,rfl,by decide +kernel,by decide +kernel⟩
theorem qF(T:Tx K mg ad fd):FnOk P w K mg base CX0 7 (ad 20) (fd 20) ["ring"] (spF K 1 eU) :=
 aU (k:=6) T.x_greatest_cut.f b7 fO (fun cdv A outer s H E hr=>(ai (az (i:=1) b7.nd rfl (by walk_at "o") lD)
  (ai (du PassesOwn.never rfl (cU (aG (yu T) T.x_all_cuts hr (ae (af 0) ah))) (dY (i:=2) b7.nd rfl (by walk_at "o")) (ai (az (i:=3) b7.nd rfl (by walk_at "o") (au (aG (qE T) T.x_shown_by hr (ae (af 0) (ae (af 2) ah)))))
  (ak (bG (PBw.pb (cy (pbc Bu (af 1) lD (aH _)) (cS (bq (aG (oN T) T.x_under hr (ae (aq (af 1) ag (fun _ _=>rfl)) (ae (af 3) ah))))))) (ak (az (i:=1) b7.nd rfl (by walk_at "o") (a9 (ae (af 3) (ae (af 2) ah))))) aJ))))
  (ak (ax (dA 1))))))
  oo
theorem jQ:av pN ["ring","k","way"] (ao iJ):=⟨rfl,rfl,rfl,by decide +kernel,rfl,by decide +kernel,by decide +kernel⟩
theorem AB(T:Tx K mg ad fd):FnOk P w K mg base CX0 1 (ad 21) (fd 21) ["ring","k","way"] (spF K 3 nj) :=
 aU (k:=0) T.x_ties_of.f jQ p9 (fun cdv A outer s H E hr=>(ai (az (i:=3) jQ.nd rfl (by walk_at "o") (au (aB br rfl T.z_len (by decide +kernel) (ae (aq (af 0) ag (fun _ _=>rfl)) ah))))
  (ai (az (i:=4) jQ.nd rfl (by walk_at "o") (aq (aq (aq (af 0) ag (fun _ _=>rfl)) (af 1) (fun _ _=>rfl)) ag (fun _ _=>rfl)))
  (ai (az (i:=5) jQ.nd rfl (by walk_at "o") (aq (aq (aq (af 0) ag (fun _ _=>rfl)) (af 1) (fun _ _=>rfl)) ag (fun _ _=>rfl)))
  (ai (bG (pbc (cW hr.units) (af 2) (pl_G T.g_ON rfl) (aH _)) (ak (ax (cY (sc:=(ao iJ)) (N:=pN) (Nt:=["step"]) (Nf:=["one","places"]) (fi:=[4,3]) rfl rfl rfl (cB rfl T.z_range (ar cq (ar cV (af 5) (af 4)) (af 3))) rfl (by decide +kernel) (by decide +kernel) (by decide +kernel) (by decide) rfl (by decide +kernel) (by decide) (fun _ _ _ _=>(cG (by decide) (show((["step"]:List Str)++(["one","places"]:List Str)).Nodup by decide +kernel) rfl (Or.inl rfl))) (fun _ _ _ _=>cX) (fun _ _ _ _=>(ar cq (ar a6 (af 1) (af 0)) (af 2)))))) aJ)
  (ak (ax (cY (sc:=(ao iJ)) (N:=pN) (Nt:=["step"]) (Nf:=["one","places"]) (fi:=[4,3]) rfl rfl rfl (cB rfl T.z_range (ar cq (ar cV (af 4) (af 5)) (af 3))) rfl (by decide +kernel) (by decide +kernel) (by decide +kernel) (by decide) rfl (by decide +kernel) (by decide) (fun _ _ _ _=>(cG (by decide) (show((["step"]:List Str)++(["one","places"]:List Str)).Nodup by decide +kernel) rfl (Or.inl rfl))) (fun _ _ _ _=>cX) (fun _ _ _ _=>(ar cq (ar cV (ar cV (af 1) ag) (af 0)) (af 2)))))))))))
  yi
theorem gm:av CJ ["ring","k","way","tie"] (ao pO):=⟨rfl,rfl,rfl,by decide +kernel,rfl,by decide +kernel,by decide +kernel⟩
theorem rT(T:Tx K mg ad fd):FnOk P w K mg base CX0 1 (ad 22) (fd 22) ["ring","k","way","tie"] (spF K 4 jP) :=
 aU (k:=0) T.x_is_over.f gm qf (fun cdv A outer s H E hr=>(ai (az (i:=4) gm.nd rfl (by walk_at "o") (au (aB br rfl T.z_len (by decide +kernel) (ae (aq (af 0) ag (fun _ _=>rfl)) ah))))
  (ai (az (i:=5) gm.nd rfl (by walk_at "o") (aq (aq (aq (af 0) ag (fun _ _=>rfl)) (af 1) (fun _ _=>rfl)) ag (fun _ _=>rfl)))
  (ai (az (i:=6) gm.nd rfl (by walk_at "o") (aq (aq (aq (af 0) ag (fun _ _=>rfl)) (af 1) (fun _ _=>rfl)) ag (fun _ _=>rfl)))
  (ai (az (i:=7) gm.nd rfl (by walk_at "o") (bU si (ar cq (ar cV (af 3) (af 5)) (af 4)) (ar cq (ar cV (af 6) (af 5)) (af 4)) (aH _)))
  (ak (ax (bU (cW hr.units) (af 7) (bU (cW hr.units) (af 2) (pl_G T.g_ON rfl) (aH _)) (aH _)))))))))
  yj
theorem wd:av xV ["ring","sending","k","tie"] (ao kG):=⟨rfl,rfl,rfl,by decide +kernel,rfl,by decide +kernel,by decide +kernel⟩
theorem we(T:Tx K mg ad fd):FnOk P w K mg base CX0 4 (ad 23) (fd 23) ["ring","sending","k","tie"] (spF K 4 iY) :=
 aU (k:=3) T.x_sent_over.f wd kY (fun cdv A outer s H E hr=>(ai (bG (bq (aG (rT T) T.x_is_over hr (ae (af 0) (ae (af 2) (ae (pl_G T.g_ON rfl) (ae (af 3) ah)))))) (ak (ax (aq (af 1) (af 2) (fun _ _=>rfl)))) aJ)
  (ak (ax (aG (Fe T) T.x_minus hr (ae (aq (aq (aq (af 0) ag (fun _ _=>rfl)) (af 2) (fun _ _=>rfl)) ag (fun _ _=>rfl)) (ae (aq (af 1) (af 2) (fun _ _=>rfl)) ah)))))))
  t8
theorem AC:av vF ["ring","sending","tie"] (ao lX):=⟨rfl,rfl,rfl,by decide +kernel,rfl,by decide +kernel,by decide +kernel⟩
theorem AD(T:Tx K mg ad fd):FnOk P w K mg base CX0 5 (ad 24) (fd 24) ["ring","sending","tie"] (spF K 3 nk) :=
 aU (k:=4) T.x_load_of.f AC qh (fun cdv A outer s H E hr=>(ak (ax (aG (wb T) T.x_sum_of hr (ae (au (cY (sc:=(ao lX)) (N:=vF) (Nt:=["k"]) (Nf:=["ring","sending","tie"]) (fi:=[0,1,2]) rfl rfl rfl (cB rfl T.z_range (aB br rfl T.z_len (by decide +kernel) (ae (aq (af 0) ag (fun _ _=>rfl)) ah))) rfl (by decide +kernel) (by decide +kernel) (by decide +kernel) (by decide) rfl (by decide +kernel) (by decide) (fun _ _ _ _=>(cG (by decide) (show((["k"]:List Str)++(["ring","sending","tie"]:List Str)).Nodup by decide +kernel) rfl (Or.inl rfl))) (fun _ _ _ _=>cX) (fun _ _ _ _=>(aG (we T) T.x_sent_over hr (ae (af 1) (ae (af 2) (ae (af 0) (ae (af 3) ah)))))))) ah)))))
  yk
theorem yv:av rP ["ring","sending"] (ao jK):=⟨rfl,rfl,rfl,by decide +kernel,rfl,by decide +kernel,by decide +kernel⟩
theorem yw(T:Tx K mg ad fd):FnOk P w K mg base CX0 6 (ad 25) (fd 25) ["ring","sending"] (spF K 2 kZ) :=
 aU (k:=5) T.x_loads_of.f yv nq (fun cdv A outer s H E hr=>(ak (ax (cY (sc:=(ao jK)) (N:=rP) (Nt:=["tie"]) (Nf:=["ring","sending"]) (fi:=[0,1]) rfl rfl rfl (cB rfl T.z_range (aB br rfl T.z_len (by decide +kernel) (ae (aq (af 0) ag (fun _ _=>rfl)) ah))) rfl (by decide +kernel) (by decide +kernel) (by decide +kernel) (by decide) rfl (by decide +kernel) (by decide) (fun _ _ _ _=>(cG (by decide) (show((["tie"]:List Str)++(["ring","sending"]:List Str)).Nodup by decide +kernel) rfl (Or.inl rfl))) (fun _ _ _ _=>cX) (fun _ _ _ _=>(aG (AD T) T.x_load_of hr (ae (af 1) (ae (af 2) (ae (af 0) ah)))))))))
  vW
theorem uk:av nQ ["ring","sending"] (ao fu):=⟨rfl,rfl,rfl,by decide +kernel,rfl,by decide +kernel,by decide +kernel⟩
theorem um(T:Tx K mg ad fd):FnOk P w K mg base CX0 7 (ad 26) (fd 26) ["ring","sending"] (spF K 2 gN) :=
 aU (k:=6) T.x_strains_of.f uk iZ (fun cdv A outer s H E hr=>(ak (ax (cY (sc:=(ao fu)) (N:=nQ) (Nt:=["load","room"]) (Nf:=[]) (fi:=[]) rfl rfl rfl (BC rfl T.z_zip (aG (yw T) T.x_loads_of hr (ae (af 0) (ae (af 1) ah))) (aq (af 0) ag (fun _ _=>rfl))) rfl (by decide +kernel) (by decide +kernel) (by decide +kernel) (by decide) rfl (by decide +kernel) (by decide) (fun _ _ _ _=>(Fv rfl (oD (i:=0) (by decide) (show((["load","room"]:List Str)++([]:List Str)).Nodup by decide +kernel) rfl (Or.inl rfl) (oD (i:=1) (by decide) (show((["load","room"]:List Str)++([]:List Str)).Nodup by decide +kernel) rfl (Or.inl rfl) BD)))) (fun _ _ _ _=>cX) (fun _ _ _ _=>(aG (Dd T) T.x_over hr (ae (af 0) (ae (af 1) ah))))))))
  qP
theorem gn:av ET ["ring","sending"] (ao tR):=⟨rfl,rfl,rfl,by decide +kernel,rfl,by decide +kernel,by decide +kernel⟩
theorem Di(T:Tx K mg ad fd):FnOk P w K mg base CX0 8 (ad 27) (fd 27) ["ring","sending"] (spF K 2 qj) :=
 aU (k:=7) T.x_top_of.f gn t9 (fun cdv A outer s H E hr=>(ai (az (i:=2) gn.nd rfl (by walk_at "o") (au (aG (um T) T.x_strains_of hr (ae (af 0) (ae (af 1) ah)))))
  (ai (az (i:=3) gn.nd rfl (by walk_at "o") ag)
  (ai (du PassesOwn.never rfl (oC rfl T.z_enumerate (af 2)) (lF rfl (aW (i:=4) gn.nd rfl (by walk_at "o") (aW (i:=5) gn.nd rfl (by walk_at "o") gv))) (ak (bG (bq (aG (oN T) T.x_under hr (ae (aq (af 2) (af 3) (fun _ _=>rfl)) (ae (af 5) ah)))) (ak (az (i:=3) gn.nd rfl (by walk_at "o") (af 4))) aJ)))
  (ak (ax (a9 (ae (aq (af 2) (af 3) (fun _ _=>rfl)) (ae (af 3) ah)))))))))
  Ay
theorem cD:av pP ["some"] (ao eQ):=⟨rfl,rfl,rfl,by decide +kernel,rfl,by decide +kernel,by decide +kernel⟩
theorem oy(T:Tx K mg ad fd):FnOk P w K mg base CX0 3 (ad 28) (fd 28) ["some"] (spF K 1 d6) :=
 aU (k:=2) T.x_common_bottom.f cD eV (fun cdv A outer s H E hr=>(ai (az (i:=1) cD.nd rfl (by walk_at "o") ag)
  (ai (du PassesOwn.never rfl (cU (af 0)) (dY (i:=2) cD.nd rfl (by walk_at "o")) (ak (az (i:=1) cD.nd rfl (by walk_at "o") (aG (qy T) T.x_least_common hr (ae (af 1) (ae (aq (af 2) ag (fun _ _=>rfl)) ah))))))
  (ak (ax (dA 1))))))
  nr
theorem yx:av rQ ["some","units"] (ao jL):=⟨rfl,rfl,rfl,by decide +kernel,rfl,by decide +kernel,by decide +kernel⟩
theorem qG(T:Tx K mg ad fd):FnOk P w K mg base CX0 1 (ad 29) (fd 29) ["some","units"] (spF K 2 gO) :=
 aU (k:=0) T.x_in_units.f yx nu (fun cdv A outer s H E hr=>(ak (ax (cY (sc:=(ao jL)) (N:=rQ) (Nt:=["one"]) (Nf:=["units"]) (fi:=[1]) rfl rfl rfl (cU (af 0)) rfl (by decide +kernel) (by decide +kernel) (by decide +kernel) (by decide) rfl (by decide +kernel) (by decide) (fun _ _ _ _=>(cG (by decide) (show((["one"]:List Str)++(["units"]:List Str)).Nodup by decide +kernel) rfl (Or.inl rfl))) (fun _ _ _ _=>cX) (fun _ _ _ _=>(ar aR (aq (af 0) ag (fun _ _=>rfl)) (ar jY (af 1) (aq (af 0) ag (fun _ _=>rfl)))))))))
  vX
theorem jR:av pQ ["ring","top"] (ao iK):=⟨rfl,rfl,rfl,by decide +kernel,rfl,by decide +kernel,by decide +kernel⟩
theorem AE(T:Tx K mg ad fd):FnOk P w K mg base CX0 4 (ad 30) (fd 30) ["ring","top"] (spF K 2 nv) :=
 aU (k:=3) T.x_weighed.f jR qm (fun cdv A outer s H E hr=>(ai (wX jR.nd (j:=2) rfl (by walk_at "o") (sc:=(ao iK)) (N:=pQ) (Nt:=["ask"]) (Nf:=[]) (fi:=[]) rfl rfl rfl (cU (aq (af 0) ag (fun _ _=>rfl))) rfl (by decide +kernel) (by decide +kernel) (by decide +kernel) (by decide) rfl (by decide +kernel) (by decide) (fun _ _ _ _=>(cG (by decide) (show((["ask"]:List Str)++([]:List Str)).Nodup by decide +kernel) rfl (Or.inl rfl))) (fun _ _ _ _=>cX) (fun _ _ _ _=>(aq (af 0) ag (fun _ _=>rfl))))
  (ai (wX jR.nd (j:=3) rfl (by walk_at "o") (sc:=(ao iK)) (N:=pQ) (Nt:=["room"]) (Nf:=["top"]) (fi:=[1]) rfl rfl rfl (cU (aq (af 0) ag (fun _ _=>rfl))) rfl (by decide +kernel) (by decide +kernel) (by decide +kernel) (by decide) rfl (by decide +kernel) (by decide) (fun _ _ _ _=>(cG (by decide) (show((["room"]:List Str)++(["top"]:List Str)).Nodup by decide +kernel) rfl (Or.inl rfl))) (fun _ _ _ _=>cX) (fun _ _ _ _=>(aG (Fg T) T.x_times hr (ae (af 1) (ae (af 0) ah)))))
  (ai (az (i:=4) jR.nd rfl (by walk_at "o") (au (ar aR ag (aG (oy T) T.x_common_bottom hr (ae (au (ar a6 (af 2) (af 3))) ah)))))
  (ak (ax (a9 (ae (af 4) (ae (au (aG (qG T) T.x_in_units hr (ae (af 2) (ae (af 4) ah)))) (ae (au (aG (qG T) T.x_in_units hr (ae (af 3) (ae (af 4) ah)))) ah))))))))))
  yl
theorem jx:av j6 ["ring","k","waiting","cut"] (ao dO):=⟨rfl,rfl,rfl,by decide +kernel,rfl,by decide +kernel,by decide +kernel⟩
theorem qH(T:Tx K mg ad fd):FnOk P w K mg base CX0 3 (ad 31) (fd 31) ["ring","k","waiting","cut"] (spF K 4 eW) :=
 aU (k:=2) T.x_still_across.f jx fP (fun cdv A outer s H E hr=>(ai (az (i:=4) jx.nd rfl (by walk_at "o") (aq (af 0) ag (fun _ _=>rfl)))
  (ak (ax (aB (IJ rfl) rfl T.z_sum (by decide +kernel) (ae (au (cY (sc:=(ao dO)) (N:=j6) (Nt:=["j"]) (Nf:=["waiting","cut","asks"]) (fi:=[2,3,4]) rfl rfl rfl (sf rfl T.z_range (ar a6 (af 1) ag) (aB br rfl T.z_len (by decide +kernel) (ae (af 4) ah))) rfl (by decide +kernel) (by decide +kernel) (by decide +kernel) (by decide) rfl (by decide +kernel) (by decide) (fun _ _ _ _=>(cG (by decide) (show((["j"]:List Str)++(["waiting","cut","asks"]:List Str)).Nodup by decide +kernel) rfl (Or.inl rfl))) (fun _ _ _ _=>(wW (bq (aG (jw T) T.x_parts_places hr (ae (af 2) (ae (aq (aq (af 3) (af 0) (fun _ _=>rfl)) ag (fun _ _=>rfl)) (ae (aq (aq (af 3) (af 0) (fun _ _=>rfl)) ag (fun _ _=>rfl)) ah))))))) (fun _ _ _ _=>(aq (af 1) (af 0) (fun _ _=>rfl))))) ah))))))
  ou
theorem eF:av CK ["ring","k","waiting","free"] (ao pR):=⟨rfl,rfl,rfl,by decide +kernel,rfl,by decide +kernel,by decide +kernel⟩
theorem AF(T:Tx K mg ad fd):FnOk P w K mg base CX0 4 (ad 32) (fd 32) ["ring","k","waiting","free"] (spF K 4 ny) :=
 aU (k:=3) T.x_most_on.f eF qq (fun cdv A outer s H E hr=>(ai (az (i:=4) eF.nd rfl (by walk_at "o") (au (aB BJ rfl T.z_sorted (by decide +kernel) (ae (au (aG (AB T) T.x_ties_of hr (ae (af 0) (ae (af 1) (ae (pl_G T.g_ON rfl) ah))))) ah))))
  (ai (az (i:=5) eF.nd rfl (by walk_at "o") (au (ar aR ag (aq (af 2) (af 1) (fun _ _=>rfl)))))
  (ai (du PassesOwn.never rfl (cU (af 4)) (dY (i:=6) eF.nd rfl (by walk_at "o")) (ak (du PassesOwn.never rfl (cU (af 4)) (dY (i:=7) eF.nd rfl (by walk_at "o")) (ak (bG (pbc Gh (af 6) (af 7) (aH _)) (ak (az (i:=5) eF.nd rfl (by walk_at "o") (au (aB (Bl rfl) rfl T.z_min (by decide +kernel) (ae (af 5) (ae (ar cV (ar a6 (aq (af 3) (af 6) (fun _ _=>rfl)) (aq (af 3) (af 7) (fun _ _=>rfl))) (aG (qH T) T.x_still_across hr (ae (af 0) (ae (af 1) (ae (af 2) (ae (a9 (ae (af 6) (ae (af 7) ah))) ah)))))) ah)))))) aJ)))))
  (ak (ax (ar jY (af 5) ag)))))))
  ym
theorem wg:av pS ["ring","k","free","part","rest"] (ao gI):=⟨rfl,rfl,rfl,by decide +kernel,rfl,by decide +kernel,by decide +kernel⟩
theorem wj(T:Tx K mg ad fd):FnOk P w K mg base CX0 2 (ad 33) (fd 33) ["ring","k","free","part","rest"] (spF K 5 i4) :=
 aU (k:=1) T.x_left_free.f wg k6 (fun cdv A outer s H E hr=>(ak (ax (cY (sc:=(ao gI)) (N:=pS) (Nt:=["tie","room"]) (Nf:=["ring","k","part","rest"]) (fi:=[0,1,3,4]) rfl rfl rfl (oC rfl T.z_enumerate (af 2)) rfl (by decide +kernel) (by decide +kernel) (by decide +kernel) (by decide) rfl (by decide +kernel) (by decide) (fun _ _ _ _=>(Fv rfl (oD (i:=0) (by decide) (show((["tie","room"]:List Str)++(["ring","k","part","rest"]:List Str)).Nodup by decide +kernel) rfl (Or.inl rfl) (oD (i:=1) (by decide) (show((["tie","room"]:List Str)++(["ring","k","part","rest"]:List Str)).Nodup by decide +kernel) rfl (Or.inl rfl) BD)))) (fun _ _ _ _=>cX) (fun _ _ _ _=>(ar cV (af 1) (Il (bq (aG (rT T) T.x_is_over hr (ae (af 2) (ae (af 3) (ae (pl_G T.g_ON rfl) (ae (af 0) ah)))))) (af 4) (af 5))))))))
  ua
theorem aQ:av m5 ["ring","top"] (ao dC):=⟨rfl,rfl,rfl,by decide +kernel,rfl,by decide +kernel,by decide +kernel⟩
theorem mC(T:Tx K mg ad fd):FnOk P w K mg base CX0 5 (ad 34) (fd 34) ["ring","top"] (spF K 2 de) :=
 aU (k:=4) T.x_sent_one_by_one.f aQ dG (fun cdv A outer s H E hr=>by exact(@ai _ _ _ _ _ (@az _ _ _ 2 _ _ _ aQ.nd rfl (by walk_at "o") (@au _ _ _ (aG (AE T) T.x_weighed hr (@ae _ _ _ _ _ _ (af 0) (@ae _ _ _ _ _ _ (af 1) ah (by kernel_rfl)) (by kernel_rfl)))) (by kernel_rfl) (by first | exact .inl rfl | exact .inr rfl)) (@ai _ _ _ _ _ (@az _ _ _ 3 _ _ _ aQ.nd rfl (by walk_at "o") (@aq _ _ _ _ _ _ (af 2) ag (fun _ _=>rfl)) (by kernel_rfl) (by first | exact .inl rfl | exact .inr rfl)) (@ai _ _ _ _ _ (@az _ _ _ 4 _ _ _ aQ.nd rfl (by walk_at "o") (@aq _ _ _ _ _ _ (af 2) ag (fun _ _=>rfl)) (by kernel_rfl) (by first | exact .inl rfl | exact .inr rfl)) (@ai _ _ _ _ _ (@az _ _ _ 5 _ _ _ aQ.nd rfl (by walk_at "o") (@bJ _ _ _ _ _ ah) (by kernel_rfl) (by first | exact .inl rfl | exact .inr rfl)) (@ai _ _ _ _ _ (du PassesOwn.never rfl (oC rfl T.z_enumerate (af 3)) (lF rfl (aW (i:=6) aQ.nd rfl (by walk_at "o") (aW (i:=7) aQ.nd rfl (by walk_at "o") gv))) (@ai _ _ _ _ _ (@az _ _ _ 8 _ _ _ aQ.nd rfl (by walk_at "o") (@au _ _ _ (aG (AF T) T.x_most_on hr (@ae _ _ _ _ _ _ (af 0) (@ae _ _ _ _ _ _ (af 6) (@ae _ _ _ _ _ _ (af 3) (@ae _ _ _ _ _ _ (af 4) ah (by kernel_rfl)) (by kernel_rfl)) (by kernel_rfl)) (by kernel_rfl)))) (by kernel_rfl) (by first | exact .inl rfl | exact .inr rfl)) (@ai _ _ _ _ _ (@az _ _ _ 4 _ _ _ aQ.nd rfl (by walk_at "o") (@au _ _ _ (aG (wj T) T.x_left_free hr (@ae _ _ _ _ _ _ (af 0) (@ae _ _ _ _ _ _ (af 6) (@ae _ _ _ _ _ _ (af 4) (@ae _ _ _ _ _ _ (af 8) (@ae _ _ _ _ _ _ (@ar _ _ _ _ _ _ _ _ cV (af 7) (af 8)) ah (by kernel_rfl)) (by kernel_rfl)) (by kernel_rfl)) (by kernel_rfl)) (by kernel_rfl)))) (by kernel_rfl) (by first | exact .inl rfl | exact .inr rfl)) (@ak _ _ _ (mK (iB 5 (aG (Fc T) T.x_ratio hr (@ae _ _ _ _ _ _ (af 8) (@ae _ _ _ _ _ _ (@aq _ _ _ _ _ _ (af 2) ag (fun _ _=>rfl)) ah (by kernel_rfl)) (by kernel_rfl))))))))) (@ak _ _ _ (@ax _ _ _ _ (dA 5)))))))))
  k7
theorem cO:av lY ["ring","some"] (ao c9):=⟨rfl,rfl,rfl,by decide +kernel,rfl,by decide +kernel,by decide +kernel⟩
theorem lB(T:Tx K mg ad fd):FnOk P w K mg base CX0 2 (ad 35) (fd 35) ["ring","some"] (spF K 2 cI) :=
 aU (k:=1) T.x_first_wrong_part.f cO df (fun cdv A outer s H E hr=>(ai (du PassesOwn.never rfl (oC rfl T.z_enumerate (af 1)) (lF rfl (aW (i:=2) cO.nd rfl (by walk_at "o") (aW (i:=3) cO.nd rfl (by walk_at "o") gv))) (ak (bG (PBw.pb (cy (bq (aG (oN T) T.x_under hr (ae (af 3) (ae (pl_G T.g_NOUGHT rfl) ah)))) (cS (bq (aG (oN T) T.x_under hr (ae (aq (aq (aq (af 0) ag (fun _ _=>rfl)) (af 2) (fun _ _=>rfl)) ag (fun _ _=>rfl)) (ae (af 3) ah))))))) (ak (ax (dA 2))) aJ)))
  (ak (ax lD))))
  jW
theorem uo:av nR ["ring","thing"] (ao fv):=⟨rfl,rfl,rfl,by decide +kernel,rfl,by decide +kernel,by decide +kernel⟩
theorem uq(T:Tx K mg ad fd):FnOk P w K mg base CX0 4 (ad 36) (fd 36) ["ring","thing"] (spF K 2 gQ) :=
 aU (k:=3) T.x_is_sending.f uo fA (fun cdv A outer s H E hr=>(ai (bG (PBw.pb (cy (cT (bq (ik yR rfl T.z_isinstance rfl T.z_list (by decide +kernel) (af 1)))) (cS (pbc (mM hr.units) (aB br rfl T.z_len (by decide +kernel) (ae (af 1) ah)) (aB br rfl T.z_len (by decide +kernel) (ae (aq (af 0) ag (fun _ _=>rfl)) ah)) (aH _))))) (ak (ax iy)) aJ)
  (ak (ax (fo (aB (IL rfl) rfl T.z_all (by decide +kernel) (ae (au (cY (sc:=(ao fv)) (N:=nR) (Nt:=["part"]) (Nf:=[]) (fi:=[]) rfl rfl rfl (cU (af 1)) rfl (by decide +kernel) (by decide +kernel) (by decide +kernel) (by decide) rfl (by decide +kernel) (by decide) (fun _ _ _ _=>(cG (by decide) (show((["part"]:List Str)++([]:List Str)).Nodup by decide +kernel) rfl (Or.inl rfl))) (fun _ _ _ _=>cX) (fun _ _ _ _=>(aG (qz T) T.x_is_ratio hr (ae (af 0) ah))))) ah)) (ij (bU Bu (aG (lB T) T.x_first_wrong_part hr (ae (af 0) (ae (af 1) ah))) lD (aH _))))))))
  qQ
theorem n8:av xW ["ring"] (ao kH):=⟨rfl,rfl,rfl,by decide +kernel,rfl,by decide +kernel,by decide +kernel⟩
theorem wm(T:Tx K mg ad fd):FnOk P w K mg base CX0 8 (ad 37) (fd 37) ["ring"] (spF K 1 i5) :=
 aU (k:=7) T.x_least_top.f n8 k8 (fun cdv A outer s H E hr=>(ai (az (i:=1) n8.nd rfl (by walk_at "o") (au (aG (qF T) T.x_greatest_cut hr (ae (af 0) ah))))
  (ak (ax (GF (ae (aq (af 1) ag (fun _ _=>rfl)) (ae (aG (mC T) T.x_sent_one_by_one hr (ae (af 0) (ae (aq (af 1) ag (fun _ _=>rfl)) ah))) (ae (aq (af 1) ag (fun _ _=>rfl)) ah))))))))
  ub
theorem AG:av CL ["ring","thing","top"] (ao pT):=⟨rfl,rfl,rfl,by decide +kernel,rfl,by decide +kernel,by decide +kernel⟩
theorem AH(T:Tx K mg ad fd):FnOk P w K mg base CX0 9 (ad 38) (fd 38) ["ring","thing","top"] (spF K 3 nA) :=
 aU (k:=8) T.x_has_top.f AG qr (fun cdv A outer s H E hr=>(ak (ax (fo (aG (uq T) T.x_is_sending hr (ae (af 0) (ae (af 1) ah))) (ij (bU (cW hr.units) (aq (aG (Di T) T.x_top_of hr (ae (af 0) (ae (af 1) ah))) ag (fun _ _=>rfl)) (af 2) (aH _)))))))
  yn
theorem wo:av xX ["ring","thing","top"] (ao kI):=⟨rfl,rfl,rfl,by decide +kernel,rfl,by decide +kernel,by decide +kernel⟩
theorem wq(T:Tx K mg ad fd):FnOk P w K mg base CX0 7 (ad 39) (fd 39) ["ring","thing","top"] (spF K 3 i6) :=
 aU (k:=6) T.x_shows_top.f wo k9 (fun cdv A outer s H E hr=>(ak (ax (fo (aG (Df T) T.x_is_cut hr (ae (af 0) (ae (af 1) ah))) (ij (bU (cW hr.units) (aG (qE T) T.x_shown_by hr (ae (af 0) (ae (af 1) ah))) (af 2) (aH _)))))))
  uc
theorem ur:av vG ["ring","thing"] (ao iL):=⟨rfl,rfl,rfl,by decide +kernel,rfl,by decide +kernel,by decide +kernel⟩
theorem mD(T:Tx K mg ad fd):FnOk P w K mg base CX0 10 (ad 40) (fd 40) ["ring","thing"] (spF K 2 ez) :=
 aU (k:=9) T.x_lets_least.f ur dW (fun cdv A outer s H E hr=>(ai (bG (PBw.pb (cy (cT (bq (ik iC rfl T.z_isinstance rfl T.z_tuple (by decide +kernel) (af 1)))) (cy (pbc (mM hr.units) (aB br rfl T.z_len (by decide +kernel) (ae (af 1) ah)) ag (aH _)) (cS (cT (bq (aG (qz T) T.x_is_ratio hr (ae (aq (af 1) ag (fun _ _=>rfl)) ah)))))))) (ak (ax iy)) aJ)
  (ak (ax (fo (aG (AH T) T.x_has_top hr (ae (af 0) (ae (aq (af 1) ag (fun _ _=>rfl)) (ae (aq (af 1) ag (fun _ _=>rfl)) ah)))) (ij (aG (wq T) T.x_shows_top hr (ae (af 0) (ae (aq (af 1) ag (fun _ _=>rfl)) (ae (aq (af 1) ag (fun _ _=>rfl)) ah))))))))))
  qR
theorem ib:av vH ["_law_script","_law_k"] (ao iM):=⟨rfl,rfl,rfl,by decide +kernel,rfl,by decide +kernel,by decide +kernel⟩
theorem eD(T:Tx K mg ad fd):FnOk P w K mg base CX0 1 (ad 41) (fd 41) ["_law_script","_law_k"] (spF K 2 cf) :=
 aU (k:=0) T.x__law_begun.f ib i7 (fun cdv A outer s H E hr=>(ai (az (i:=2) ib.nd rfl (by walk_at "o") ag)
  (ai (bG (pbc si (af 1) (aB br rfl T.z_len (by decide +kernel) (ae (af 0) ah)) (aH _)) (ak (az (i:=2) ib.nd rfl (by walk_at "o") (aq (af 0) (af 1) (fun _ _=>rfl)))) aJ)
  (ak (ax (bJ (ae (af 2) (ae (ar cq (ar a6 (ar a6 (ar cq (af 2) ag) (ar aR (ar aR ag (af 1)) (af 1))) ag) ag) (ae (bU Gi (af 2) (ar Bj ag ag) (aH _)) ah)))))))))
  qS
theorem dX:av xY ["_law_state","_law_many"] (ao kJ):=⟨rfl,rfl,rfl,by decide +kernel,rfl,by decide +kernel,by decide +kernel⟩
theorem aA(T:Tx K mg ad fd):FnOk P w K mg base CX0 1 (ad 42) (fd 42) ["_law_state","_law_many"] (spF K 2 ay) :=
 aU (k:=0) T.x__law_take.f dX la (fun cdv A outer s H E hr=>(ai (bG (bq (jZ (nJ 0 ag (fun _ _=>rfl)) (aq (af 0) ag (fun _ _=>rfl)))) (ai (az (i:=2) dX.nd rfl (by walk_at "o") (ar cq (jZ (nJ 0 ag (fun _ _=>rfl)) (aq (af 0) ag (fun _ _=>rfl))) (af 1)))
  (ai (sk 0 ag (ar jY (jZ (nJ 0 ag (fun _ _=>rfl)) (aq (af 0) ag (fun _ _=>rfl))) (af 1)))
  (ai (sk 0 ag (bU DB (jZ (nJ 0 ag (fun _ _=>rfl)) (aq (af 0) ag (fun _ _=>rfl))) ag (aH _)))
  (ak (ax (dA 2)))))) aJ)
  (ai (az (i:=3) dX.nd rfl (by walk_at "o") ag)
  (ai (du PassesOwn.never rfl (cB rfl T.z_range (ar a6 ag (ar aR ag (iA Bm rfl T.z_int (by decide +kernel) (ae (bU DB (af 1) (ar Bj ag ag) (aH _)) ah))))) (dY (i:=4) dX.nd rfl (by walk_at "o")) (ai (sk 0 ag (ar cq (ar a6 (ar aR (jZ (nJ 0 ag (fun _ _=>rfl)) (aq (af 0) ag (fun _ _=>rfl))) ag) ag) ag))
  (ak (az (i:=3) dX.nd rfl (by walk_at "o") (au (ar a6 (ar aR (af 3) ag) (ar cq (ar aR (jZ (nJ 0 ag (fun _ _=>rfl)) (aq (af 0) ag (fun _ _=>rfl))) (jZ (nJ 0 ag (fun _ _=>rfl)) (aq (af 0) ag (fun _ _=>rfl)))) ag)))))))
  (ak (ax (ar cq (ar jY (af 3) ag) (af 1))))))))
  ud
theorem dn:av iN ["_law_state","_law_many"] (ao dU):=⟨rfl,rfl,rfl,by decide +kernel,rfl,by decide +kernel,by decide +kernel⟩
theorem uu(T:Tx K mg ad fd):FnOk P w K mg base CX0 2 (ad 43) (fd 43) ["_law_state","_law_many"] (spF K 2 gS) :=
 aU (k:=1) T.x__law_names.f dn i8 (fun cdv A outer s H E hr=>(ai (az (i:=2) dn.nd rfl (by walk_at "o") Fp)
  (ai (az (i:=3) dn.nd rfl (by walk_at "o") (au (Gw (cY (sc:=(ao dU)) (N:=iN) (Nt:=["_law_k"]) (Nf:=["_law_letters","_law_state"]) (fi:=[2,0]) rfl rfl rfl (cB rfl T.z_range (ar a6 ag (bc (aA T) T.x__law_take hr 0 0 (aS 0 (ae ag ah))))) rfl (by decide +kernel) (by decide +kernel) (by decide +kernel) (by decide) rfl (by decide +kernel) (by decide) (fun _ _ _ _=>(cG (by decide) (show((["_law_k"]:List Str)++(["_law_letters","_law_state"]:List Str)).Nodup by decide +kernel) rfl (Or.inl rfl))) (fun _ _ _ _=>cX) (fun _ _ _ _=>(aq (af 1) (bc (aA T) T.x__law_take hr 0 2 (aS 2 (ae ag ah))) (fun _ _=>rfl)))))))
  (ai (az (i:=4) dn.nd rfl (by walk_at "o") (au (bc (aA T) T.x__law_take hr 0 0 (aS 0 (ae (au (aB br rfl T.z_len (by decide +kernel) (ae (af 3) ah))) ah)))))
  (ai (az (i:=5) dn.nd rfl (by walk_at "o") (au (bc (aA T) T.x__law_take hr 0 0 (aS 0 (ae ag ah)))))
  (ak (ax (cY (sc:=(ao dU)) (N:=iN) (Nt:=["_law_k"]) (Nf:=["_law_base","_law_at","_law_letters","_law_turn"]) (fi:=[3,4,2,5]) rfl rfl rfl (cB rfl T.z_range (af 1)) rfl (by decide +kernel) (by decide +kernel) (by decide +kernel) (by decide) rfl (by decide +kernel) (by decide) (fun _ _ _ _=>(cG (by decide) (show((["_law_k"]:List Str)++(["_law_base","_law_at","_law_letters","_law_turn"]:List Str)).Nodup by decide +kernel) rfl (Or.inl rfl))) (fun _ _ _ _=>cX) (fun _ _ _ _=>(ar a6 (ar a6 (cZ (af 1) trivial (af 2)) (aq (af 3) (ar cq (ar a6 (af 4) (af 0)) ag) (fun _ _=>rfl))) (cZ (af 1) (ar a6 (af 2) ag) trivial)))))))))))
  qT
theorem fk:av Ap ["_law_top_here","_law_bottom"] (ao m6):=⟨rfl,rfl,rfl,by decide +kernel,rfl,by decide +kernel,by decide +kernel⟩
theorem cP(T:Tx K mg ad fd):FnOk P w K mg base CX0 1 (ad 44) (fd 44) ["_law_top_here","_law_bottom"] (spF K 2 bQ) :=
 aU (k:=0) T.x__law_low.f fk nB (fun cdv A outer s H E hr=>(ai (az (i:=2) fk.nd rfl (by walk_at "o") (au (aB Bk rfl T.z_abs (by decide +kernel) (ae (af 0) ah))))
  (ai (az (i:=3) fk.nd rfl (by walk_at "o") (au (aB Bk rfl T.z_abs (by decide +kernel) (ae (af 1) ah))))
  (ai (oA PassesOwn.never (pbc (mM hr.units) (af 2) ag (aH _)) (ak (Iv (i:=2) (j:=3) rfl fk.nd rfl rfl (by decide) rfl rfl (ar cq (af 3) (af 2)) (af 2) rfl)))
  (ai (bG (pbc si (af 1) ag (aH _)) (ak (az (i:=3) fk.nd rfl (by walk_at "o") (ar cV ag (af 3)))) aJ)
  (ak (ax (a9 (ae (ar jY (af 0) (af 3)) (ae (ar jY (af 1) (af 3)) ah))))))))))
  v5
theorem fS:av tS ["_law_state","_law_least","_law_kind"] (ao gJ):=⟨rfl,rfl,rfl,by decide +kernel,rfl,by decide +kernel,by decide +kernel⟩
theorem fT(T:Tx K mg ad fd):FnOk P w K mg base CX0 2 (ad 45) (fd 45) ["_law_state","_law_least","_law_kind"] (spF K 3 cA) :=
 aU (k:=1) T.x__law_amount.f fS gT (fun cdv A outer s H E hr=>by exact(@ai _ _ _ _ _ (@az _ _ _ 3 _ _ _ fS.nd rfl (by walk_at "o") (@au _ _ _ (@ar _ _ _ _ _ _ _ _ a6 ag (bc (aA T) T.x__law_take hr 0 0 (aS 0 (@ae _ _ _ _ _ _ (@aq _ _ _ _ _ _ (@bJ _ _ _ _ _ (@ae _ _ _ _ _ _ ag (@ae _ _ _ _ _ _ ag (@ae _ _ _ _ _ _ ag (@ae _ _ _ _ _ _ ag (@ae _ _ _ _ _ _ ag ah (by kernel_rfl)) (by kernel_rfl)) (by kernel_rfl)) (by kernel_rfl)) (by kernel_rfl))) (af 2) (fun _ _=>rfl)) ah (by kernel_rfl)))))) (by kernel_rfl) (by first | exact .inl rfl | exact .inr rfl)) (@ai _ _ _ _ _ (@az _ _ _ 4 _ _ _ fS.nd rfl (by walk_at "o") (@au _ _ _ (@ar _ _ _ _ _ _ _ _ a6 (af 1) (bc (aA T) T.x__law_take hr 0 0 (aS 0 (@ae _ _ _ _ _ _ (@aq _ _ _ _ _ _ (@bJ _ _ _ _ _ (@ae _ _ _ _ _ _ ag (@ae _ _ _ _ _ _ ag (@ae _ _ _ _ _ _ ag (@ae _ _ _ _ _ _ ag (@ae _ _ _ _ _ _ (@ar _ _ _ _ _ _ _ _ Bj ag ag) ah (by kernel_rfl)) (by kernel_rfl)) (by kernel_rfl)) (by kernel_rfl)) (by kernel_rfl))) (af 2) (fun _ _=>rfl)) ah (by kernel_rfl)))))) (by kernel_rfl) (by first | exact .inl rfl | exact .inr rfl)) (@ak _ _ _ (@ax _ _ _ _ (aG (cP T) T.x__law_low hr (@ae _ _ _ _ _ _ (af 4) (@ae _ _ _ _ _ _ (af 3) ah (by kernel_rfl)) (by kernel_rfl))))))))
  qt
theorem ck:av vI ["_law_state","_law_ties_here","_law_kind"] (ao iO):=⟨rfl,rfl,rfl,by decide +kernel,rfl,by decide +kernel,by decide +kernel⟩
theorem uv(T:Tx K mg ad fd):FnOk P w K mg base CX0 3 (ad 46) (fd 46) ["_law_state","_law_ties_here","_law_kind"] (spF K 3 gU) :=
 aU (k:=2) T.x__law_rooms.f ck jc (fun cdv A outer s H E hr=>(ai (az (i:=3) ck.nd rfl (by walk_at "o") (au (bc (aA T) T.x__law_take hr 0 0 (aS 0 (ae ag ah)))))
  (ai (az (i:=4) ck.nd rfl (by walk_at "o") (au (bc (fT T) T.x__law_amount hr 0 0 (aS 0 (ae ag (ae (af 2) ah))))))
  (ai (bG (pbc (cW hr.units) (af 3) ag (aH _)) (ak (az (i:=4) ck.nd rfl (by walk_at "o") (a9 (ae ag (ae ag ah))))) aJ)
  (ai (az (i:=5) ck.nd rfl (by walk_at "o") (bJ (ae (af 4) ah)))
  (ai (oA PassesOwn.never (pbc si (jZ (Bn 5 rfl T.z_len) (aB br rfl T.z_len PySem.boot_len (ae (af 5) ah))) (af 1) (aH _)) (ai (az (i:=6) ck.nd rfl (by walk_at "o") (au (bc (fT T) T.x__law_amount hr 0 0 (aS 0 (ae ag (ae (af 2) ah))))))
  (ak (mK (iB 5 (aq (bJ (ae (af 4) (ae (af 6) ah))) (iA Bm rfl T.z_int (by decide +kernel) (ae (bU (cW hr.units) (af 3) ag (aH _)) ah)) (fun _ _=>rfl)))))))
  (ak (ax (dA 5)))))))))
  qU
theorem jy:av xZ ["_law_state","_law_shape","_law_places","_law_k"] (ao kK):=⟨rfl,rfl,rfl,by decide +kernel,rfl,by decide +kernel,by decide +kernel⟩
theorem wu(T:Tx K mg ad fd):FnOk P w K mg base CX0 2 (ad 47) (fd 47) ["_law_state","_law_shape","_law_places","_law_k"] (spF K 4 jd) :=
 aU (k:=1) T.x__law_ends.f jy lg (fun cdv A outer s H E hr=>(ai (az (i:=4) jy.nd rfl (by walk_at "o") (au (bc (aA T) T.x__law_take hr 0 0 (aS 0 (ae (af 2) ah)))))
  (ai (az (i:=5) jy.nd rfl (by walk_at "o") (ar cq (ar a6 (ar a6 (af 4) ag) (bc (aA T) T.x__law_take hr 0 0 (aS 0 (ae (ar cV (af 2) ag) ah)))) (af 2)))
  (ai (bG (pbc (cW hr.units) (af 1) ag (aH _)) (ak (ax (a9 (ae (ar cq (af 3) (af 2)) (ae (ar cq (ar a6 (af 3) (ar jY (af 2) ag)) (af 2)) ah))))) aJ)
  (ai (bG (pbc (cW hr.units) (af 1) ag (aH _)) (ak (ax (a9 (ae (au (ar aR (ar cq (af 3) ag) (ar cV (af 2) ag))) (ae (au (ar aR (ar cV ag (ar cq (af 3) ag)) (ar cV (af 2) ag))) ah))))) aJ)
  (ai (bG (pbc (cW hr.units) (af 1) ag (aH _)) (ak (ax (a9 (ae ag (ae (au (ar a6 ag (ar cq (af 5) (ar cV (af 2) ag)))) ah))))) aJ)
  (ak (ax (a9 (ae (af 4) (ae (af 5) ah)))))))))))
  ue
theorem aX:av x9 ["_law_script","_law_at","_law_most","_law_count"] (ao kM):=⟨rfl,rfl,rfl,by decide +kernel,rfl,by decide +kernel,by decide +kernel⟩
theorem wx(T:Tx K mg ad fd):FnOk P w K mg base CX0 4 (ad 48) (fd 48) ["_law_script","_law_at","_law_most","_law_count"] (spF K 4 je) :=
 aU (k:=3) T.x__law_ring.f aX lh (fun cdv A outer s H E hr=>by exact(@ai _ _ _ _ _ (@az _ _ _ 4 _ _ _ aX.nd rfl (by walk_at "o") (aG (eD T) T.x__law_begun hr (@ae _ _ _ _ _ _ (af 0) (@ae _ _ _ _ _ _ (af 1) ah (by kernel_rfl)) (by kernel_rfl))) (by kernel_rfl) (by first | exact .inl rfl | exact .inr rfl)) (@ai _ _ _ _ _ (@az _ _ _ 5 _ _ _ aX.nd rfl (by walk_at "o") (@au _ _ _ (@ar _ _ _ _ _ _ _ _ a6 ag (bc (aA T) T.x__law_take hr 0 4 (aS 4 (@ae _ _ _ _ _ _ (@ar _ _ _ _ _ _ _ _ cV (af 2) ag) ah (by kernel_rfl)))))) (by kernel_rfl) (by first | exact .inl rfl | exact .inr rfl)) (@ai _ _ _ _ _ (@az _ _ _ 6 _ _ _ aX.nd rfl (by walk_at "o") (@au _ _ _ (bc (aA T) T.x__law_take hr 0 4 (aS 4 (@ae _ _ _ _ _ _ (@au _ _ _ (@ar _ _ _ _ _ _ _ _ a6 (af 3) ag)) ah (by kernel_rfl))))) (by kernel_rfl) (by first | exact .inl rfl | exact .inr rfl)) (@ai _ _ _ _ _ (@az _ _ _ 7 _ _ _ aX.nd rfl (by walk_at "o") (@au _ _ _ (@bJ _ _ _ _ _ (@ae _ _ _ _ _ _ (@au _ _ _ (bc (aA T) T.x__law_take hr 0 4 (aS 4 (@ae _ _ _ _ _ _ ag ah (by kernel_rfl))))) (@ae _ _ _ _ _ _ (@au _ _ _ (bc (aA T) T.x__law_take hr 0 4 (aS 4 (@ae _ _ _ _ _ _ ag ah (by kernel_rfl))))) ah (by kernel_rfl)) (by kernel_rfl)))) (by kernel_rfl) (by first | exact .inl rfl | exact .inr rfl)) (@ai _ _ _ _ _ (@az _ _ _ 8 _ _ _ aX.nd rfl (by walk_at "o") (@au _ _ _ (bc (aA T) T.x__law_take hr 0 4 (aS 4 (@ae _ _ _ _ _ _ ag ah (by kernel_rfl))))) (by kernel_rfl) (by first | exact .inl rfl | exact .inr rfl)) (@ai _ _ _ _ _ (@az _ _ _ 9 _ _ _ aX.nd rfl (by walk_at "o") (@au _ _ _ (bc (uu T) T.x__law_names hr 0 4 (aS 4 (@ae _ _ _ _ _ _ (af 6) ah (by kernel_rfl))))) (by kernel_rfl) (by first | exact .inl rfl | exact .inr rfl)) (@ai _ _ _ _ _ (@az _ _ _ 10 _ _ _ aX.nd rfl (by walk_at "o") (@au _ _ _ (aG (uv T) T.x__law_rooms hr (@ae _ _ _ _ _ _ (aG (eD T) T.x__law_begun hr (@ae _ _ _ _ _ _ (af 0) (@ae _ _ _ _ _ _ (@au _ _ _ (@ar _ _ _ _ _ _ _ _ a6 (af 1) ag)) ah (by kernel_rfl)) (by kernel_rfl))) (@ae _ _ _ _ _ _ (af 5) (@ae _ _ _ _ _ _ (@aq _ _ _ _ _ _ (af 7) ag (fun _ _=>rfl)) ah (by kernel_rfl)) (by kernel_rfl)) (by kernel_rfl)))) (by kernel_rfl) (by first | exact .inl rfl | exact .inr rfl)) (@ai _ _ _ _ _ (@az _ _ _ 4 _ _ _ aX.nd rfl (by walk_at "o") (aG (eD T) T.x__law_begun hr (@ae _ _ _ _ _ _ (af 0) (@ae _ _ _ _ _ _ (@au _ _ _ (@ar _ _ _ _ _ _ _ _ a6 (af 1) ag)) ah (by kernel_rfl)) (by kernel_rfl))) (by kernel_rfl) (by first | exact .inl rfl | exact .inr rfl)) (@ai _ _ _ _ _ (@az _ _ _ 11 _ _ _ aX.nd rfl (by walk_at "o") (@bJ _ _ _ _ _ ah) (by kernel_rfl) (by first | exact .inl rfl | exact .inr rfl)) (@ai _ _ _ _ _ (du PassesOwn.never rfl (cB rfl T.z_range (af 6)) (dY (i:=12) aX.nd rfl (by walk_at "o")) (@ai _ _ _ _ _ (wY (lF rfl (aW (i:=13) aX.nd rfl (by walk_at "o") (aW (i:=14) aX.nd rfl (by walk_at "o") gv))) (bc (wu T) T.x__law_ends hr 0 4 (aS 4 (@ae _ _ _ _ _ _ (af 8) (@ae _ _ _ _ _ _ (af 5) (@ae _ _ _ _ _ _ (af 12) ah (by kernel_rfl)) (by kernel_rfl)) (by kernel_rfl))))) (@ak _ _ _ (mK (iB 11 (@a9 _ _ _ _ _ _ (@ae _ _ _ _ _ _ (@aq _ _ _ _ _ _ (af 9) (af 12) (fun _ _=>rfl)) (@ae _ _ _ _ _ _ (af 13) (@ae _ _ _ _ _ _ (af 14) (@ae _ _ _ _ _ _ (@au _ _ _ (bc (fT T) T.x__law_amount hr 0 4 (aS 4 (@ae _ _ _ _ _ _ ag (@ae _ _ _ _ _ _ (@aq _ _ _ _ _ _ (af 7) ag (fun _ _=>rfl)) ah (by kernel_rfl)) (by kernel_rfl))))) ah (by kernel_rfl)) (by kernel_rfl)) (by kernel_rfl)) (by kernel_rfl)))))))) (@ak _ _ _ (@ax _ _ _ _ (@a9 _ _ _ _ _ _ (@ae _ _ _ _ _ _ (af 10) (@ae _ _ _ _ _ _ (af 11) ah (by kernel_rfl)) (by kernel_rfl))))))))))))))))
  uf
theorem uw:av vJ ["_law_thing"] (ao iP):=⟨rfl,rfl,rfl,by decide +kernel,rfl,by decide +kernel,by decide +kernel⟩
theorem eE(T:Tx K mg ad fd):FnOk P w K mg base CX0 1 (ad 49) (fd 49) ["_law_thing"] (spF K 1 cg) :=
 aU (k:=0) T.x__law_whole.f uw fB (fun cdv A outer s H E hr=>(ak (ax (fo (ik Br rfl T.z_isinstance rfl T.z_int (by decide +kernel) (af 0)) (ij (Bd (ik sy rfl T.z_isinstance rfl T.z_bool (by decide +kernel) (af 0))))))))
  qV
theorem uy:av vK ["_law_thing"] (ao iQ):=⟨rfl,rfl,rfl,by decide +kernel,rfl,by decide +kernel,by decide +kernel⟩
theorem mE(T:Tx K mg ad fd):FnOk P w K mg base CX0 2 (ad 50) (fd 50) ["_law_thing"] (spF K 1 cj) :=
 aU (k:=1) T.x__law_ratio.f uy jf (fun cdv A outer s H E hr=>(ai (bG (PBw.pb (cy (cT (bq (ik iC rfl T.z_isinstance rfl T.z_tuple (by decide +kernel) (af 0)))) (cy (pbc (mM hr.units) (aB br rfl T.z_len (by decide +kernel) (ae (af 0) ah)) ag (aH _)) (cy (cT (bq (aG (eE T) T.x__law_whole hr (ae (aq (af 0) ag (fun _ _=>rfl)) ah)))) (cS (cT (bq (aG (eE T) T.x__law_whole hr (ae (aq (af 0) ag (fun _ _=>rfl)) ah))))))))) (ak (ax iy)) aJ)
  (ak (ax (fo (bU DB (aq (af 0) ag (fun _ _=>rfl)) ag (aH _)) (ij (bU (cW hr.units) (aG (cP T) T.x__law_low hr (ae (aq (af 0) ag (fun _ _=>rfl)) (ae (aq (af 0) ag (fun _ _=>rfl)) ah))) (af 0) (aH _))))))))
  qW
theorem uz:av vL ["_law_one","_law_other"] (ao iR):=⟨rfl,rfl,rfl,by decide +kernel,rfl,by decide +kernel,by decide +kernel⟩
theorem mF(T:Tx K mg ad fd):FnOk P w K mg base CX0 1 (ad 51) (fd 51) ["_law_one","_law_other"] (spF K 2 eA) :=
 aU (k:=0) T.x__law_under.f uz jg (fun cdv A outer s H E hr=>(ak (ax (bU si (ar aR (aq (af 0) ag (fun _ _=>rfl)) (aq (af 1) ag (fun _ _=>rfl))) (ar aR (aq (af 1) ag (fun _ _=>rfl)) (aq (af 0) ag (fun _ _=>rfl))) (aH _)))))
  qX
theorem fE:av gh ["_law_ring_here","_law_thing"] (ao b9):=⟨rfl,rfl,rfl,by decide +kernel,rfl,by decide +kernel,by decide +kernel⟩
theorem mG(T:Tx K mg ad fd):FnOk P w K mg base CX0 3 (ad 52) (fd 52) ["_law_ring_here","_law_thing"] (spF K 2 dg) :=
 aU (k:=2) T.x__law_is_sending.f fE dH (fun cdv A outer s H E hr=>(ai (bG (PBw.pb (cy (cT (bq (ik yR rfl T.z_isinstance rfl T.z_list (by decide +kernel) (af 1)))) (cS (pbc (mM hr.units) (aB br rfl T.z_len (by decide +kernel) (ae (af 1) ah)) (aB br rfl T.z_len (by decide +kernel) (ae (aq (af 0) ag (fun _ _=>rfl)) ah)) (aH _))))) (ak (ax iy)) aJ)
  (ai (bG (pbc (mM hr.units) (cY (sc:=(ao b9)) (N:=gh) (Nt:=["_law_part"]) (Nf:=[]) (fi:=[]) rfl rfl rfl (cU (af 1)) rfl (by decide +kernel) (by decide +kernel) (by decide +kernel) (by decide) rfl (by decide +kernel) (by decide) (fun _ _ _ _=>(cG (by decide) (show((["_law_part"]:List Str)++([]:List Str)).Nodup by decide +kernel) rfl (Or.inl rfl))) (fun _ _ _ _=>(wW (cT (bq (aG (mE T) T.x__law_ratio hr (ae (af 0) ah)))))) (fun _ _ _ _=>(af 0))) (bJ ah) (aH _)) (ak (ax iy)) aJ)
  (ai (du PassesOwn.never rfl (cB rfl T.z_range (aB br rfl T.z_len (by decide +kernel) (ae (af 1) ah))) (dY (i:=2) fE.nd rfl (by walk_at "o")) (ak (bG (PBw.pb (cy (pbc si (aq (aq (af 1) (af 2) (fun _ _=>rfl)) ag (fun _ _=>rfl)) ag (aH _)) (cS (bq (aG (mF T) T.x__law_under hr (ae (aq (aq (aq (af 0) ag (fun _ _=>rfl)) (af 2) (fun _ _=>rfl)) ag (fun _ _=>rfl)) (ae (aq (af 1) (af 2) (fun _ _=>rfl)) ah))))))) (ak (ax iy)) aJ)))
  (ak (ax iy))))))
  ll
theorem b8:av ya ["_law_ring_here","_law_k"] (ao kN):=⟨rfl,rfl,rfl,by decide +kernel,rfl,by decide +kernel,by decide +kernel⟩
theorem wy(T:Tx K mg ad fd):FnOk P w K mg base CX0 1 (ad 53) (fd 53) ["_law_ring_here","_law_k"] (spF K 2 jh) :=
 aU (k:=0) T.x__law_ties.f b8 lp (fun cdv A outer s H E hr=>(ai (wY (lF rfl (aW (i:=2) b8.nd rfl (by walk_at "o") (aW (i:=3) b8.nd rfl (by walk_at "o") (aW (i:=4) b8.nd rfl (by walk_at "o") (aW (i:=5) b8.nd rfl (by walk_at "o") gv))))) (aq (aq (af 0) ag (fun _ _=>rfl)) (af 1) (fun _ _=>rfl)))
  (ai (az (i:=6) b8.nd rfl (by walk_at "o") (bJ ah))
  (ai (oA PassesOwn.never (pbc (mM hr.units) (af 3) (af 4) (aH _)) (ai (mK (iB 6 (af 3)))
  (ak (az (i:=3) b8.nd rfl (by walk_at "o") (ar cq (ar a6 (af 3) ag) (aB br rfl T.z_len (by decide +kernel) (ae (aq (af 0) ag (fun _ _=>rfl)) ah)))))))
  (ak (ax (dA 6)))))))
  ug
theorem uA:av vM ["_law_one","_law_other"] (ao iS):=⟨rfl,rfl,rfl,by decide +kernel,rfl,by decide +kernel,by decide +kernel⟩
theorem uB(T:Tx K mg ad fd):FnOk P w K mg base CX0 2 (ad 54) (fd 54) ["_law_one","_law_other"] (spF K 2 gX) :=
 aU (k:=1) T.x__law_minus.f uA ji (fun cdv A outer s H E hr=>(ak (ax (aG (cP T) T.x__law_low hr (ae (ar cV (ar aR (aq (af 0) ag (fun _ _=>rfl)) (aq (af 1) ag (fun _ _=>rfl))) (ar aR (aq (af 1) ag (fun _ _=>rfl)) (aq (af 0) ag (fun _ _=>rfl)))) (ae (au (ar aR (aq (af 0) ag (fun _ _=>rfl)) (aq (af 1) ag (fun _ _=>rfl)))) ah))))))
  q8
theorem wz:av yb ["_law_one","_law_other"] (ao kO):=⟨rfl,rfl,rfl,by decide +kernel,rfl,by decide +kernel,by decide +kernel⟩
theorem cR(T:Tx K mg ad fd):FnOk P w K mg base CX0 2 (ad 55) (fd 55) ["_law_one","_law_other"] (spF K 2 bA) :=
 aU (k:=1) T.x__law_plus.f wz lq (fun cdv A outer s H E hr=>(ak (ax (aG (cP T) T.x__law_low hr (ae (au (ar a6 (ar aR (aq (af 0) ag (fun _ _=>rfl)) (aq (af 1) ag (fun _ _=>rfl))) (ar aR (aq (af 1) ag (fun _ _=>rfl)) (aq (af 0) ag (fun _ _=>rfl))))) (ae (au (ar aR (aq (af 0) ag (fun _ _=>rfl)) (aq (af 1) ag (fun _ _=>rfl)))) ah))))))
  uh
theorem cm:av nS ["_law_ring_here","_law_parts_here"] (ao fw):=⟨rfl,rfl,rfl,by decide +kernel,rfl,by decide +kernel,by decide +kernel⟩
theorem uC(T:Tx K mg ad fd):FnOk P w K mg base CX0 3 (ad 56) (fd 56) ["_law_ring_here","_law_parts_here"] (spF K 2 gY) :=
 aU (k:=2) T.x__law_loads.f cm jj (fun cdv A outer s H E hr=>by exact(@ai _ _ _ _ _ (wX cm.nd (j:=2) rfl (by walk_at "o") (sc:=(ao fw)) (N:=nS) (Nt:=[ "_law_room" ]) (Nf:=[]) (fi:=[]) rfl rfl rfl (cU (@aq _ _ _ _ _ _ (af 0) ag (fun _ _=>rfl))) rfl (by decide +kernel) (by decide +kernel) (by decide +kernel) (by decide) rfl (by decide +kernel) (by decide) (fun _ _ _ _=>(cG (by decide) (show(([ "_law_room" ]:List Str)++([]:List Str)).Nodup by decide +kernel) rfl (Or.inl rfl))) (fun _ _ _ _=>cX) (fun _ _ _ _=>(@a9 _ _ _ _ _ _ (@ae _ _ _ _ _ _ ag (@ae _ _ _ _ _ _ ag ah (by kernel_rfl)) (by kernel_rfl))))) (@ai _ _ _ _ _ (du PassesOwn.never rfl (cB rfl T.z_range (aB br rfl T.z_len (by decide +kernel) (@ae _ _ _ _ _ _ (af 1) ah (by kernel_rfl)))) (dY (i:=3) cm.nd rfl (by walk_at "o")) (@ai _ _ _ _ _ (@az _ _ _ 4 _ _ _ cm.nd rfl (by walk_at "o") (@au _ _ _ (aG (wy T) T.x__law_ties hr (@ae _ _ _ _ _ _ (af 0) (@ae _ _ _ _ _ _ (af 3) ah (by kernel_rfl)) (by kernel_rfl)))) (by kernel_rfl) (by first | exact .inl rfl | exact .inr rfl)) (@ai _ _ _ _ _ (@az _ _ _ 5 _ _ _ cm.nd rfl (by walk_at "o") (@au _ _ _ (aG (uB T) T.x__law_minus hr (@ae _ _ _ _ _ _ (@aq _ _ _ _ _ _ (@aq _ _ _ _ _ _ (@aq _ _ _ _ _ _ (af 0) ag (fun _ _=>rfl)) (af 3) (fun _ _=>rfl)) ag (fun _ _=>rfl)) (@ae _ _ _ _ _ _ (@aq _ _ _ _ _ _ (af 1) (af 3) (fun _ _=>rfl)) ah (by kernel_rfl)) (by kernel_rfl)))) (by kernel_rfl) (by first | exact .inl rfl | exact .inr rfl)) (@ak _ _ _ (du PassesOwn.never rfl (cB rfl T.z_range (@jZ _ _ _ _ _ (Bn 2 rfl T.z_len) (aB br rfl T.z_len PySem.boot_len (@ae _ _ _ _ _ _ (af 2) ah (by kernel_rfl))))) (dY (i:=6) cm.nd rfl (by walk_at "o")) (@ak _ _ _ (sk 2 (af 6) (aG (cR T) T.x__law_plus hr (@ae _ _ _ _ _ _ (@jZ _ _ _ _ _ (nJ 2 (af 6) (fun _ _=>rfl)) (@aq _ _ _ _ _ _ (af 2) (af 6) (fun _ _=>rfl))) (@ae _ _ _ _ _ _ (@aq _ _ _ _ _ _ (@bJ _ _ _ _ _ (@ae _ _ _ _ _ _ (af 5) (@ae _ _ _ _ _ _ (@aq _ _ _ _ _ _ (af 1) (af 3) (fun _ _=>rfl)) ah (by kernel_rfl)) (by kernel_rfl))) (iA Bm rfl T.z_int (by decide +kernel) (@ae _ _ _ _ _ _ (bU JO (af 6) (af 4) rfl) ah (by kernel_rfl))) (fun _ _=>rfl)) ah (by kernel_rfl)) (by kernel_rfl)))))))))) (@ak _ _ _ (@ax _ _ _ _ (dA 2))))))
  rf
theorem wA:av yc ["_law_one","_law_other"] (ao kP):=⟨rfl,rfl,rfl,by decide +kernel,rfl,by decide +kernel,by decide +kernel⟩
theorem n9(T:Tx K mg ad fd):FnOk P w K mg base CX0 2 (ad 57) (fd 57) ["_law_one","_law_other"] (spF K 2 fC) :=
 aU (k:=1) T.x__law_over.f wA lr (fun cdv A outer s H E hr=>(ak (ax (aG (cP T) T.x__law_low hr (ae (au (ar aR (aq (af 0) ag (fun _ _=>rfl)) (aq (af 1) ag (fun _ _=>rfl)))) (ae (au (ar aR (aq (af 0) ag (fun _ _=>rfl)) (aq (af 1) ag (fun _ _=>rfl)))) ah))))))
  ui
theorem dM:av Aq ["_law_ring_here","_law_parts_here"] (ao m7):=⟨rfl,rfl,rfl,by decide +kernel,rfl,by decide +kernel,by decide +kernel⟩
theorem yy(T:Tx K mg ad fd):FnOk P w K mg base CX0 4 (ad 58) (fd 58) ["_law_ring_here","_law_parts_here"] (spF K 2 lu) :=
 aU (k:=3) T.x__law_top.f dM nC (fun cdv A outer s H E hr=>(ai (az (i:=2) dM.nd rfl (by walk_at "o") (a9 (ae ag (ae ag ah))))
  (ai (du PassesOwn.never rfl (BC rfl T.z_zip (aG (uC T) T.x__law_loads hr (ae (af 0) (ae (af 1) ah))) (aq (af 0) ag (fun _ _=>rfl))) (lF rfl (aW (i:=3) dM.nd rfl (by walk_at "o") (aW (i:=4) dM.nd rfl (by walk_at "o") gv))) (ai (az (i:=5) dM.nd rfl (by walk_at "o") (au (aG (n9 T) T.x__law_over hr (ae (af 3) (ae (af 4) ah)))))
  (ak (bG (bq (aG (mF T) T.x__law_under hr (ae (af 2) (ae (af 5) ah)))) (ak (az (i:=2) dM.nd rfl (by walk_at "o") (af 5))) aJ))))
  (ak (ax (dA 2))))))
  v7
theorem uD:av vN ["_law_cut","_law_one","_law_other"] (ao iT):=⟨rfl,rfl,rfl,by decide +kernel,rfl,by decide +kernel,by decide +kernel⟩
theorem uE(T:Tx K mg ad fd):FnOk P w K mg base CX0 1 (ad 59) (fd 59) ["_law_cut","_law_one","_law_other"] (spF K 3 gZ) :=
 aU (k:=0) T.x__law_apart.f uD jk (fun cdv A outer s H E hr=>(ak (ax (bU (mM hr.units) (sE Gs Bz (aq (af 0) ag (fun _ _=>rfl)) (af 1) (aq (af 0) ag (fun _ _=>rfl))) (sE Gs Bz (aq (af 0) ag (fun _ _=>rfl)) (af 2) (aq (af 0) ag (fun _ _=>rfl))) (aH _)))))
  rg
theorem bE:av tT ["_law_ring_here","_law_cut"] (ao gK):=⟨rfl,rfl,rfl,by decide +kernel,rfl,by decide +kernel,by decide +kernel⟩
theorem rl(T:Tx K mg ad fd):FnOk P w K mg base CX0 3 (ad 60) (fd 60) ["_law_ring_here","_law_cut"] (spF K 2 fR) :=
 aU (k:=2) T.x__law_across.f bE g5 (fun cdv A outer s H E hr=>(ai (az (i:=2) bE.nd rfl (by walk_at "o") (a9 (ae ag (ae ag ah))))
  (ai (du PassesOwn.never rfl (cU (aq (af 0) ag (fun _ _=>rfl))) (lF rfl (aW (i:=3) bE.nd rfl (by walk_at "o") (aW (i:=4) bE.nd rfl (by walk_at "o") (aW (i:=5) bE.nd rfl (by walk_at "o") (aW (i:=6) bE.nd rfl (by walk_at "o") gv))))) (ak (bG (bq (aG (uE T) T.x__law_apart hr (ae (af 1) (ae (af 4) (ae (af 5) ah))))) (ak (az (i:=2) bE.nd rfl (by walk_at "o") (aG (cR T) T.x__law_plus hr (ae (af 2) (ae (af 6) ah))))) aJ)))
  (ak (ax (dA 2))))))
  qv
theorem uF:av vO ["_law_ring_here","_law_cut"] (ao iU):=⟨rfl,rfl,rfl,by decide +kernel,rfl,by decide +kernel,by decide +kernel⟩
theorem uG(T:Tx K mg ad fd):FnOk P w K mg base CX0 4 (ad 61) (fd 61) ["_law_ring_here","_law_cut"] (spF K 2 g6) :=
 aU (k:=3) T.x__law_shown.f uF jn (fun cdv A outer s H E hr=>(ak (ax (aG (n9 T) T.x__law_over hr (ae (au (aG (rl T) T.x__law_across hr (ae (af 0) (ae (af 1) ah)))) (ae (au (aG (cR T) T.x__law_plus hr (ae (aq (aq (af 0) ag (fun _ _=>rfl)) (aq (af 1) ag (fun _ _=>rfl)) (fun _ _=>rfl)) (ae (aq (aq (af 0) ag (fun _ _=>rfl)) (aq (af 1) ag (fun _ _=>rfl)) (fun _ _=>rfl)) ah)))) ah))))))
  rh
theorem yz:av Ar ["_law_ring_here","_law_thing"] (ao m8):=⟨rfl,rfl,rfl,by decide +kernel,rfl,by decide +kernel,by decide +kernel⟩
theorem yA(T:Tx K mg ad fd):FnOk P w K mg base CX0 5 (ad 62) (fd 62) ["_law_ring_here","_law_thing"] (spF K 2 lx) :=
 aU (k:=4) T.x__law_due.f yz nD (fun cdv A outer s H E hr=>(ai (bG (PBw.pb (cy (cT (bq (ik iC rfl T.z_isinstance rfl T.z_tuple (by decide +kernel) (af 1)))) (cy (pbc (mM hr.units) (aB br rfl T.z_len (by decide +kernel) (ae (af 1) ah)) ag (aH _)) (cS (cT (bq (aG (mE T) T.x__law_ratio hr (ae (aq (af 1) ag (fun _ _=>rfl)) ah)))))))) (ak (ax iy)) aJ)
  (ai (bG (PBw.pb (cy (cT (bq (aG (mG T) T.x__law_is_sending hr (ae (af 0) (ae (aq (af 1) ag (fun _ _=>rfl)) ah))))) (cS (cT (bq (ik iC rfl T.z_isinstance rfl T.z_tuple (by decide +kernel) (aq (af 1) ag (fun _ _=>rfl)))))))) (ak (ax iy)) aJ)
  (ai (bG (PBw.pb (cy (pbc (mM hr.units) (aB br rfl T.z_len (by decide +kernel) (ae (aq (af 1) ag (fun _ _=>rfl)) ah)) ag (aH _)) (cy (cT (bq (aG (eE T) T.x__law_whole hr (ae (aq (aq (af 1) ag (fun _ _=>rfl)) ag (fun _ _=>rfl)) ah)))) (cS (cT (bq (aG (eE T) T.x__law_whole hr (ae (aq (aq (af 1) ag (fun _ _=>rfl)) ag (fun _ _=>rfl)) ah)))))))) (ak (ax iy)) aJ)
  (ai (bG (PBw.pb (cy (cT (DL Bz Bz ag (aq (aq (af 1) ag (fun _ _=>rfl)) ag (fun _ _=>rfl)) (aq (aq (af 1) ag (fun _ _=>rfl)) ag (fun _ _=>rfl)))) (cS (pbc Gi (aq (aq (af 1) ag (fun _ _=>rfl)) ag (fun _ _=>rfl)) (aB br rfl T.z_len (by decide +kernel) (ae (aq (af 0) ag (fun _ _=>rfl)) ah)) (aH _))))) (ak (ax iy)) aJ)
  (ak (ax (fo (bU (cW hr.units) (aG (yy T) T.x__law_top hr (ae (af 0) (ae (aq (af 1) ag (fun _ _=>rfl)) ah))) (aq (af 1) ag (fun _ _=>rfl)) (aH _)) (ij (bU (cW hr.units) (aG (uG T) T.x__law_shown hr (ae (af 0) (ae (aq (af 1) ag (fun _ _=>rfl)) ah))) (aq (af 1) ag (fun _ _=>rfl)) (aH _)))))))))))
  v8
theorem ic:av vP ["_law_ring_here","_law_thing","_law_top_here"] (ao iV):=⟨rfl,rfl,rfl,by decide +kernel,rfl,by decide +kernel,by decide +kernel⟩
theorem uH(T:Tx K mg ad fd):FnOk P w K mg base CX0 11 (ad 63) (fd 63) ["_law_ring_here","_law_thing","_law_top_here"] (spF K 3 g7) :=
 aU (k:=10) T.x__law_right.f ic jr (fun cdv A outer s H E hr=>(ai (az (i:=3) ic.nd rfl (by walk_at "o") (au (aB (oE hr) rfl T.z_repr (by decide +kernel) (ae (af 1) ah))))
  (ai (az (i:=4) ic.nd rfl (by walk_at "o") (au (aG (mD T) T.x_lets_least hr (ae (af 0) (ae (af 1) ah)))))
  (ai (bG (PBw.pb (cy (cT (bq (ik sy rfl T.z_isinstance rfl T.z_bool (by decide +kernel) (af 4)))) (cy (pbc (mM hr.units) (af 4) (aG (yA T) T.x__law_due hr (ae (af 0) (ae (af 1) ah))) (aH _)) (cS (pbc IQ (aB (oE hr) rfl T.z_repr (by decide +kernel) (ae (af 1) ah)) (af 3) (aH _)))))) (ak (ax iy)) aJ)
  (ak (ax (JN (Bd (af 4)) (ij (bU (cW hr.units) (aq (af 1) ag (fun _ _=>rfl)) (af 2) (aH _))))))))))
  rj
theorem bB:av vQ ["_law_state","_law_ring_here"] (ao iW):=⟨rfl,rfl,rfl,by decide +kernel,rfl,by decide +kernel,by decide +kernel⟩
theorem uI(T:Tx K mg ad fd):FnOk P w K mg base CX0 2 (ad 64) (fd 64) ["_law_state","_law_ring_here"] (spF K 2 g8) :=
 aU (k:=1) T.x__law_parts.f bB jt (fun cdv A outer s H E hr=>(ai (az (i:=2) bB.nd rfl (by walk_at "o") (bJ ah))
  (ai (du PassesOwn.never rfl (cU (aq (af 1) ag (fun _ _=>rfl))) (lF rfl (aW (i:=3) bB.nd rfl (by walk_at "o") (aW (i:=4) bB.nd rfl (by walk_at "o") (aW (i:=5) bB.nd rfl (by walk_at "o") (aW (i:=6) bB.nd rfl (by walk_at "o") gv))))) (ai (az (i:=7) bB.nd rfl (by walk_at "o") (au (bc (aA T) T.x__law_take hr 0 0 (aS 0 (ae ag ah)))))
  (ai (az (i:=8) bB.nd rfl (by walk_at "o") (au (bc (aA T) T.x__law_take hr 0 0 (aS 0 (ae ag ah)))))
  (ak (mK (iB 2 (aq (bJ (ae (a9 (ae ag (ae ag ah))) (ae (af 6) (ae (au (aG (cP T) T.x__law_low hr (ae (au (ar aR (aq (af 6) ag (fun _ _=>rfl)) (af 8))) (ae (au (ar aR (aq (af 6) ag (fun _ _=>rfl)) ag)) ah)))) ah)))) (aB (Bl rfl) rfl T.z_min (by decide +kernel) (ae (af 7) (ae ag ah))) (fun _ _=>rfl))))))))
  (ak (ax (dA 2))))))
  rk
theorem bX:av m9 ["_law_state","_law_ring_here","_law_parts_here"] (ao dD):=⟨rfl,rfl,rfl,by decide +kernel,rfl,by decide +kernel,by decide +kernel⟩
theorem mH(T:Tx K mg ad fd):FnOk P w K mg base CX0 3 (ad 65) (fd 65) ["_law_state","_law_ring_here","_law_parts_here"] (spF K 3 dh) :=
 aU (k:=2) T.x__law_bent_parts.f bX dJ (fun cdv A outer s H E hr=>by exact(@ai _ _ _ _ _ (@az _ _ _ 3 _ _ _ bX.nd rfl (by walk_at "o") (@aq _ _ _ _ _ _ (@bJ _ _ _ _ _ (@ae _ _ _ _ _ _ lD (@ae _ _ _ _ _ _ ag (@ae _ _ _ _ _ _ Fp (@ae _ _ _ _ _ _ (@a9 _ _ _ _ _ _ (@ae _ _ _ _ _ _ ag (@ae _ _ _ _ _ _ ag ah (by kernel_rfl)) (by kernel_rfl))) (@ae _ _ _ _ _ _ (@a9 _ _ _ _ _ _ (@ae _ _ _ _ _ _ ag (@ae _ _ _ _ _ _ ag ah (by kernel_rfl)) (by kernel_rfl))) (@ae _ _ _ _ _ _ (@au _ _ _ (@bJ _ _ _ _ _ (@ae _ _ _ _ _ _ ag (@ae _ _ _ _ _ _ ag ah (by kernel_rfl)) (by kernel_rfl)))) (@ae _ _ _ _ _ _ (@a9 _ _ _ _ _ _ (@ae _ _ _ _ _ _ iy (@ae _ _ _ _ _ _ ag ah (by kernel_rfl)) (by kernel_rfl))) (@ae _ _ _ _ _ _ (@a9 _ _ _ _ _ _ (@ae _ _ _ _ _ _ (yJ ag) (@ae _ _ _ _ _ _ ag ah (by kernel_rfl)) (by kernel_rfl))) ah (by kernel_rfl)) (by kernel_rfl)) (by kernel_rfl)) (by kernel_rfl)) (by kernel_rfl)) (by kernel_rfl)) (by kernel_rfl)) (by kernel_rfl))) (bc (aA T) T.x__law_take hr 0 0 (aS 0 (@ae _ _ _ _ _ _ ag ah (by kernel_rfl)))) (fun _ _=>rfl)) (by kernel_rfl) (by first | exact .inl rfl | exact .inr rfl)) (@ai _ _ _ _ _ (@az _ _ _ 4 _ _ _ bX.nd rfl (by walk_at "o") (@au _ _ _ (bc (aA T) T.x__law_take hr 0 0 (aS 0 (@ae _ _ _ _ _ _ ag ah (by kernel_rfl))))) (by kernel_rfl) (by first | exact .inl rfl | exact .inr rfl)) (@ai _ _ _ _ _ (@bG _ _ _ _ _ _ _ _ (PBw.pb (cy (pbc (cW hr.units) (af 2) (@bJ _ _ _ _ _ ah) (aH _)) (cS (pbc (cW hr.units) (af 4) ag (aH _))))) (@ak _ _ _ (@ax _ _ _ _ (@aq _ _ _ _ _ _ (@bJ _ _ _ _ _ (@ae _ _ _ _ _ _ (@au _ _ _ (iA DD rfl T.z_tuple (by decide +kernel) (@ae _ _ _ _ _ _ (af 2) ah (by kernel_rfl)))) (@ae _ _ _ _ _ _ (@au _ _ _ (@ar _ _ _ _ _ _ _ _ a6 (af 2) (@bJ _ _ _ _ _ (@ae _ _ _ _ _ _ (@a9 _ _ _ _ _ _ (@ae _ _ _ _ _ _ ag (@ae _ _ _ _ _ _ ag ah (by kernel_rfl)) (by kernel_rfl))) ah (by kernel_rfl))))) (@ae _ _ _ _ _ _ lD (@ae _ _ _ _ _ _ DV ah (by kernel_rfl)) (by kernel_rfl)) (by kernel_rfl)) (by kernel_rfl))) (bc (aA T) T.x__law_take hr 0 0 (aS 0 (@ae _ _ _ _ _ _ ag ah (by kernel_rfl)))) (fun _ _=>rfl)))) aJ) (@ai _ _ _ _ _ (@az _ _ _ 5 _ _ _ bX.nd rfl (by walk_at "o") (@au _ _ _ (bc (aA T) T.x__law_take hr 0 0 (aS 0 (@ae _ _ _ _ _ _ (@au _ _ _ (aB br rfl T.z_len (by decide +kernel) (@ae _ _ _ _ _ _ (af 2) ah (by kernel_rfl)))) ah (by kernel_rfl))))) (by kernel_rfl) (by first | exact .inl rfl | exact .inr rfl)) (@ai _ _ _ _ _ (@bG _ _ _ _ _ _ _ _ (pbc (cW hr.units) (af 4) ag (aH _)) (@ak _ _ _ (@ax _ _ _ _ (@au _ _ _ (@ar _ _ _ _ _ _ _ _ a6 (@ar _ _ _ _ _ _ _ _ a6 (@cZ _ _ _ _ _ _ _ _ _ (af 2) trivial (af 5)) (@bJ _ _ _ _ _ (@ae _ _ _ _ _ _ (af 3) ah (by kernel_rfl)))) (@cZ _ _ _ _ _ _ _ _ _ (af 2) (@ar _ _ _ _ _ _ _ _ a6 (af 5) ag) trivial))))) aJ) (@ai _ _ _ _ _ (@bG _ _ _ _ _ _ _ _ (pbc (cW hr.units) (af 4) ag (aH _)) (@ak _ _ _ (@ax _ _ _ _ (@au _ _ _ (@cZ _ _ _ _ _ _ _ _ _ (af 2) ag trivial)))) aJ) (@ai _ _ _ _ _ (@bG _ _ _ _ _ _ _ _ (pbc (cW hr.units) (af 4) ag (aH _)) (@ak _ _ _ (@ax _ _ _ _ (@au _ _ _ (@ar _ _ _ _ _ _ _ _ a6 (@ar _ _ _ _ _ _ _ _ a6 (@cZ _ _ _ _ _ _ _ _ _ (af 2) trivial (af 5)) (@bJ _ _ _ _ _ (@ae _ _ _ _ _ _ (@au _ _ _ (aG (cR T) T.x__law_plus hr (@ae _ _ _ _ _ _ (@aq _ _ _ _ _ _ (af 2) (af 5) (fun _ _=>rfl)) (@ae _ _ _ _ _ _ (@au _ _ _ (aG (cP T) T.x__law_low hr (@ae _ _ _ _ _ _ (@ar _ _ _ _ _ _ _ _ cV (bc (aA T) T.x__law_take hr 0 0 (aS 0 (@ae _ _ _ _ _ _ ag ah (by kernel_rfl)))) ag) (@ae _ _ _ _ _ _ ag ah (by kernel_rfl)) (by kernel_rfl)))) ah (by kernel_rfl)) (by kernel_rfl)))) ah (by kernel_rfl)))) (@cZ _ _ _ _ _ _ _ _ _ (af 2) (@ar _ _ _ _ _ _ _ _ a6 (af 5) ag) trivial))))) aJ) (@ai _ _ _ _ _ (@bG _ _ _ _ _ _ _ _ (pbc (cW hr.units) (af 4) ag (aH _)) (@ak _ _ _ (@ax _ _ _ _ (@au _ _ _ (@ar _ _ _ _ _ _ _ _ a6 (@ar _ _ _ _ _ _ _ _ a6 (@cZ _ _ _ _ _ _ _ _ _ (af 2) trivial (af 5)) (@bJ _ _ _ _ _ (@ae _ _ _ _ _ _ (@aq _ _ _ _ _ _ (@bJ _ _ _ _ _ (@ae _ _ _ _ _ _ (@a9 _ _ _ _ _ _ (@ae _ _ _ _ _ _ (yJ ag) (@ae _ _ _ _ _ _ ag ah (by kernel_rfl)) (by kernel_rfl))) (@ae _ _ _ _ _ _ (@au _ _ _ (aG (cR T) T.x__law_plus hr (@ae _ _ _ _ _ _ (@aq _ _ _ _ _ _ (@aq _ _ _ _ _ _ (@aq _ _ _ _ _ _ (af 1) ag (fun _ _=>rfl)) (af 5) (fun _ _=>rfl)) ag (fun _ _=>rfl)) (@ae _ _ _ _ _ _ (@a9 _ _ _ _ _ _ (@ae _ _ _ _ _ _ ag (@ae _ _ _ _ _ _ ag ah (by kernel_rfl)) (by kernel_rfl))) ah (by kernel_rfl)) (by kernel_rfl)))) ah (by kernel_rfl)) (by kernel_rfl))) (bc (aA T) T.x__law_take hr 0 0 (aS 0 (@ae _ _ _ _ _ _ ag ah (by kernel_rfl)))) (fun _ _=>rfl)) ah (by kernel_rfl)))) (@cZ _ _ _ _ _ _ _ _ _ (af 2) (@ar _ _ _ _ _ _ _ _ a6 (af 5) ag) trivial))))) aJ) (@ak _ _ _ (@ax _ _ _ _ (@au _ _ _ (bc (uI T) T.x__law_parts hr 0 0 (aS 0 (@ae _ _ _ _ _ _ (af 1) ah (by kernel_rfl))))))))))))))))
  ly
theorem bC:av yd ["_law_state","_law_ring_here","_law_told"] (ao kQ):=⟨rfl,rfl,rfl,by decide +kernel,rfl,by decide +kernel,by decide +kernel⟩
theorem wB(T:Tx K mg ad fd):FnOk P w K mg base CX0 4 (ad 66) (fd 66) ["_law_state","_law_ring_here","_law_told"] (spF K 3 ju) :=
 aU (k:=3) T.x__law_bent.f bC lz (fun cdv A outer s H E hr=>by exact(@ai _ _ _ _ _ (wY (lF rfl (aW (i:=3) bC.nd rfl (by walk_at "o") (aW (i:=4) bC.nd rfl (by walk_at "o") (aW (i:=5) bC.nd rfl (by walk_at "o") gv)))) (af 2)) (@ai _ _ _ _ _ (@az _ _ _ 6 _ _ _ bC.nd rfl (by walk_at "o") (@au _ _ _ (bc (aA T) T.x__law_take hr 0 0 (aS 0 (@ae _ _ _ _ _ _ ag ah (by kernel_rfl))))) (by kernel_rfl) (by first | exact .inl rfl | exact .inr rfl)) (@ai _ _ _ _ _ (@bG _ _ _ _ _ _ _ _ (pbc (cW hr.units) (af 6) ag (aH _)) (@ak _ _ _ (@az _ _ _ 3 _ _ _ bC.nd rfl (by walk_at "o") (@aq _ _ _ _ _ _ (@bJ _ _ _ _ _ (@ae _ _ _ _ _ _ (@au _ _ _ (aG (cR T) T.x__law_plus hr (@ae _ _ _ _ _ _ (af 3) (@ae _ _ _ _ _ _ (@a9 _ _ _ _ _ _ (@ae _ _ _ _ _ _ ag (@ae _ _ _ _ _ _ ag ah (by kernel_rfl)) (by kernel_rfl))) ah (by kernel_rfl)) (by kernel_rfl)))) (@ae _ _ _ _ _ _ (@a9 _ _ _ _ _ _ (@ae _ _ _ _ _ _ ag (@ae _ _ _ _ _ _ ag ah (by kernel_rfl)) (by kernel_rfl))) (@ae _ _ _ _ _ _ lD (@ae _ _ _ _ _ _ (@a9 _ _ _ _ _ _ (@ae _ _ _ _ _ _ ag (@ae _ _ _ _ _ _ ag ah (by kernel_rfl)) (by kernel_rfl))) (@ae _ _ _ _ _ _ ag ah (by kernel_rfl)) (by kernel_rfl)) (by kernel_rfl)) (by kernel_rfl)) (by kernel_rfl))) (bc (aA T) T.x__law_take hr 0 0 (aS 0 (@ae _ _ _ _ _ _ ag ah (by kernel_rfl)))) (fun _ _=>rfl)) (by kernel_rfl) (by first | exact .inl rfl | exact .inr rfl))) aJ) (@ai _ _ _ _ _ (@bG _ _ _ _ _ _ _ _ (pbc (cW hr.units) (af 6) ag (aH _)) (@ak _ _ _ (@az _ _ _ 5 _ _ _ bC.nd rfl (by walk_at "o") (@a9 _ _ _ _ _ _ (@ae _ _ _ _ _ _ (@au _ _ _ (bc (aA T) T.x__law_take hr 0 0 (aS 0 (@ae _ _ _ _ _ _ (@au _ _ _ (aB br rfl T.z_len (by decide +kernel) (@ae _ _ _ _ _ _ (@aq _ _ _ _ _ _ (af 1) ag (fun _ _=>rfl)) ah (by kernel_rfl)))) ah (by kernel_rfl))))) (@ae _ _ _ _ _ _ (@au _ _ _ (bc (aA T) T.x__law_take hr 0 0 (aS 0 (@ae _ _ _ _ _ _ (@au _ _ _ (aB br rfl T.z_len (by decide +kernel) (@ae _ _ _ _ _ _ (@aq _ _ _ _ _ _ (af 1) ag (fun _ _=>rfl)) ah (by kernel_rfl)))) ah (by kernel_rfl))))) ah (by kernel_rfl)) (by kernel_rfl))) (by kernel_rfl) (by first | exact .inl rfl | exact .inr rfl))) aJ) (@ai _ _ _ _ _ (@bG _ _ _ _ _ _ _ _ (pbc (cW hr.units) (af 6) ag (aH _)) (@ak _ _ _ (@az _ _ _ 5 _ _ _ bC.nd rfl (by walk_at "o") (@aq _ _ _ _ _ _ (@bJ _ _ _ _ _ (@ae _ _ _ _ _ _ (@au _ _ _ (GN (af 5))) (@ae _ _ _ _ _ _ (@au _ _ _ (iA Gk rfl T.z_list (by decide +kernel) (@ae _ _ _ _ _ _ (af 5) ah (by kernel_rfl)))) (@ae _ _ _ _ _ _ lD (@ae _ _ _ _ _ _ (@aq _ _ _ _ _ _ (af 5) ag (fun _ _=>rfl)) (@ae _ _ _ _ _ _ (@a9 _ _ _ _ _ _ (@ae _ _ _ _ _ _ (@aq _ _ _ _ _ _ (af 5) ag (fun _ _=>rfl)) (@ae _ _ _ _ _ _ (@au _ _ _ (aB br rfl T.z_len (by decide +kernel) (@ae _ _ _ _ _ _ (@aq _ _ _ _ _ _ (af 1) ag (fun _ _=>rfl)) ah (by kernel_rfl)))) ah (by kernel_rfl)) (by kernel_rfl))) (@ae _ _ _ _ _ _ (@a9 _ _ _ _ _ _ (@ae _ _ _ _ _ _ iy (@ae _ _ _ _ _ _ (@aq _ _ _ _ _ _ (af 5) ag (fun _ _=>rfl)) ah (by kernel_rfl)) (by kernel_rfl))) ah (by kernel_rfl)) (by kernel_rfl)) (by kernel_rfl)) (by kernel_rfl)) (by kernel_rfl)) (by kernel_rfl))) (bc (aA T) T.x__law_take hr 0 0 (aS 0 (@ae _ _ _ _ _ _ ag ah (by kernel_rfl)))) (fun _ _=>rfl)) (by kernel_rfl) (by first | exact .inl rfl | exact .inr rfl))) aJ) (@ai _ _ _ _ _ (@bG _ _ _ _ _ _ _ _ (pbc (cW hr.units) (af 6) ag (aH _)) (@ak _ _ _ (@ax _ _ _ _ (@aq _ _ _ _ _ _ (@bJ _ _ _ _ _ (@ae _ _ _ _ _ _ lD (@ae _ _ _ _ _ _ (@au _ _ _ (@bJ _ _ _ _ _ (@ae _ _ _ _ _ _ (af 3) (@ae _ _ _ _ _ _ (af 4) (@ae _ _ _ _ _ _ (af 5) ah (by kernel_rfl)) (by kernel_rfl)) (by kernel_rfl)))) (@ae _ _ _ _ _ _ (@a9 _ _ _ _ _ _ (@ae _ _ _ _ _ _ (af 3) (@ae _ _ _ _ _ _ (af 4) ah (by kernel_rfl)) (by kernel_rfl))) (@ae _ _ _ _ _ _ (@a9 _ _ _ _ _ _ (@ae _ _ _ _ _ _ (af 3) (@ae _ _ _ _ _ _ (af 4) (@ae _ _ _ _ _ _ (af 5) (@ae _ _ _ _ _ _ (af 5) ah (by kernel_rfl)) (by kernel_rfl)) (by kernel_rfl)) (by kernel_rfl))) (@ae _ _ _ _ _ _ (@a9 _ _ _ _ _ _ ah) ah (by kernel_rfl)) (by kernel_rfl)) (by kernel_rfl)) (by kernel_rfl)) (by kernel_rfl))) (bc (aA T) T.x__law_take hr 0 0 (aS 0 (@ae _ _ _ _ _ _ ag ah (by kernel_rfl)))) (fun _ _=>rfl)))) aJ) (@ai _ _ _ _ _ (@bG _ _ _ _ _ _ _ _ (pbc (cW hr.units) (af 6) ag (aH _)) (@ak _ _ _ (@ax _ _ _ _ (@a9 _ _ _ _ _ _ (@ae _ _ _ _ _ _ (af 3) (@ae _ _ _ _ _ _ (af 5) (@ae _ _ _ _ _ _ (af 4) ah (by kernel_rfl)) (by kernel_rfl)) (by kernel_rfl))))) aJ) (@ai _ _ _ _ _ (@bG _ _ _ _ _ _ _ _ (pbc DB (af 6) ag (aH _)) (@ak _ _ _ (@az _ _ _ 4 _ _ _ bC.nd rfl (by walk_at "o") (@au _ _ _ (bc (mH T) T.x__law_bent_parts hr 0 0 (aS 0 (@ae _ _ _ _ _ _ (af 1) (@ae _ _ _ _ _ _ (af 4) ah (by kernel_rfl)) (by kernel_rfl))))) (by kernel_rfl) (by first | exact .inl rfl | exact .inr rfl))) aJ) (@ak _ _ _ (@ax _ _ _ _ (@a9 _ _ _ _ _ _ (@ae _ _ _ _ _ _ (af 3) (@ae _ _ _ _ _ _ (af 4) (@ae _ _ _ _ _ _ (af 5) ah (by kernel_rfl)) (by kernel_rfl)) (by kernel_rfl))))))))))))))
  uj
theorem wD:av Kj ["_law_script"] (ao EU):=⟨rfl,rfl,rfl,by decide +kernel,rfl,by decide +kernel,by decide +kernel⟩
theorem Jw(T:Tx K mg ad fd):FnOk P w K mg base CX0 12 (ad 67) (fd 67) ["_law_script"] (spF K 1 fs_law) :=
 aU (k:=11) T.x_law.f wD Ht (fun cdv A outer s H E hr=>by exact(@ai _ _ _ _ _ (@az _ _ _ 1 _ _ _ wD.nd rfl (by walk_at "o") (@au _ _ _ (aG (wx T) T.x__law_ring hr (@ae _ _ _ _ _ _ (af 0) (@ae _ _ _ _ _ _ ag (@ae _ _ _ _ _ _ ag (@ae _ _ _ _ _ _ ag ah (by kernel_rfl)) (by kernel_rfl)) (by kernel_rfl)) (by kernel_rfl)))) (by kernel_rfl) (by first | exact .inl rfl | exact .inr rfl)) (@ai _ _ _ _ _ (@az _ _ _ 2 _ _ _ wD.nd rfl (by walk_at "o") (@au _ _ _ (aB (oE hr) rfl T.z_repr (by decide +kernel) (@ae _ _ _ _ _ _ (af 1) ah (by kernel_rfl)))) (by kernel_rfl) (by first | exact .inl rfl | exact .inr rfl)) (@ai _ _ _ _ _ (@az _ _ _ 3 _ _ _ wD.nd rfl (by walk_at "o") (@au _ _ _ (aG (wm T) T.x_least_top hr (@ae _ _ _ _ _ _ (af 1) ah (by kernel_rfl)))) (by kernel_rfl) (by first | exact .inl rfl | exact .inr rfl)) (@ai _ _ _ _ _ (@bG _ _ _ _ _ _ _ _ (pbc GH (aG (mD T) T.x_lets_least hr (@ae _ _ _ _ _ _ (af 1) (@ae _ _ _ _ _ _ (af 3) ah (by kernel_rfl)) (by kernel_rfl))) iy (aH _)) (@ak _ _ _ (@ax _ _ _ _ iy)) aJ) (@ai _ _ _ _ _ (du PassesOwn.never rfl (sf rfl T.z_range ag (aB (Iu rfl) rfl T.z_max (by decide +kernel) (@ae _ _ _ _ _ _ ag (@ae _ _ _ _ _ _ (@au _ _ _ (aB (Bl rfl) rfl T.z_min (by decide +kernel) (@ae _ _ _ _ _ _ (@au _ _ _ (aB br rfl T.z_len (by decide +kernel) (@ae _ _ _ _ _ _ (af 0) ah (by kernel_rfl)))) (@ae _ _ _ _ _ _ ag ah (by kernel_rfl)) (by kernel_rfl)))) ah (by kernel_rfl)) (by kernel_rfl)))) (dY (i:=4) wD.nd rfl (by walk_at "o")) (@ak _ _ _ (@bG _ _ _ _ _ _ _ _ (cT (bq (aG (uH T) T.x__law_right hr (@ae _ _ _ _ _ _ (af 1) (@ae _ _ _ _ _ _ (@au _ _ _ (aG (wB T) T.x__law_bent hr (@ae _ _ _ _ _ _ (aG (eD T) T.x__law_begun hr (@ae _ _ _ _ _ _ (af 0) (@ae _ _ _ _ _ _ (af 4) ah (by kernel_rfl)) (by kernel_rfl))) (@ae _ _ _ _ _ _ (af 1) (@ae _ _ _ _ _ _ (af 3) ah (by kernel_rfl)) (by kernel_rfl)) (by kernel_rfl)))) (@ae _ _ _ _ _ _ (@aq _ _ _ _ _ _ (af 3) ag (fun _ _=>rfl)) ah (by kernel_rfl)) (by kernel_rfl)) (by kernel_rfl))))) (@ak _ _ _ (@ax _ _ _ _ iy)) aJ))) (@ak _ _ _ (@ax _ _ _ _ (bU IP (aB (oE hr) rfl T.z_repr (by decide +kernel) (@ae _ _ _ _ _ _ (af 1) ah (by kernel_rfl))) (af 2) (aH _))))))))))
  Hu
end
noncomputable def adF(i:Nat):Addr:=([21,28,35,42,49,89,96,103,110,117,124,131,138,145,152,159,164,171,178,183,190,195,202,209,214,219,224,231,243,248,236,267,262,272,255,279,284,291,305,312,298,319,326,345,333,340,352,359,366,448,455,401,460,429,387,380,434,394,441,408,415,422,467,488,373,474,481,495]:List Addr).getD i 0
abbrev md0:Value:=(.str "ringloads.divisors" 187)
abbrev md1:Value:=(.str "ringloads.names" 206)
abbrev md2:Value:=(.str "ringloads.ratios" 273)
abbrev md3:Value:=(.str "ringloads.cuts" 344)
abbrev md4:Value:=(.str "ringloads.ways" 409)
abbrev md5:Value:=(.str "ringloads.loads" 433)
abbrev md6:Value:=(.str "ringloads.units" 475)
abbrev md7:Value:=(.str "ringloads.parting" 498)
abbrev md8:Value:=(.str "ringloads.sendings" 541)
abbrev md9:Value:=(.str "ringloads.leasts" 559)
abbrev md10:Value:=(.str "law_ringloads_k23_least_tops_let_by" 595)
noncomputable def fdF(i:Nat):FuncData:=[fdM "greatest_shared" dB md0 20,fdM "least_common" fJ md0 27,fdM "is_whole" mX md1 34,fdM "are_two_wholes" d5 md1 41,fdM "is_ratio" mY md1 48,fdM "lowest" tO md2 88,fdM "ratio" xQ md2 95,fdM "plus" CH md2 102,fdM "minus" xR md2 109,fdM "times" xS md2 116,fdM "over" CI md2 123,fdM "under" xT md2 130,fdM "sum_of" tP md2 137,fdM "is_cut" tQ md3 144,fdM "is_within" kF md3 151,fdM "parts_places" fK md3 158,fdM "across" oK md3 163,fdM "rooms_of" mZ md3 170,fdM "shown_by" m4 md3 177,fdM "all_cuts" jJ md3 182,fdM "greatest_cut" fL md3 189,fdM "ties_of" iJ md4 194,fdM "is_over" pO md4 201,fdM "sent_over" kG md5 208,fdM "load_of" lX md5 213,fdM "loads_of" jK md5 218,fdM "strains_of" fu md5 223,fdM "top_of" tR md5 230,fdM "common_bottom" eQ md6 242,fdM "in_units" jL md6 247,fdM "weighed" iK md6 235,fdM "still_across" dO md7 266,fdM "most_on" pR md7 261,fdM "left_free" gI md7 271,fdM "sent_one_by_one" dC md7 254,fdM "first_wrong_part" c9 md8 278,fdM "is_sending" fv md8 283,fdM "least_top" kH md9 290,fdM "has_top" pT md9 304,fdM "shows_top" kI md9 311,fdM "lets_least" iL md9 297,fdM "_law_begun" iM md10 318,fdM "_law_take" kJ md10 325,fdM "_law_names" dU md10 344,fdM "_law_low" m6 md10 332,fdM "_law_amount" gJ md10 339,fdM "_law_rooms" iO md10 351,fdM "_law_ends" kK md10 358,fdM "_law_ring" kM md10 365,fdM "_law_whole" iP md10 447,fdM "_law_ratio" iQ md10 454,fdM "_law_under" iR md10 400,fdM "_law_is_sending" b9 md10 459,fdM "_law_ties" kN md10 428,fdM "_law_minus" iS md10 386,fdM "_law_plus" kO md10 379,fdM "_law_loads" fw md10 433,fdM "_law_over" kP md10 393,fdM "_law_top" m7 md10 440,fdM "_law_apart" iT md10 407,fdM "_law_across" gK md10 414,fdM "_law_shown" iU md10 421,fdM "_law_due" m8 md10 466,fdM "_law_right" iV md10 487,fdM "_law_parts" iW md10 372,fdM "_law_bent_parts" dD md10 473,fdM "_law_bent" kQ md10 480,fdM "law" EU md10 494].getD i (fdM "law" EU md0 0)
theorem tx{Pm:Params}{h:Heap}{mg:Str→Option Value}(X:(Hd.Kf Pm).In h)(G:h.Ns mainGlobals mg):Tx (Hd.Kf Pm) mg adF fdF where
 x_greatest_shared:=FX.mk' X G (a:=21) (c:=20) (md:=md0) (by kernel_rfl) (by kernel_rfl) (by kernel_rfl) (by kernel_rfl) fun _ _ _ _ _ _ u l=>match u,l with | [_,_],_=>rfl
 x_least_common:=FX.mk' X G (a:=28) (c:=27) (md:=md0) (by kernel_rfl) (by kernel_rfl) (by kernel_rfl) (by kernel_rfl) fun _ _ _ _ _ _ u l=>match u,l with | [_,_],_=>rfl
 x_is_whole:=FX.mk' X G (a:=35) (c:=34) (md:=md1) (by kernel_rfl) (by kernel_rfl) (by kernel_rfl) (by kernel_rfl) fun _ _ _ _ _ _ u l=>match u,l with | [_],_=>rfl
 x_are_two_wholes:=FX.mk' X G (a:=42) (c:=41) (md:=md1) (by kernel_rfl) (by kernel_rfl) (by kernel_rfl) (by kernel_rfl) fun _ _ _ _ _ _ u l=>match u,l with | [_],_=>rfl
 x_is_ratio:=FX.mk' X G (a:=49) (c:=48) (md:=md1) (by kernel_rfl) (by kernel_rfl) (by kernel_rfl) (by kernel_rfl) fun _ _ _ _ _ _ u l=>match u,l with | [_],_=>rfl
 x_lowest:=FX.mk' X G (a:=89) (c:=88) (md:=md2) (by kernel_rfl) (by kernel_rfl) (by kernel_rfl) (by kernel_rfl) fun _ _ _ _ _ _ u l=>match u,l with | [_,_],_=>rfl
 x_ratio:=FX.mk' X G (a:=96) (c:=95) (md:=md2) (by kernel_rfl) (by kernel_rfl) (by kernel_rfl) (by kernel_rfl) fun _ _ _ _ _ _ u l=>match u,l with | [_,_],_=>rfl
 x_plus:=FX.mk' X G (a:=103) (c:=102) (md:=md2) (by kernel_rfl) (by kernel_rfl) (by kernel_rfl) (by kernel_rfl) fun _ _ _ _ _ _ u l=>match u,l with | [_,_],_=>rfl
 x_minus:=FX.mk' X G (a:=110) (c:=109) (md:=md2) (by kernel_rfl) (by kernel_rfl) (by kernel_rfl) (by kernel_rfl) fun _ _ _ _ _ _ u l=>match u,l with | [_,_],_=>rfl
 x_times:=FX.mk' X G (a:=117) (c:=116) (md:=md2) (by kernel_rfl) (by kernel_rfl) (by kernel_rfl) (by kernel_rfl) fun _ _ _ _ _ _ u l=>match u,l with | [_,_],_=>rfl
 x_over:=FX.mk' X G (a:=124) (c:=123) (md:=md2) (by kernel_rfl) (by kernel_rfl) (by kernel_rfl) (by kernel_rfl) fun _ _ _ _ _ _ u l=>match u,l with | [_,_],_=>rfl
 x_under:=FX.mk' X G (a:=131) (c:=130) (md:=md2) (by kernel_rfl) (by kernel_rfl) (by kernel_rfl) (by kernel_rfl) fun _ _ _ _ _ _ u l=>match u,l with | [_,_],_=>rfl
 x_sum_of:=FX.mk' X G (a:=138) (c:=137) (md:=md2) (by kernel_rfl) (by kernel_rfl) (by kernel_rfl) (by kernel_rfl) fun _ _ _ _ _ _ u l=>match u,l with | [_],_=>rfl
 x_is_cut:=FX.mk' X G (a:=145) (c:=144) (md:=md3) (by kernel_rfl) (by kernel_rfl) (by kernel_rfl) (by kernel_rfl) fun _ _ _ _ _ _ u l=>match u,l with | [_,_],_=>rfl
 x_is_within:=FX.mk' X G (a:=152) (c:=151) (md:=md3) (by kernel_rfl) (by kernel_rfl) (by kernel_rfl) (by kernel_rfl) fun _ _ _ _ _ _ u l=>match u,l with | [_,_],_=>rfl
 x_parts_places:=FX.mk' X G (a:=159) (c:=158) (md:=md3) (by kernel_rfl) (by kernel_rfl) (by kernel_rfl) (by kernel_rfl) fun _ _ _ _ _ _ u l=>match u,l with | [_,_,_],_=>rfl
 x_across:=FX.mk' X G (a:=164) (c:=163) (md:=md3) (by kernel_rfl) (by kernel_rfl) (by kernel_rfl) (by kernel_rfl) fun _ _ _ _ _ _ u l=>match u,l with | [_,_],_=>rfl
 x_rooms_of:=FX.mk' X G (a:=171) (c:=170) (md:=md3) (by kernel_rfl) (by kernel_rfl) (by kernel_rfl) (by kernel_rfl) fun _ _ _ _ _ _ u l=>match u,l with | [_,_],_=>rfl
 x_shown_by:=FX.mk' X G (a:=178) (c:=177) (md:=md3) (by kernel_rfl) (by kernel_rfl) (by kernel_rfl) (by kernel_rfl) fun _ _ _ _ _ _ u l=>match u,l with | [_,_],_=>rfl
 x_all_cuts:=FX.mk' X G (a:=183) (c:=182) (md:=md3) (by kernel_rfl) (by kernel_rfl) (by kernel_rfl) (by kernel_rfl) fun _ _ _ _ _ _ u l=>match u,l with | [_],_=>rfl
 x_greatest_cut:=FX.mk' X G (a:=190) (c:=189) (md:=md3) (by kernel_rfl) (by kernel_rfl) (by kernel_rfl) (by kernel_rfl) fun _ _ _ _ _ _ u l=>match u,l with | [_],_=>rfl
 x_ties_of:=FX.mk' X G (a:=195) (c:=194) (md:=md4) (by kernel_rfl) (by kernel_rfl) (by kernel_rfl) (by kernel_rfl) fun _ _ _ _ _ _ u l=>match u,l with | [_,_,_],_=>rfl
 x_is_over:=FX.mk' X G (a:=202) (c:=201) (md:=md4) (by kernel_rfl) (by kernel_rfl) (by kernel_rfl) (by kernel_rfl) fun _ _ _ _ _ _ u l=>match u,l with | [_,_,_,_],_=>rfl
 x_sent_over:=FX.mk' X G (a:=209) (c:=208) (md:=md5) (by kernel_rfl) (by kernel_rfl) (by kernel_rfl) (by kernel_rfl) fun _ _ _ _ _ _ u l=>match u,l with | [_,_,_,_],_=>rfl
 x_load_of:=FX.mk' X G (a:=214) (c:=213) (md:=md5) (by kernel_rfl) (by kernel_rfl) (by kernel_rfl) (by kernel_rfl) fun _ _ _ _ _ _ u l=>match u,l with | [_,_,_],_=>rfl
 x_loads_of:=FX.mk' X G (a:=219) (c:=218) (md:=md5) (by kernel_rfl) (by kernel_rfl) (by kernel_rfl) (by kernel_rfl) fun _ _ _ _ _ _ u l=>match u,l with | [_,_],_=>rfl
 x_strains_of:=FX.mk' X G (a:=224) (c:=223) (md:=md5) (by kernel_rfl) (by kernel_rfl) (by kernel_rfl) (by kernel_rfl) fun _ _ _ _ _ _ u l=>match u,l with | [_,_],_=>rfl
 x_top_of:=FX.mk' X G (a:=231) (c:=230) (md:=md5) (by kernel_rfl) (by kernel_rfl) (by kernel_rfl) (by kernel_rfl) fun _ _ _ _ _ _ u l=>match u,l with | [_,_],_=>rfl
 x_common_bottom:=FX.mk' X G (a:=243) (c:=242) (md:=md6) (by kernel_rfl) (by kernel_rfl) (by kernel_rfl) (by kernel_rfl) fun _ _ _ _ _ _ u l=>match u,l with | [_],_=>rfl
 x_in_units:=FX.mk' X G (a:=248) (c:=247) (md:=md6) (by kernel_rfl) (by kernel_rfl) (by kernel_rfl) (by kernel_rfl) fun _ _ _ _ _ _ u l=>match u,l with | [_,_],_=>rfl
 x_weighed:=FX.mk' X G (a:=236) (c:=235) (md:=md6) (by kernel_rfl) (by kernel_rfl) (by kernel_rfl) (by kernel_rfl) fun _ _ _ _ _ _ u l=>match u,l with | [_,_],_=>rfl
 x_still_across:=FX.mk' X G (a:=267) (c:=266) (md:=md7) (by kernel_rfl) (by kernel_rfl) (by kernel_rfl) (by kernel_rfl) fun _ _ _ _ _ _ u l=>match u,l with | [_,_,_,_],_=>rfl
 x_most_on:=FX.mk' X G (a:=262) (c:=261) (md:=md7) (by kernel_rfl) (by kernel_rfl) (by kernel_rfl) (by kernel_rfl) fun _ _ _ _ _ _ u l=>match u,l with | [_,_,_,_],_=>rfl
 x_left_free:=FX.mk' X G (a:=272) (c:=271) (md:=md7) (by kernel_rfl) (by kernel_rfl) (by kernel_rfl) (by kernel_rfl) fun _ _ _ _ _ _ u l=>match u,l with | [_,_,_,_,_],_=>rfl
 x_sent_one_by_one:=FX.mk' X G (a:=255) (c:=254) (md:=md7) (by kernel_rfl) (by kernel_rfl) (by kernel_rfl) (by kernel_rfl) fun _ _ _ _ _ _ u l=>match u,l with | [_,_],_=>rfl
 x_first_wrong_part:=FX.mk' X G (a:=279) (c:=278) (md:=md8) (by kernel_rfl) (by kernel_rfl) (by kernel_rfl) (by kernel_rfl) fun _ _ _ _ _ _ u l=>match u,l with | [_,_],_=>rfl
 x_is_sending:=FX.mk' X G (a:=284) (c:=283) (md:=md8) (by kernel_rfl) (by kernel_rfl) (by kernel_rfl) (by kernel_rfl) fun _ _ _ _ _ _ u l=>match u,l with | [_,_],_=>rfl
 x_least_top:=FX.mk' X G (a:=291) (c:=290) (md:=md9) (by kernel_rfl) (by kernel_rfl) (by kernel_rfl) (by kernel_rfl) fun _ _ _ _ _ _ u l=>match u,l with | [_],_=>rfl
 x_has_top:=FX.mk' X G (a:=305) (c:=304) (md:=md9) (by kernel_rfl) (by kernel_rfl) (by kernel_rfl) (by kernel_rfl) fun _ _ _ _ _ _ u l=>match u,l with | [_,_,_],_=>rfl
 x_shows_top:=FX.mk' X G (a:=312) (c:=311) (md:=md9) (by kernel_rfl) (by kernel_rfl) (by kernel_rfl) (by kernel_rfl) fun _ _ _ _ _ _ u l=>match u,l with | [_,_,_],_=>rfl
 x_lets_least:=FX.mk' X G (a:=298) (c:=297) (md:=md9) (by kernel_rfl) (by kernel_rfl) (by kernel_rfl) (by kernel_rfl) fun _ _ _ _ _ _ u l=>match u,l with | [_,_],_=>rfl
 x__law_begun:=FX.mk' X G (a:=319) (c:=318) (md:=md10) (by kernel_rfl) (by kernel_rfl) (by kernel_rfl) (by kernel_rfl) fun _ _ _ _ _ _ u l=>match u,l with | [_,_],_=>rfl
 x__law_take:=FX.mk' X G (a:=326) (c:=325) (md:=md10) (by kernel_rfl) (by kernel_rfl) (by kernel_rfl) (by kernel_rfl) fun _ _ _ _ _ _ u l=>match u,l with | [_,_],_=>rfl
 x__law_names:=FX.mk' X G (a:=345) (c:=344) (md:=md10) (by kernel_rfl) (by kernel_rfl) (by kernel_rfl) (by kernel_rfl) fun _ _ _ _ _ _ u l=>match u,l with | [_,_],_=>rfl
 x__law_low:=FX.mk' X G (a:=333) (c:=332) (md:=md10) (by kernel_rfl) (by kernel_rfl) (by kernel_rfl) (by kernel_rfl) fun _ _ _ _ _ _ u l=>match u,l with | [_,_],_=>rfl
 x__law_amount:=FX.mk' X G (a:=340) (c:=339) (md:=md10) (by kernel_rfl) (by kernel_rfl) (by kernel_rfl) (by kernel_rfl) fun _ _ _ _ _ _ u l=>match u,l with | [_,_,_],_=>rfl
 x__law_rooms:=FX.mk' X G (a:=352) (c:=351) (md:=md10) (by kernel_rfl) (by kernel_rfl) (by kernel_rfl) (by kernel_rfl) fun _ _ _ _ _ _ u l=>match u,l with | [_,_,_],_=>rfl
 x__law_ends:=FX.mk' X G (a:=359) (c:=358) (md:=md10) (by kernel_rfl) (by kernel_rfl) (by kernel_rfl) (by kernel_rfl) fun _ _ _ _ _ _ u l=>match u,l with | [_,_,_,_],_=>rfl
 x__law_ring:=FX.mk' X G (a:=366) (c:=365) (md:=md10) (by kernel_rfl) (by kernel_rfl) (by kernel_rfl) (by kernel_rfl) fun _ _ _ _ _ _ u l=>match u,l with | [_,_,_,_],_=>rfl
 x__law_whole:=FX.mk' X G (a:=448) (c:=447) (md:=md10) (by kernel_rfl) (by kernel_rfl) (by kernel_rfl) (by kernel_rfl) fun _ _ _ _ _ _ u l=>match u,l with | [_],_=>rfl
 x__law_ratio:=FX.mk' X G (a:=455) (c:=454) (md:=md10) (by kernel_rfl) (by kernel_rfl) (by kernel_rfl) (by kernel_rfl) fun _ _ _ _ _ _ u l=>match u,l with | [_],_=>rfl
 x__law_under:=FX.mk' X G (a:=401) (c:=400) (md:=md10) (by kernel_rfl) (by kernel_rfl) (by kernel_rfl) (by kernel_rfl) fun _ _ _ _ _ _ u l=>match u,l with | [_,_],_=>rfl
 x__law_is_sending:=FX.mk' X G (a:=460) (c:=459) (md:=md10) (by kernel_rfl) (by kernel_rfl) (by kernel_rfl) (by kernel_rfl) fun _ _ _ _ _ _ u l=>match u,l with | [_,_],_=>rfl
 x__law_ties:=FX.mk' X G (a:=429) (c:=428) (md:=md10) (by kernel_rfl) (by kernel_rfl) (by kernel_rfl) (by kernel_rfl) fun _ _ _ _ _ _ u l=>match u,l with | [_,_],_=>rfl
 x__law_minus:=FX.mk' X G (a:=387) (c:=386) (md:=md10) (by kernel_rfl) (by kernel_rfl) (by kernel_rfl) (by kernel_rfl) fun _ _ _ _ _ _ u l=>match u,l with | [_,_],_=>rfl
 x__law_plus:=FX.mk' X G (a:=380) (c:=379) (md:=md10) (by kernel_rfl) (by kernel_rfl) (by kernel_rfl) (by kernel_rfl) fun _ _ _ _ _ _ u l=>match u,l with | [_,_],_=>rfl
 x__law_loads:=FX.mk' X G (a:=434) (c:=433) (md:=md10) (by kernel_rfl) (by kernel_rfl) (by kernel_rfl) (by kernel_rfl) fun _ _ _ _ _ _ u l=>match u,l with | [_,_],_=>rfl
 x__law_over:=FX.mk' X G (a:=394) (c:=393) (md:=md10) (by kernel_rfl) (by kernel_rfl) (by kernel_rfl) (by kernel_rfl) fun _ _ _ _ _ _ u l=>match u,l with | [_,_],_=>rfl
 x__law_top:=FX.mk' X G (a:=441) (c:=440) (md:=md10) (by kernel_rfl) (by kernel_rfl) (by kernel_rfl) (by kernel_rfl) fun _ _ _ _ _ _ u l=>match u,l with | [_,_],_=>rfl
 x__law_apart:=FX.mk' X G (a:=408) (c:=407) (md:=md10) (by kernel_rfl) (by kernel_rfl) (by kernel_rfl) (by kernel_rfl) fun _ _ _ _ _ _ u l=>match u,l with | [_,_,_],_=>rfl
 x__law_across:=FX.mk' X G (a:=415) (c:=414) (md:=md10) (by kernel_rfl) (by kernel_rfl) (by kernel_rfl) (by kernel_rfl) fun _ _ _ _ _ _ u l=>match u,l with | [_,_],_=>rfl
 x__law_shown:=FX.mk' X G (a:=422) (c:=421) (md:=md10) (by kernel_rfl) (by kernel_rfl) (by kernel_rfl) (by kernel_rfl) fun _ _ _ _ _ _ u l=>match u,l with | [_,_],_=>rfl
 x__law_due:=FX.mk' X G (a:=467) (c:=466) (md:=md10) (by kernel_rfl) (by kernel_rfl) (by kernel_rfl) (by kernel_rfl) fun _ _ _ _ _ _ u l=>match u,l with | [_,_],_=>rfl
 x__law_right:=FX.mk' X G (a:=488) (c:=487) (md:=md10) (by kernel_rfl) (by kernel_rfl) (by kernel_rfl) (by kernel_rfl) fun _ _ _ _ _ _ u l=>match u,l with | [_,_,_],_=>rfl
 x__law_parts:=FX.mk' X G (a:=373) (c:=372) (md:=md10) (by kernel_rfl) (by kernel_rfl) (by kernel_rfl) (by kernel_rfl) fun _ _ _ _ _ _ u l=>match u,l with | [_,_],_=>rfl
 x__law_bent_parts:=FX.mk' X G (a:=474) (c:=473) (md:=md10) (by kernel_rfl) (by kernel_rfl) (by kernel_rfl) (by kernel_rfl) fun _ _ _ _ _ _ u l=>match u,l with | [_,_,_],_=>rfl
 x__law_bent:=FX.mk' X G (a:=481) (c:=480) (md:=md10) (by kernel_rfl) (by kernel_rfl) (by kernel_rfl) (by kernel_rfl) fun _ _ _ _ _ _ u l=>match u,l with | [_,_,_],_=>rfl
 x_law:=FX.mk' X G (a:=495) (c:=494) (md:=md10) (by kernel_rfl) (by kernel_rfl) (by kernel_rfl) (by kernel_rfl) fun _ _ _ _ _ _ u l=>match u,l with | [_],_=>rfl
 z_abs:=PySem.W.mg_none_of X G (by kernel_rfl)
 z_all:=PySem.W.mg_none_of X G (by kernel_rfl)
 z_bool:=PySem.W.mg_none_of X G (by kernel_rfl)
 z_enumerate:=PySem.W.mg_none_of X G (by kernel_rfl)
 z_int:=PySem.W.mg_none_of X G (by kernel_rfl)
 z_isinstance:=PySem.W.mg_none_of X G (by kernel_rfl)
 z_len:=PySem.W.mg_none_of X G (by kernel_rfl)
 z_list:=PySem.W.mg_none_of X G (by kernel_rfl)
 z_max:=PySem.W.mg_none_of X G (by kernel_rfl)
 z_min:=PySem.W.mg_none_of X G (by kernel_rfl)
 z_range:=PySem.W.mg_none_of X G (by kernel_rfl)
 z_repr:=PySem.W.mg_none_of X G (by kernel_rfl)
 z_sorted:=PySem.W.mg_none_of X G (by kernel_rfl)
 z_sum:=PySem.W.mg_none_of X G (by kernel_rfl)
 z_tuple:=PySem.W.mg_none_of X G (by kernel_rfl)
 z_zip:=PySem.W.mg_none_of X G (by kernel_rfl)
 g_NOUGHT:=DI (PySem.W.mg_of X G (v:=.ref 82) (by kernel_rfl)) (show(Hd.Kf Pm).lookup 82=some (Obj.mk (.type "tuple") none (.seq #[(.int 0 275),(.int 1 276)] 0) #[]) by kernel_rfl) ⟨_,_,[L2.V.int 0,L2.V.int 1],_,rfl,rfl,rfl,by decide,(.cons ⟨_,rfl⟩ (.cons ⟨_,rfl⟩ .nil)),fun K H=>(.cons (.int _) (.cons (.int _) .nil))⟩
 g_ON:=DJ (PySem.W.mg_of X G (v:=(.str "on" 411)) (by kernel_rfl))
theorem walkF(w:World)(mg:Str→Option Value)(fa:Addr)(h:Heap)(X:(Hd.Kf w.params).In h)(G:h.Ns mainGlobals mg) (hmg:mg "law"=some (.ref fa)) :
  ∃ fd:FuncData,(∀(s:Shared)(u:Value),BindsTo s fd ⟨[u],[]⟩ [("_law_script",u)])∧∀ base:Heap,(Hd.Kf w.params).In base→base.Ns mainGlobals mg→FnOk PySem.Challenge.pw_ringloads_k23_least_tops_let_by w (Hd.Kf w.params) mg base CX0 12 fa fd ["_law_script"] (spF (Hd.Kf w.params) 1 fs_law):=by
 have T:=tx X G
 have e:=hmg.symm.trans T.x_law.m
 cases e
 exact⟨_,fun s v=>.of_eq rfl,fun base _ _=>Jw T⟩
theorem tabR(w:World):∀x∈L2.lamNames,PySem.W.tabIn (Hd.Kf w.params) x=none∨((PyProof.Rows.recsOf Hd.q).find? fun e=>e.name == x).isSome=true:=by
 intro x hx
 simp only[L2.lamNames,List.mem_cons,List.not_mem_nil,or_false]at hx
 rcases hx with rfl|rfl|rfl
 ·
  exact .inl (by kernel_rfl)
 ·
  exact .inl (by kernel_rfl)
 ·
  exact .inl (by kernel_rfl)
theorem walk{l:PySem.W.OpenLaw}{q:Program}{loose:List Str}{XP:(Str→Option Value)→Heap→Prop}{YP:World→Heap→Prop}{d:DefRec}{K:Params→PySem.W.Frag}(hn:l.most=some 63)(hq:PyProof.Rows.importsNone q=true)(hdf:d.params.defaults=[])
  (hY:∀(w:World)(h:Heap),YP w h→(K w.params).In h) (hto:∀w:World,L2.tabsOk (K w.params)=true) (hrc:∀(w:World),∀x∈L2.lamNames,PySem.W.tabIn (K w.params) x=none∨((PyProof.Rows.recsOf q).find? fun e=>e.name == x).isSome=true)
  (F:∀(w:World)(mg:Str→Option Value)(fa:Addr)(h:Heap),(K w.params).In h→h.Ns mainGlobals mg→mg d.name=some (.ref fa) →
   ∃ fd:FuncData,(∀(s:Shared)(u:Value),BindsTo s fd ⟨[u],[]⟩ [("_law_script",u)])∧∀ base:Heap,(K w.params).In base→base.Ns mainGlobals mg→FnOk l.prog w (K w.params) mg base CX0 12 fa fd ["_law_script"] (spF (K w.params) 1 fs_law)) :
  PySem.W.WalkO q loose XP YP l.row.toRowW d [] (fun f vs=>PySem.call f vs) :=
 L2.walk_of (n:=63) (k:=12) (x:="_law_script") (CX:=fun _=>CX0) (sp:=fun w=>spF (K w.params) 1 fs_law) hn hq (by decide) hdf ⟨rfl,by decide,by decide,rfl⟩ hY hto hrc F (fun _ H a ns hl hO hS=>Bt hl hO hS (C4 hl)) fun _ _ _ _ _ z=>z
end My
open PySem PySem.W PyProof.Rows
abbrev PySem.W.Fast.tw7449624721482694866:PySem.Program:=PySem.Challenge.pw_ringloads_k23_least_tops_let_by
theorem PySem.W.Fast.te7449624721482694866:PySem.Challenge.pw_ringloads_k23_least_tops_let_by=PySem.W.Fast.tw7449624721482694866:=rfl
set_option maxRecDepth 100000 in
theorem PySem.Challenge.cw_ringloads_k23_least_tops_let_by_holds : PySem.Challenge.rw_ringloads_k23_least_tops_let_by.Holds := by
 w_on;o_law
 refine PySem.W.holds_open (q:=Hd.q) (loose:=Hd.loose) (Xt:=Hd.Xt) (XP:=XL Hd.q []) (Yf:=Hook.obs Hd.Hk) (Ya:=Hook.val Hd.Hk) (YP:=Hook.says Hd.Hk) (N:=_) Hd.left (Hook.of Hd.Hk) (Hook.keeps Hd.Hk) (fun s e=>xl_of s (Bool.and_eq_true_iff.mp e).1) XL.keeps (by rfl) (by rfl) (by rfl) (fun s e=>recFacts_of (Bool.and_eq_true_iff.mp e).2) (by rfl) (by assumption) (by decide +kernel) ⟨rfl,rfl,rfl,rfl,rfl,by decide +kernel⟩ ?hw ?hc
 case hw=>w_witness2
 case hc=>exact My.walk (l:=PySem.Challenge.rw_ringloads_k23_least_tops_let_by) (K:=Hd.Kf) rfl (by decide +kernel) rfl (fun w h Y=>PySem.W.kIn_of Y) (fun w=>by kernel_rfl) My.tabR My.walkF