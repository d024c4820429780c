import PyProof.Rows.All
import Wide.All
import OpenK.AllK
import Wide.FinOn
import Lean
import PyProof.EqAt
import PyProof.EqKinds
import PyProof.TupleCall
import PyProof.ExcArgs
import KE.KSortKey
import KE.KIsAll
import PyProof.ExcInit
import PyProof.StationsW
import PyProof.NsDelKeeps
import PyProof.RulesAs
import PyProof.PassesOwn
import PyProof.ExcBaseAll.ValueError
import PyProof.InstStoreFacts
import PyProof.Rows.EqDataRows
import PyProof.ReprRoads
import PyProof.Rows.Range3
import PyProof.ConsumeWalk
import PyProof.FString5
import PyProof.ReprLen
import PyProof.Rows.TupAdd
import PyProof.Rows.RuleIs
import PyProof.ListNew
import KE.KRevIter
import PyProof.Rows.SeqMore2
import PyProof.ListRange
import KE.KEqDict
import PyProof.NeKinds
import PyProof.CallStr
import PyProof.ListMulAny
import PyProof.Rows.SetFrom
import PyProof.SetRoads
import PySem.Challenge.RW_ringloads_k69_passages_between
set_option Elab.async false
set_option linter.all false
set_option maxRecDepth 100000
set_option maxHeartbeats 0
namespace L2
open PySem PySem.Spec PyProof.Rows
abbrev Key:=Sum Int Str
def keyIs:Key→Value→Bool
 |.inl k,v=>Value.isInt k v
 |.inr x,v=>Value.isStrOf x v
def keyH(w:World):Key→Int
 |.inl k=>hashInt k
 |.inr x=>hashStr w x
theorem keyIs_shape:∀{k:Key}{v:Value},keyIs k v=true→(∃i t,k=Sum.inl i∧v=Value.int i t)∨(∃x t,k=Sum.inr x∧v=Value.str x t)
 | .inl i,v,h=>by
  obtain⟨t,e⟩:=Value.isInt_shape (k:=i) (v:=v) h
  exact .inl ⟨i,t,rfl,e⟩
 | .inr x,v,h=>by
  obtain⟨t,e⟩:=Value.isStrOf_shape (x:=x) (v:=v) h
  exact .inr ⟨x,t,rfl,e⟩
theorem keyIs_int(i:Int)(t:Tok):keyIs (.inl i) (.int i t)=true:=by simp[keyIs,Value.isInt]
theorem keyIs_str(x:Str)(t:Tok):keyIs (.inr x) (.str x t)=true:=by simp[keyIs,Value.isStrOf]
theorem key_ll(a b:Int):decide ((Sum.inl a:Key)=Sum.inl b)=(a == b):=by
 by_cases e:a=b
 ·
  subst e;simp
 ·
  have h:¬(Sum.inl a:Key)=Sum.inl b:=fun q=>e (Sum.inl.inj q)
  rw[decide_eq_false h]
  exact(beq_eq_false_iff_ne.mpr e).symm
theorem key_rr(a b:Str):decide ((Sum.inr a:Key)=Sum.inr b)=decide (a=b):=by
 by_cases e:a=b
 ·
  subst e;simp
 ·
  have h:¬(Sum.inr a:Key)=Sum.inr b:=fun q=>e (Sum.inr.inj q)
  rw[decide_eq_false h,decide_eq_false e]
theorem key_lr(a:Int)(b:Str):decide ((Sum.inl a:Key)=Sum.inr b)=false:=decide_eq_false (fun q=>nomatch q)
theorem key_rl(a:Str)(b:Int):decide ((Sum.inr a:Key)=Sum.inl b)=false:=decide_eq_false (fun q=>nomatch q)
def mixKind(prog:Program)(w:World):PySem.KeyKind prog w Key where
 is:=keyIs
 hash:=keyH w
 inj:=fun v a b ha hb=>by
  rcases keyIs_shape ha with⟨i,t,rfl,rfl⟩|⟨x,t,rfl,rfl⟩
  ·
   rcases keyIs_shape hb with⟨j,u,rfl,e⟩|⟨y,u,rfl,e⟩
   ·
    injection e with e1 _;rw[e1]
   ·
    exact nomatch e
  ·
   rcases keyIs_shape hb with⟨j,u,rfl,e⟩|⟨y,u,rfl,e⟩
   ·
    exact nomatch e
   ·
    injection e with e1 _;rw[e1]
 byValue:=fun k v h=>by
  rcases keyIs_shape h with⟨i,t,rfl,rfl⟩|⟨x,t,rfl,rfl⟩<;>rfl
 pyHash:=fun hv h=>by
  rcases keyIs_shape hv with⟨i,t,rfl,rfl⟩|⟨x,t,rfl,rfl⟩
  ·
   exact wpAny_pyHash_int h
  ·
   exact wpAny_pyHash_str h
 eqBool:=fun hu hv h=>by
  rcases keyIs_shape hu with⟨i,t,rfl,rfl⟩|⟨x,t,rfl,rfl⟩
  ·
   rcases keyIs_shape hv with⟨j,u,rfl,rfl⟩|⟨y,u,rfl,rfl⟩
   ·
    rw[key_ll]at h;exact wpAny_eqBool_int h
   ·
    rw[key_lr]at h;exact SeqAt.EqAt.int_str i t y u _ _ _ _ h
  ·
   rcases keyIs_shape hv with⟨j,u,rfl,rfl⟩|⟨y,u,rfl,rfl⟩
   ·
    rw[key_rl]at h;exact SeqAt.EqAt.str_int x t j u _ _ _ _ h
   ·
    rw[key_rr]at h;exact wpAny_eqBool_str h
 «strs»:=fun k x t v h=>by
  rcases keyIs_shape h with⟨i,u,rfl,e⟩|⟨y,u,rfl,e⟩
  ·
   exact nomatch e
  ·
   injection e with e1 _
   subst e1
   cases v<;>rfl
theorem mixKind_int(prog:Program)(w:World)(i:Int)(t:Tok):(mixKind prog w).is (.inl i) (.int i t)=true:=keyIs_int i t
theorem mixKind_str(prog:Program)(w:World)(x:Str)(t:Tok):(mixKind prog w).is (.inr x) (.str x t)=true:=keyIs_str x t
inductive V where
 |non|bl (b:Bool)|int (i:Int)|str (x:Str)|byt (b:Array UInt8)|flt (b:UInt64)|ref (a:Addr)|ty (n:String)
 deriving DecidableEq
def RelV:V→Value→Prop
 |.non,u=>u=Value.none
 |.bl b,u=>u=Value.bool b
 |.int i,u=>∃t,u=Value.int i t
 |.str x,u=>∃t,u=Value.str x t
 |.byt b,u=>∃t,u=Value.bytes b t
 |.flt b,u=>∃t,u=Value.float b t
 |.ref a,u=>u=Value.ref a
 |.ty n,u=>u=Value.type n
abbrev Vals:List V→List Value→Prop:=Paired RelV
theorem Vals.length{xs:List V}{us:List Value}(r:Vals xs us):xs.length=us.length:=Paired.length r
theorem Vals.get:∀{xs:List V}{us:List Value}{i:Nat}{x:V},Vals xs us→xs[i]?=some x→∃u,us[i]?=some u∧RelV x u
 |_,_,_,_,.nil,e=>by simp at e
 |_,_,0,_,.cons r _,e=>by simp at e;subst e;exact⟨_,rfl,r⟩
 | _,_,i+1,x,.cons _ t,e=>by
  obtain⟨u,h1,h2⟩:=Vals.get (i:=i) (x:=x) t (by simpa using e)
  exact⟨u,by simpa using h1,h2⟩
theorem Vals.set{x:V}{u:Value}(r:RelV x u):∀{xs:List V}{us:List Value}(i:Nat),Vals xs us→Vals (xs.set i x) (us.set i u)
 |_,_,_,.nil=>.nil
 |_,_,0,.cons _ t=>.cons r t
 |_,_,i+1,.cons q t=>.cons q (Vals.set r i t)
theorem Vals.append:∀{xs ys:List V}{us ws:List Value},Vals xs us→Vals ys ws→Vals (xs++ys) (us++ws)
 |_,_,_,_,.nil,s=>s
 |_,_,_,_,.cons r t,s=>.cons r (Vals.append t s)
def RelO:Option V→Option Value→Prop
 |some v,some u=>RelV v u
 |none,none=>True
 |_,_=>False
def KV{κ:Type}:List (κ×V)→List (κ×Value)→Prop:=Paired fun (p:κ×V) (q:κ×Value)=>p.1=q.1∧RelV p.2 q.2
def kV:Key→V
 |.inl i=>.int i
 |.inr x=>.str x
inductive HO where
 |lst (xs:List V)
 |tup (xs:List V)
 |dK (kvs:List (Key×V))|dT (kvs:List (List Key×V))
 |set (S:Int→Bool) (n:Nat)
 |ins (C dx:Addr) (fs:List (Str×V))
 |own (x:Addr)
 |xd (fs:List (Str×V))
 |met (f x:Addr)
 |rng (lo hi:Int)
 |frz (o:Obj) (u:HO)
 |tbl (q:Str)
 |ext (φ:Heap→Prop)
abbrev Hp:=Addr→Option HO
def upd(H:Hp)(a:Addr)(o:HO):Hp:=fun b=>if b=a then some o else H b
theorem upd_same{H:Hp}{a:Addr}{o:HO}:upd H a o a=some o:=by unfold upd;rw[if_pos rfl]
theorem upd_ne{H:Hp}{a b:Addr}{o:HO}(h:b≠a):upd H a o b=H b:=by unfold upd;rw[if_neg h]
theorem ne_of_none{H:Hp}{a b:Addr}{o:HO}(h:H a=some o)(h':H b=none):a≠b:=by
 intro e;subst e;rw[h]at h';cases h'
def CodeOb(oc:Obj)(q:Str):Prop:=∃vs t,oc.data=.fields vs∧vs[1]?=some (.str q t)
section
variable(P:Program)(w:World)
def ObjOk(H:Hp)(h:Heap)(a:Addr):HO→Prop
 |.lst xs=>xs.length≤sizeLine∧∃(its:List Value)(n:Nat),Vals xs its∧h.get? a=some {cls:=.type "list",data:=.seq its.toArray n}
 |.tup xs=>xs.length≤sizeLine∧∃its:List Value,Vals xs its∧IsTup h a its.toArray
 |.dK kvs=>kvs.length≤sizeLine∧(a == sysModules)=false∧∃vs,KV kvs vs∧h.DictOf (mixKind P w) a vs
 | .dT kvs=>kvs.length≤sizeLine∧(a == sysModules)=false∧∃xs:List (List Key×Addr×Value),
   Paired (fun (p:List Key×V) (q:List Key×Addr×Value)=>p.1=q.1∧H q.2.1=some (.tup (p.1.map kV))∧RelV p.2 q.2.2) kvs xs ∧
   ∃o es ep,h.get? a=some o∧o.ExactDict∧o.data=.dict es ep∧es.toList=xs.map (entryOfKey (tupleKind (mixKind P w)))∧(xs.map (·.1)).Nodup
 |.set S n=>h.SetOf (intKind P w) a S n
 | .ins C dx fs=>H dx=some (.own a)∧fs.length≤1000∧dx≠a∧h.get? a=some (PySem.W.instObj C dx) ∧
   ∃mA,h.Ns1 dx mA∧(∀f,RelO (fs.lookup f) (mA f))∧PySem.Within mA (fs.map (·.1))
 |.own _=>∃o,h.get? a=some o
 |.xd fs=>∃mA,h.Ns1 a mA∧∀f,RelO (fs.lookup f) (mA f)
 |.rng lo hi=>∃ t u v,h.get? a=some {cls:=.type "range",data:=.fields #[.int lo t,.int hi u,.int 1 v] }
 |.frz o u=>h.get? a=some o∧ObjOk H h a u
 |.tbl q=>∃ps:Array Value,h.get? a=some {cls:=.none,data:=.fields ps}∧TriplesOk ps.toList∧∀pos cv,codeAmong pos ps.toList=some cv→∃c' oc,cv=.ref c'∧H c'=some (.frz oc (.own c'))∧CodeOb oc q
 |.met f x=>h.get? a=some (PySem.W.methodObj (.ref f) (.ref x))
 |.ext φ=>φ h∧(∃o,h.get? a=some o)∧∀h1 h2:Heap,φ h1→(∀o,h1.get? a=some o→h2.get? a=some o)→φ h2
def HOk(H:Hp)(h:Heap):Prop:=∀a o,H a=some o→ObjOk P w H h a o
end
section
variable{P:Program}{w:World}{H H':Hp}{h h':Heap}{a:Addr}{o:HO}
theorem ObjOk.lt(x:ObjOk P w H h a o):a<h.objs.size:=by
 cases o with
 |lst xs=>obtain⟨_,_,_,_,e⟩:=x;exact Heap.lt_size e
 |tup xs=>obtain⟨_,_,_,p⟩:=x;exact p.lt
 |dK kvs=>obtain⟨_,_,_,_,o,_,_,e,_⟩:=x;exact Heap.lt_size e
 |dT kvs=>obtain⟨_,_,_,_,o,_,_,e,_⟩:=x;exact Heap.lt_size e
 |set S n=>obtain⟨o,_,_,_,e,_⟩:=x;exact Heap.lt_size e
 |ins C dx fs=>obtain⟨_,_,_,e,_⟩:=x;exact Heap.lt_size e
 |own y=>obtain⟨_,e⟩:=x;exact Heap.lt_size e
 |xd fs=>obtain⟨_,⟨_,_,_,e,_⟩,_⟩:=x;exact Heap.lt_size e
 |rng lo hi=>obtain⟨_,_,_,e⟩:=x;exact Heap.lt_size e
 |frz ob u=>obtain⟨e,_⟩:=x;exact Heap.lt_size e
 |tbl q=>obtain⟨_,e,_⟩:=x;exact Heap.lt_size e
 |met f y=>exact Heap.lt_size (show h.get? a=some _ from x)
 |ext φ=>obtain⟨_,⟨_,e⟩,_⟩:=x;exact Heap.lt_size e
theorem Paired.mapP{α β:Type}{F G:α→β→Prop}:∀{l₁:List α}{l₂:List β},Paired F l₁ l₂→(∀a b,F a b→G a b)→Paired G l₁ l₂
 |_,_,.nil,_=>.nil
 |_,_,.cons r t,f=>.cons (f _ _ r) (Paired.mapP t f)
theorem ObjOk.stay(x:ObjOk P w H h a o)(k:∀b u,(b=a∨H b=some (.own a))→h.get? b=some u→h'.get? b=some u)
  (ho:∀b,H b=some (.own a)→H' b=some (.own a)) (ht:∀b xs,H b=some (.tup xs)→H' b=some (.tup xs)) (hf:∀b o q,CodeOb o q→H b=some (.frz o (.own b))→H' b=some (.frz o (.own b))):ObjOk P w H' h' a o:=by
 induction o with
 |lst xs=>obtain⟨z,its,n,r,e⟩:=x;exact⟨z,its,n,r,k _ _ (.inl rfl) e⟩
 |tup xs=>obtain⟨z,its,r,ob,e,c⟩:=x;exact⟨z,its,r,ob,k _ _ (.inl rfl) e,c⟩
 |dK kvs=>obtain⟨z,y,vs,r,ob,es,ep,e,c⟩:=x;exact⟨z,y,vs,r,ob,es,ep,k _ _ (.inl rfl) e,c⟩
 | dT kvs =>
  obtain⟨z,y,xs,r,ob,es,ep,e,c⟩:=x
  exact⟨z,y,xs,Paired.mapP r fun p q z=>⟨z.1,ht _ _ z.2.1,z.2.2⟩,ob,es,ep,k _ _ (.inl rfl) e,c⟩
 |set S n=>obtain⟨ob,es,ep,t,e,c⟩:=x;exact⟨ob,es,ep,t,k _ _ (.inl rfl) e,c⟩
 | ins C dx fs =>
  obtain⟨d,z,ne,e,mA,⟨od,es,ep,e2,c⟩,r⟩:=x
  exact⟨ho _ d,z,ne,k _ _ (.inl rfl) e,mA,⟨od,es,ep,k _ _ (.inr d) e2,c⟩,r⟩
 |own y=>obtain⟨ob,e⟩:=x;exact⟨ob,k _ _ (.inl rfl) e⟩
 |xd fs=>obtain⟨mA,⟨od,es,ep,e,c⟩,r⟩:=x;exact⟨mA,⟨od,es,ep,k _ _ (.inl rfl) e,c⟩,r⟩
 |rng lo hi=>obtain⟨t,u,v,e⟩:=x;exact⟨t,u,v,k _ _ (.inl rfl) e⟩
 |frz ob u ih=>obtain⟨e,q⟩:=x;exact⟨k _ _ (.inl rfl) e,ih q⟩
 | tbl q =>
  obtain⟨ps,e,tr,m⟩:=x
  exact⟨ps,k a _ (.inl rfl) e,tr,fun pos cv z=>let ⟨c',oc,a1,a2,a3⟩:=m pos cv z;⟨c',oc,a1,hf _ _ _ a3 a2,a3⟩⟩
 | met f y =>
  have e:h.get? a=some (PySem.W.methodObj (.ref f) (.ref y)):=x
  show h'.get? a=some (PySem.W.methodObj (.ref f) (.ref y))
  exact k a _ (.inl rfl) e
 |ext φ=>obtain⟨p,⟨o,e⟩,st⟩:=x;exact⟨st _ _ p fun o q=>k _ _ (.inl rfl) q,⟨o,k _ _ (.inl rfl) e⟩,st⟩
theorem HOk.lt(x:HOk P w H h)(e:H a=some o):a<h.objs.size:=(x a o e).lt
theorem HOk.fresh(x:HOk P w H h)(e:h.objs.size≤a):H a=none:=by
 cases q:H a with
 |none=>rfl
 |some u=>exact absurd (Nat.lt_of_lt_of_le (x.lt q) e) (Nat.lt_irrefl _)
theorem HOk.kept(x:HOk P w H h)(k:∀b u,h.get? b=some u→h'.get? b=some u):HOk P w H h':=fun a o e =>
 (x a o e).stay (fun b u _ q=>k b u q) (fun _ q=>q) (fun _ _ q=>q) fun _ _ _ _ q=>q
theorem HOk.laid(x:HOk P w H h)(k:∀b u,h.get? b=some u→h'.get? b=some u)(hp:h.objs.size≤a)(new:ObjOk P w (upd H a o) h' a o):HOk P w (upd H a o) h':=fun b u e=>by
 have hn:=x.fresh hp
 by_cases hb:b=a
 ·
  subst hb;rw[upd_same]at e;cases e;exact new
 ·
  rw[upd_ne hb]at e
  exact(x b u e).stay (fun c v _ q=>k c v q) (fun c q=>by rw[upd_ne (ne_of_none q hn)];exact q) (fun c xs q=>by rw[upd_ne (ne_of_none q hn)];exact q) fun c ob _ _ q=>by rw[upd_ne (ne_of_none q hn)];exact q
end
def Rd(H:Hp)(a:Addr)(u:HO):Prop:=H a=some u∨∃o,H a=some (.frz o u)
theorem Rd.ok{P:Program}{w:World}{H:Hp}{h:Heap}{a:Addr}{u:HO}(r:Rd H a u)(x:HOk P w H h):ObjOk P w H h a u:=by
 rcases r with r|⟨o,r⟩
 ·
  exact x a u r
 ·
  obtain⟨_,q⟩:=x a _ r
  exact q
def Mut:Option HO→Prop
 |some (.lst _)=>True
 |some (.dK _)=>True
 |some (.dT _)=>True
 |some (.set _ _)=>True
 |some (.ins _ _ _)=>True
 |some (.ext _)=>True
 |_=>False
section
variable{P:Program}{w:World}{H:Hp}{h h':Heap}{x e:Addr}{o':HO}
theorem HOk.write(ok:HOk P w H h)(mu:Mut (H x))(he:e=x∨H e=some (.own x))(k:∀b u,b≠e→h.get? b=some u→h'.get? b=some u)(heo:∃u,h'.get? e=some u)
  (new:ObjOk P w (upd H x o') h' x o'):HOk P w (upd H x o') h':=fun b u q=>by
 have nown:∀c y,H c=some (.own y)→c≠x:=fun c y r z=>by subst z;rw[r]at mu;exact mu
 have ntup:∀c xs,H c=some (.tup xs)→c≠x:=fun c xs r z=>by subst z;rw[r]at mu;exact mu
 have nfrz:∀c o u,H c=some (.frz o u)→c≠x:=fun c o u r z=>by subst z;rw[r]at mu;exact mu
 by_cases hb:b=x
 ·
  subst hb;rw[upd_same]at q;cases q;exact new
 ·
  rw[upd_ne hb]at q
  by_cases hbe:b=e
  ·
   have q':H b=some (.own x):=by
    rcases he with z|z
    ·
     exact absurd (hbe.trans z) hb
    ·
     rw[hbe];exact z
   rw[q]at q';cases q'
   obtain⟨v,hv⟩:=heo
   exact⟨v,by rw[hbe];exact hv⟩
  ·
   refine(ok b u q).stay (fun c v hc r=>k c v ?_ r) (fun c r=>by rw[upd_ne (nown c b r)];exact r) (fun c xs r=>by rw[upd_ne (ntup c xs r)];exact r) fun c ob _ _ r=>by rw[upd_ne (nfrz c ob _ r)];exact r
   rcases hc with rfl|hc
   ·
    exact hbe
   ·
    rintro rfl
    rcases he with z|z
    ·
     exact nown c b hc z
    ·
     rw[hc]at z;cases z;exact hb rfl
end
structure Un (fs ex:List Addr) (H H':Hp) (h h':Heap):Prop where
 keep:∀b o,h.get? b=some o→H b=none→b∉fs→b∉ex→h'.get? b=some o
 slot:∀b o,h.get? b=some o→H b=none→b∈fs→b∉ex→∃sl,h'.get? b=some {o with slots:=sl}
 free:∀b o,h.get? b=some o→H b=none→b∉ex→H' b=none
 there:∀b o,h.get? b=some o→b∉ex→∃o',h'.get? b=some o'
 tups:∀b xs,H b=some (.tup xs)→H' b=some (.tup xs)
 frzs:∀b o u,H b=some (.frz o u)→H' b=some (.frz o u)
 tbls:∀b q,H b=some (.tbl q)→H' b=some (.tbl q)
section
variable{fs fs' ex ex':List Addr}{H H1:Hp}{h h1 h':Heap}{a x e:Addr}{o:HO}
theorem Un.any(u:Un fs ex H H1 h h1){b:Addr}{ob:Obj}(q:h.get? b=some ob)(n:H b=none)(hx:b∉ex):∃sl,h1.get? b=some {ob with slots:=sl}:=by
 by_cases hb:b∈fs
 ·
  exact u.slot b ob q n hb hx
 ·
  exact⟨ob.slots,u.keep b ob q n hb hx⟩
theorem Un.kept(k:∀b u,h.get? b=some u→h'.get? b=some u):Un fs ex H H h h' :=
 ⟨fun b ob q _ _ _=>k b ob q,fun b ob q _ _ _=>⟨ob.slots,k b ob q⟩,fun _ _ _ n _=>n,fun b ob q _=>⟨ob,k b ob q⟩,fun _ _ q=>q,fun _ _ _ q=>q,fun _ _ q=>q⟩
theorem Un.refl:Un fs ex H H h h:=Un.kept fun _ _ q=>q
theorem Un.laid(k:∀b u,h.get? b=some u→h'.get? b=some u)(hp:h.objs.size≤a)(hn:H a=none):Un fs ex H (upd H a o) h h' where
 keep:=fun b u q _ _ _=>k b u q
 slot:=fun b u q _ _ _=>⟨u.slots,k b u q⟩
 free:=fun b u q n _=>by rw[upd_ne (Nat.ne_of_lt (Nat.lt_of_lt_of_le (Heap.lt_size q) hp))];exact n
 there:=fun b u q _=>⟨u,k b u q⟩
 tups:=fun b xs q=>by rw[upd_ne (ne_of_none q hn)];exact q
 frzs:=fun b u xs q=>by rw[upd_ne (ne_of_none q hn)];exact q
 tbls:=fun b ps q=>by rw[upd_ne (ne_of_none q hn)];exact q
theorem Un.write(mu:Mut (H x))(he:e=x∨H e=some (.own x))(k:∀b u,b≠e→h.get? b=some u→h'.get? b=some u)(heo:∃u,h'.get? e=some u):Un fs ex H (upd H x o) h h':=by
 have hx:∀b,H b=none→b≠x:=fun b n z=>by subst z;rw[n]at mu;exact mu
 have hb:∀b,H b=none→b≠e:=fun b n z=>by
  subst z
  rcases he with r|r
  ·
   exact hx b n r
  ·
   rw[n]at r;cases r
 have hm:∀b u,H b=some u→¬Mut (some u)→b≠x:=fun b u q nm z=>by subst z;rw[q]at mu;exact nm mu
 refine⟨fun b u q n _ _=>k b u (hb b n) q,fun b u q n _ _=>⟨u.slots,k b u (hb b n) q⟩,fun b u q n _=>by rw[upd_ne (hx b n)];exact n,fun b u q _=>?_,
  fun b xs q=>by rw[upd_ne (hm b _ q fun z=>z)];exact q,fun b u xs q=>by rw[upd_ne (hm b _ q fun z=>z)];exact q,fun b ps q=>by rw[upd_ne (hm b _ q fun z=>z)];exact q⟩
 by_cases hbe:b=e
 ·
  subst hbe;exact heo
 ·
  exact⟨u,k b u hbe q⟩
theorem Un.mono(u:Un fs ex H H1 h h1)(hs:∀b∈fs,b∈fs')(hx:∀b∈ex,b∈ex'):Un fs' ex' H H1 h h1 :=
 ⟨fun b ob q n hb he=>u.keep b ob q n (fun z=>hb (hs b z)) fun z=>he (hx b z),fun _ _ q n _ he=>u.any q n fun z=>he (hx _ z),fun b ob q n he=>u.free b ob q n fun z=>he (hx b z),fun b ob q he=>u.there b ob q fun z=>he (hx b z),u.tups,u.frzs,u.tbls⟩
end
def trk(h:Heap)(H:Hp):List Addr:=(List.range h.objs.size).filter fun a=>(H a).isSome
def hidT(h:Heap)(H:Hp):Heap:=PySem.W.hideAll h (trk h H)
theorem hidT_size(h:Heap)(H:Hp):(hidT h H).objs.size=h.objs.size:=PySem.W.hideAll_size _ _
theorem hidT_get{h:Heap}{H:Hp}{b:Addr}{o:Obj}(e:h.get? b=some o)(n:H b=none):(hidT h H).get? b=some o :=
 PySem.W.hideAll_get _ e fun hm=>by
  have q:(H b).isSome=true:=(List.mem_filter.mp hm).2
  rw[n]at q;simp at q
theorem of_hidT{h:Heap}{H:Hp}{b:Addr}{o:Obj}(e:(hidT h H).get? b=some o):h.get? b=some o∧H b=none:=by
 have e':h.get? b=some o:=PySem.W.of_hideAll (trk h H) e
 refine⟨e',?_⟩
 cases q:H b with
 |none=>rfl
 | some x =>
  have hm:b∈trk h H:=List.mem_filter.mpr ⟨List.mem_range.mpr (Heap.lt_size e'),by simp[q]⟩
  have z:(hidT h H).get? b=none:=PySem.W.hideAll_none (trk h H) hm
  rw[z]at e;cases e
def allNews(g h:Heap)(L:Addr):List (Addr×Obj):=(List.range h.objs.size).filterMap fun a=>if a=L∨(g.get? a).isSome=true then none else(h.get? a).map fun o=>(a,o)
def rest(g h:Heap)(L d:Addr):List (Addr×Obj):=(allNews g h L).filter fun p=>decide (p.1≠d)
def BMain(mg:Str→Option Value)(h:Heap):Prop:=∃ bm ob,mg "__builtins__"=some (.ref bm)∧bm≠builtinsNs∧h.get? bm=some ob∧ob.cls=.type "module"∧ob.dict=some builtinsNs∧ob.data=.plain
def lamNames:List Str:=["look_at_asks","by_lesser_place","look_at_string"]
def lamQ(x:Str):Str:=(x++".<locals>.")++"<lambda>"
def Tbs(K:PySem.W.Frag)(H:Hp):Prop:=∀x∈lamNames,∀c P,PySem.W.tabIn K x=some (c,P)→H P=some (.tbl (lamQ x))
theorem Tbs.un{K:PySem.W.Frag}{fs ex:List Addr}{H H':Hp}{h h':Heap}(t:Tbs K H)(u:Un fs ex H H' h h'):Tbs K H':=fun x hx c P e=>u.tbls _ _ (t x hx c P e)
structure Mod (K:PySem.W.Frag) (mg:Str→Option Value) (base:Heap):Prop where
 kin:K.In base
 glob:base.Ns mainGlobals mg
 blt:∃ mb,base.Ns builtinsNs mb∧∀ x:Str,x≠"__name__"→mb x=bootBuiltins x
 nolimit:base.NoLimit
 sysm:∃mm,base.Ns sysModules mm
 bmn:BMain mg base
 cds:∀x∈lamNames,∀c P,PySem.W.tabIn K x=some (c,P)→PySem.W.CodeHd base c P
/-- the context: a def's body (or a comprehension's block) running. base: fixed through the whole law;s₀,H₀: the entry;outer: the frames whose slots others may change (a def's callers);stack: all frames that run;
  ex: iterators that were made ahead of the entry and are walked here (a comprehension's);fn: the names whose cells were made at the entry (a def: all;a comprehension's block: its own);calm: not within an except suite;pn: pins that every state bears;xe: what is wanted of an exception that leaves the code -/
structure Cx where
 prog:Program
 w:World
 K:PySem.W.Frag
 mg:Str→Option Value
 base:Heap
 A:Around
 N:List Str
 s₀:Shared
 H₀:Hp
 env:Env
 outer:List Env
 stack:List Env
 ex:List Addr
 fn:Str→Bool
 calm:Bool
 pn:List (Addr×Obj)
 xe:Value→Shared→Prop
def frs(l:List Env):List Addr:=l.filterMap (·.frame)
abbrev Cx.fs(X:Cx):List Addr:=frs X.outer
def Vis(sc:Scope)(x:Str):Prop:=sc.names.lookup x=some .local∨sc.names.lookup x=some .cell∨sc.names.lookup x=some .free
def Loc(sc:Scope)(x:Str):Prop:=sc.names.lookup x=some .local∨sc.names.lookup x=some .cell
def Look(env:Env)(h:Heap)(m:Str→Option Value)(x:Str)(u:Value):Prop :=
 (env.kindOf x=some .local∧m x=some u)∨((env.kindOf x=some .cell∨env.kindOf x=some .free)∧∃c,env.cells.lookup x=some c∧h.IsCell c (some u))
structure Cx.Ok (X:Cx):Prop where
 mod:Mod X.K X.mg X.base
 kind:X.env.scope.kind=.function
 glob:X.env.globals=mainGlobals
 blt:X.env.builtins=builtinsNs
 above:X.s₀.heap.objs.size≤X.env.locals
 inj:∀x y c,X.env.cells.lookup x=some c→X.env.cells.lookup y=some c→x=y
 has:∀x,(X.env.kindOf x=some .cell∨X.env.kindOf x=some .free)→∃c,X.env.cells.lookup x=some c
 cab:∀x c,X.fn x=true→X.env.cells.lookup x=some c→X.s₀.heap.objs.size≤c
 hd:X.calm=true→X.A.handled=none
 frames:X.A.frames=some X.stack
 stk:X.stack=X.outer∨(X.stack=X.env::X.outer∧X.env.frame=some X.env.locals)
 exf:∀b∈X.ex,b≠X.env.locals∧∀x c,X.env.cells.lookup x=some c→c≠b
 bs:∀b o,X.base.get? b=some o→X.s₀.heap.get? b=some o∧X.H₀ b=none
 bsz:X.base.objs.size≤X.s₀.heap.objs.size
 noex:∀b o,X.base.get? b=some o→b∉X.ex
 exfs:∀b∈X.ex,b∉X.fs
 funs:X.s₀.heap.FunFrames X.base X.outer
 frf:∀b∈X.fs,X.H₀ b=none
 tbs:Tbs X.K X.H₀
structure Inv (X:Cx) (pins:List (Addr×Obj)) (σ:List (Option V)) (H:Hp) (s:Shared):Prop where
 ok:X.Ok
 os:s.os=X.s₀.os
 bare:AllBare s.gens
 base:Un X.fs X.ex X.H₀ H X.s₀.heap s.heap
 loc:∃m,s.heap.Ns X.env.locals m∧∀(i:Nat)(x:Str)(v:V),X.N[i]?=some x→σ[i]?=some (some v)→Vis X.env.scope x→∃u,RelV v u∧Look X.env s.heap m x u
 cell:∀x c,X.env.cells.lookup x=some c→∃v,s.heap.IsCell c v
 free:H X.env.locals=none
 freeC:∀x c,X.env.cells.lookup x=some c→H c=none∨(X.fn x=false∧∃o,H c=some (.frz o (.own c)))
 pin:∀p∈X.pn++pins,s.heap.get? p.1=some p.2∧H p.1=none∧p.1≠X.env.locals∧p.1∉X.fs∧∀v,p.2.data≠.cell v
 hok:HOk X.prog X.w H s.heap
 len:σ.length=X.N.length
section
variable{X:Cx}{pins:List (Addr×Obj)}{σ:List (Option V)}{H H':Hp}{s:Shared}{h':Heap}
theorem Cx.Ok.nofr(ok:X.Ok){b:Addr}{o:Obj}(e:X.base.get? b=some o):b∉X.fs:=fun hb=>by
 have:=(ok.funs.mem hb).1
 rw[e]at this;cases this
theorem Inv.bs(I:Inv X pins σ H s):∀b o,X.base.get? b=some o→s.heap.get? b=some o∧H b=none:=fun b o e =>
 ⟨I.base.keep b o (I.ok.bs b o e).1 (I.ok.bs b o e).2 (I.ok.nofr e) (I.ok.noex b o e),I.base.free b o (I.ok.bs b o e).1 (I.ok.bs b o e).2 (I.ok.noex b o e)⟩
theorem Inv.bk(I:Inv X pins σ H s):∀b o,X.base.get? b=some o→s.heap.get? b=some o:=fun b o e=>(I.bs b o e).1
theorem Inv.tbs(I:Inv X pins σ H s):Tbs X.K H:=I.ok.tbs.un I.base
theorem Inv.mod(I:Inv X pins σ H s):Mod X.K X.mg X.base:=I.ok.mod
theorem Inv.kIn(I:Inv X pins σ H s):X.K.In s.heap:=I.ok.mod.kin.keeps I.bk
theorem Inv.lt(I:Inv X pins σ H s):X.env.locals<s.heap.objs.size:=let ⟨_,hn,_⟩:=I.loc;hn.lt
theorem Inv.sz(I:Inv X pins σ H s):X.s₀.heap.objs.size≤s.heap.objs.size:=Nat.le_trans I.ok.above (Nat.le_of_lt I.lt)
theorem Inv.nofs(I:Inv X pins σ H s){a:Addr}(h:s.heap.objs.size≤a):a∉X.fs:=fun hb=>by
 obtain⟨_,o,ho,_⟩:=I.ok.funs.mem hb
 exact absurd (Nat.lt_of_lt_of_le (Heap.lt_size ho) (Nat.le_trans I.sz h)) (Nat.lt_irrefl _)
theorem Inv.cne(I:Inv X pins σ H s):∀x c,X.env.cells.lookup x=some c→c≠X.env.locals:=fun x c e z=>by
 obtain⟨v,o,ho,hd⟩:=I.cell x c e
 obtain⟨m,⟨o',es,ep,ho',hd',_⟩,_⟩:=I.loc
 rw[z,ho']at ho;cases ho;rw[hd']at hd;cases hd
theorem Inv.funs(I:Inv X pins σ H s):s.heap.FunFrames X.base X.outer:=by
 have all:∀(l:List Env),(∀b∈frs l,b∈X.fs)→X.s₀.heap.FunFrames X.base l→s.heap.FunFrames X.base l:=by
  intro l
  induction l with
  |nil=>intro _ _;trivial
  | cons env r ih =>
   intro hs hl
   obtain⟨hk,⟨L,o,hf,hn,ho,hd⟩,hr⟩:=hl
   have hL:L∈X.fs:=hs L (by unfold frs;rw[List.filterMap_cons,hf];exact List.mem_cons_self)
   obtain⟨sl,e⟩:=I.base.slot L o ho (I.ok.frf L hL) hL fun z=>I.ok.exfs L z hL
   exact⟨hk,⟨L,_,hf,hn,e,hd⟩,ih (fun b hb=>hs b (by unfold frs;rw[List.filterMap_cons,hf];exact List.mem_cons_of_mem _ hb)) hr⟩
 exact all X.outer (fun _ hb=>hb) I.ok.funs
theorem Inv.stack(I:Inv X pins σ H s):s.heap.FunFrames X.base X.stack:=by
 rcases I.ok.stk with e|⟨e,hf⟩
 ·
  rw[e];exact I.funs
 ·
  rw[e]
  obtain⟨m,hn,_⟩:=I.loc
  refine .cons (by rw[I.ok.kind];decide) hf hn ?_ I.funs
  exact Heap.get?_none_of_le (Nat.le_trans I.ok.bsz I.ok.above)
theorem Inv.stkSub(I:Inv X pins σ H s):∀b∈frs X.stack,b∈X.env.locals::X.fs:=fun b hb=>by
 rcases I.ok.stk with e|⟨e,hf⟩
 ·
  rw[e]at hb;exact List.mem_cons_of_mem _ hb
 ·
  rw[e]at hb
  unfold frs at hb
  rw[List.filterMap_cons,hf]at hb
  exact hb
theorem Inv.stkFree(I:Inv X pins σ H s):∀b∈frs X.stack,H b=none:=fun b hb=>by
 rcases List.mem_cons.mp (I.stkSub b hb)with e|hb
 ·
  rw[e];exact I.free
 ·
  obtain⟨_,o,ho,_⟩:=I.ok.funs.mem hb
  exact I.base.free b o ho (I.ok.frf b hb) fun z=>I.ok.exfs b z hb
theorem Inv.step{g':Array GenState}{t':Nat}{d':Drawn}{ch:List Addr}(I:Inv X pins σ H s)
  (hch:∀b∈ch,(b∈X.ex∨X.s₀.heap.objs.size≤b)∧b≠X.env.locals∧(∀x c,X.env.cells.lookup x=some c→c≠b)∧∀p∈X.pn++pins,p.1≠b)
  (keep:∀b o,b≠X.env.locals→b∉X.fs→b∉ch→s.heap.get? b=some o→H b=none→h'.get? b=some o)
  (slot:∀b o,b≠X.env.locals→b∈X.fs→b∉ch→s.heap.get? b=some o→H b=none→∃sl,h'.get? b=some {o with slots:=sl}) (free:∀b o,b∉ch→s.heap.get? b=some o→H b=none→H' b=none)
  (there:∀b o,b∉ch→s.heap.get? b=some o→∃o',h'.get? b=some o')
  (tups:∀b xs,H b=some (.tup xs)→H' b=some (.tup xs)) (frzs:∀b o u,H b=some (.frz o u)→H' b=some (.frz o u)) (tbls:∀b q,H b=some (.tbl q)→H' b=some (.tbl q))
  (ns:∀m,s.heap.Ns X.env.locals m→h'.Ns X.env.locals m) (hok:HOk X.prog X.w H' h') (hg:AllBare g') :
  Inv X pins σ H' {s with heap:=h',gens:=g',drawn:=d',toks:=t' }:=by
 have neL:∀b o,X.s₀.heap.get? b=some o→b≠X.env.locals:=fun b o e=>Nat.ne_of_lt (Nat.lt_of_lt_of_le (Heap.lt_size e) I.ok.above)
 have neC:∀b o,X.s₀.heap.get? b=some o→b∉X.ex→b∉ch:=fun b o e hx hb=>by
  rcases(hch b hb).1 with z|z
  ·
   exact hx z
  ·
   exact absurd (Nat.lt_of_lt_of_le (Heap.lt_size e) z) (Nat.lt_irrefl _)
 have cellK:∀x c,X.env.cells.lookup x=some c→∀v,s.heap.IsCell c v→h'.IsCell c v:=fun x c e v ⟨o,ho,hd⟩=>by
  have nch:c∉ch:=fun z=>(hch c z).2.2.1 x c e rfl
  rcases I.freeC x c e with hn|⟨_,o2,hz⟩
  ·
   by_cases hc:c∈X.fs
   ·
    obtain⟨sl,q⟩:=slot c o (I.cne x c e) hc nch ho hn
    exact⟨_,q,hd⟩
   ·
    exact⟨o,keep c o (I.cne x c e) hc nch ho hn,hd⟩
  ·
   have e1:=(I.hok c _ hz).1
   rw[ho]at e1;cases e1
   exact⟨o,(hok c _ (frzs c _ _ hz)).1,hd⟩
 refine⟨I.ok,I.os,hg,⟨fun b o e n hb hx=>?_,fun b o e n hb hx=>?_,fun b o e n hx=>?_,fun b o e hx=>?_,fun b xs e=>tups b xs (I.base.tups b xs e),fun b o xs e=>frzs b o xs (I.base.frzs b o xs e),fun b ps e=>?_⟩,?_,fun x c e=>?_,?_,fun x c e=>?_,fun p hp=>?_,hok,I.len⟩
 ·
  exact keep b o (neL b o e) hb (neC b o e hx) (I.base.keep b o e n hb hx) (I.base.free b o e n hx)
 ·
  obtain⟨sl,e1⟩:=I.base.slot b o e n hb hx
  obtain⟨sl',e2⟩:=slot b _ (neL b o e) hb (neC b o e hx) e1 (I.base.free b o e n hx)
  exact⟨sl',e2⟩
 ·
  obtain⟨o',e1⟩:=I.base.there b o e hx
  exact free b o' (neC b o e hx) e1 (I.base.free b o e n hx)
 ·
  obtain⟨o',e1⟩:=I.base.there b o e hx
  exact there b o' (neC b o e hx) e1
 ·
  exact tbls b ps (I.base.tbls b ps e)
 ·
  obtain⟨m,hn,hl⟩:=I.loc
  refine⟨m,ns m hn,fun i x v e1 e2 e3=>?_⟩
  obtain⟨u,r,l⟩:=hl i x v e1 e2 e3
  refine⟨u,r,?_⟩
  rcases l with l|⟨k,c,e,z⟩
  ·
   exact .inl l
  ·
   exact .inr ⟨k,c,e,cellK x c e _ z⟩
 ·
  obtain⟨v,z⟩:=I.cell x c e
  exact⟨v,cellK x c e v z⟩
 ·
  obtain⟨m,⟨o,_,_,ho,_⟩,_⟩:=I.loc
  exact free _ o (fun z=>(hch _ z).2.1 rfl) ho I.free
 ·
  obtain⟨v,o,ho,hd⟩:=I.cell x c e
  rcases I.freeC x c e with hn|⟨hf,o2,hz⟩
  ·
   exact .inl (free c o (fun z=>(hch c z).2.2.1 x c e rfl) ho hn)
  ·
   exact .inr ⟨hf,o2,frzs c _ _ hz⟩
 ·
  obtain⟨e,n,ne,nf,d⟩:=I.pin p hp
  have nch:p.1∉ch:=fun z=>(hch p.1 z).2.2.2 p hp rfl
  exact⟨keep p.1 p.2 ne nf nch e n,free p.1 p.2 nch e n,ne,nf,d⟩
theorem Inv.un{t':Nat}(I:Inv X pins σ H s)(u:Un X.fs [] H H' s.heap h')(hok:HOk X.prog X.w H' h'):Inv X pins σ H' {s with heap:=h',toks:=t' }:=by
 obtain⟨m,⟨o,es,ep,ho,r⟩,_⟩:=id I.loc
 obtain⟨sl,hL⟩:=u.any ho I.free (by simp)
 exact I.step (g':=s.gens) (d':=s.drawn) (ch:=[]) (fun _ z=>nomatch z) (fun b o _ hb _ e n=>u.keep b o e n hb (by simp)) (fun b o _ hb _ e n=>u.slot b o e n hb (by simp)) (fun b o _ e n=>u.free b o e n (by simp)) (fun b o _ e=>u.there b o e (by simp)) u.tups u.frzs u.tbls (fun m' hm=>by
  obtain⟨o',es',ep',ho',r'⟩:=hm
  rw[ho]at ho';cases ho'
  exact⟨_,es',ep',hL,r'⟩) hok I.bare
theorem Inv.call{g':Array GenState}{t':Nat}{d':Drawn}{ch:List Addr}(I:Inv X pins σ H s)(u:Un (frs X.stack) ch H H' s.heap h')(hok:HOk X.prog X.w H' h')(hg:AllBare g')
  (hch:∀b∈ch,(b∈X.ex∨X.s₀.heap.objs.size≤b)∧b≠X.env.locals∧(∀x c,X.env.cells.lookup x=some c→c≠b)∧∀p∈X.pn++pins,p.1≠b) :
  Inv X pins σ H' {s with heap:=h',gens:=g',drawn:=d',toks:=t' }:=by
 obtain⟨m,⟨o,es,ep,ho,r⟩,_⟩:=id I.loc
 obtain⟨sl,hL⟩:=u.any ho I.free fun z=>(hch _ z).2.1 rfl
 exact I.step (ch:=ch) hch (fun b o hL hb hc e n=>u.keep b o e n (fun z=>(List.mem_cons.mp (I.stkSub b z)).elim hL hb) hc) (fun b o _ _ hc e n=>u.any e n hc) (fun b o hc e n=>u.free b o e n hc) (fun b o hc e=>u.there b o e hc) u.tups u.frzs u.tbls (fun m' hm=>by
  obtain⟨o',es',ep',ho',r'⟩:=hm
  rw[ho]at ho';cases ho'
  exact⟨_,es',ep',hL,r'⟩) hok hg
theorem Inv.turned{t':Nat}{it:Addr}(I:Inv X pins σ H s)(k:∀b o,b≠it→s.heap.get? b=some o→h'.get? b=some o)(hn:H it=none)(hL:it≠X.env.locals)
  (h1:it∈X.ex∨X.s₀.heap.objs.size≤it) (h2:∀x c,X.env.cells.lookup x=some c→c≠it) (h3:∀p∈X.pn++pins,p.1≠it):Inv X pins σ H {s with heap:=h',toks:=t' }:=by
 have nit:∀b u,H b=some u→b≠it:=fun b u e z=>by rw[z,hn]at e;cases e
 refine I.step (g':=s.gens) (d':=s.drawn) (ch:=[it]) (fun b hb=>?_) (fun b o _ _ hc e _=>k b o (fun z=>hc (by simp[z])) e) (fun b o _ _ hc e _=>⟨o.slots,k b o (fun z=>hc (by simp[z])) e⟩) (fun _ _ _ _ n=>n)
  (fun b o hc e=>⟨o,k b o (fun z=>hc (by simp[z])) e⟩) (fun _ _ e=>e) (fun _ _ _ e=>e) (fun _ _ e=>e) (fun m hm=>?_) (fun b u e=>?_) I.bare
 ·
  have e:b=it:=by simpa using hb
  subst e
  exact⟨h1,hL,h2,h3⟩
 ·
  obtain⟨o,es,ep,ho,r⟩:=hm
  exact⟨o,es,ep,k _ o (Ne.symm hL) ho,r⟩
 ·
  refine(I.hok b u e).stay (fun c v hc q=>k c v ?_ q) (fun _ q=>q) (fun _ _ q=>q) fun _ _ _ _ q=>q
  rcases hc with z|z
  ·
   rw[z];exact nit b u e
  ·
   exact nit c _ z
theorem Inv.tok(I:Inv X pins σ H s)(t:Nat):Inv X pins σ H {s with toks:=t}:=I.un (h':=s.heap) (t':=t) Un.refl I.hok
theorem Inv.kept{t':Nat}(I:Inv X pins σ H s)(k:∀b u,s.heap.get? b=some u→h'.get? b=some u):Inv X pins σ H {s with heap:=h',toks:=t' }:=I.un (Un.kept k) (I.hok.kept k)
theorem Inv.laid{a:Addr}{o:HO}{t':Nat}(I:Inv X pins σ H s)(k:∀b u,s.heap.get? b=some u→h'.get? b=some u)(hp:s.heap.objs.size≤a)(new:ObjOk X.prog X.w (upd H a o) h' a o) :
  Inv X pins σ (upd H a o) {s with heap:=h',toks:=t' }:=I.un (Un.laid k hp (I.hok.fresh hp)) (I.hok.laid k hp new)
theorem Inv.write{x e:Addr}{o:HO}{t':Nat}(I:Inv X pins σ H s)(mu:Mut (H x))(he:e=x∨H e=some (.own x))(k:∀b u,b≠e→s.heap.get? b=some u→h'.get? b=some u)(heo:∃u,h'.get? e=some u)
  (new:ObjOk X.prog X.w (upd H x o) h' x o):Inv X pins σ (upd H x o) {s with heap:=h',toks:=t' }:=I.un (Un.write mu he k heo) (I.hok.write mu he k heo new)
theorem Inv.pins_of{pins':List (Addr×Obj)}(I:Inv X pins σ H s)(h:∀p∈pins',s.heap.get? p.1=some p.2∧H p.1=none∧p.1≠X.env.locals∧p.1∉X.fs∧∀v,p.2.data≠.cell v):Inv X pins' σ H s :=
 ⟨I.ok,I.os,I.bare,I.base,I.loc,I.cell,I.free,I.freeC,fun p hp=>(List.mem_append.mp hp).elim (fun z=>I.pin p (List.mem_append_left _ z)) (h p),I.hok,I.len⟩
theorem nodup_ix{N:List Str}(hN:N.Nodup){i j:Nat}{x:Str}(a:N[i]?=some x)(b:N[j]?=some x):i=j:=by
 obtain⟨h1,e1⟩:=List.getElem?_eq_some_iff.mp a
 obtain⟨h2,e2⟩:=List.getElem?_eq_some_iff.mp b
 exact(List.getElem_inj hN).mp (e1.trans e2.symm)
theorem store_ok2{M:Model}{A:Around}{E:Value→Shared→Prop}{i:Nat}{x:Str}{v:V}{u:Value}{Q:Unit→Shared→Prop}(I:Inv X pins σ H s)(hN:X.N.Nodup)(hi:X.N[i]?=some x)(hx:Loc X.env.scope x)(r:RelV v u)
  (h:∀s',Inv X pins (σ.set i (some v)) H s'→(∃a,Heap.SameBut a s.heap s'.heap∧(a=X.env.locals∨X.env.cells.lookup x=some a))→Q () s') (hf:X.fn x=true∨X.env.scope.names.lookup x=some .local:=by first|exact .inl rfl|exact .inr rfl|assumption):wpAny M A (storeName X.env x u) Q E s:=by
 obtain⟨m,hn,hl⟩:=id I.loc
 have hcls:(X.env.scope.kind == .class ||(X.env.scope.kind == .module && X.env.locals != X.env.globals))=false:=by rw[I.ok.kind];rfl
 have hiσ:i<σ.length:=by rw[I.len];exact(List.getElem?_eq_some_iff.mp hi).1
 have cne:=I.cne
 have tracked:∀{a:Addr}{h':Heap},(∃o,s.heap.get? a=some o∧H a=none)→Heap.SameBut a s.heap h'→HOk X.prog X.w H h':=fun {a h'} ha hs b ob e=>by
  obtain⟨_,_,hfree⟩:=ha
  refine(I.hok b ob e).stay (fun c w' hc q=>(hs.2 c ?_).trans q) (fun _ q=>q) (fun _ _ q=>q) fun _ _ _ _ q=>q
  rintro rfl
  rcases hc with rfl|hc
  ·
   rw[hfree]at e;cases e
  ·
   rw[hfree]at hc;cases hc
 rcases hx with hk|hk
 ·
  refine wpAny_storeName_local hk hn (fun h' hn' hs=>?_) hcls
  obtain⟨oL,_,_,hoL,_⟩:=id hn
  refine h _ ⟨I.ok,I.os,I.bare,⟨fun b o e n hb hx=>?_,fun b o e n hb hx=>?_,I.base.free,fun b o e hx=>?_,I.base.tups,I.base.frzs,I.base.tbls⟩,⟨_,hn',fun j y v' e1 e2 e3=>?_⟩,fun y c e=>?_,I.free,I.freeC,fun p hp=>?_,tracked ⟨oL,hoL,I.free⟩ hs,by simpa using I.len⟩ ⟨_,hs,.inl rfl⟩
  ·
   exact(hs.2 b (Nat.ne_of_lt (Nat.lt_of_lt_of_le (Heap.lt_size e) I.ok.above))).trans (I.base.keep b o e n hb hx)
  ·
   obtain⟨sl,e1⟩:=I.base.slot b o e n hb hx
   exact⟨sl,(hs.2 b (Nat.ne_of_lt (Nat.lt_of_lt_of_le (Heap.lt_size e) I.ok.above))).trans e1⟩
  ·
   obtain⟨o',e1⟩:=I.base.there b o e hx
   exact⟨o',(hs.2 b (Nat.ne_of_lt (Nat.lt_of_lt_of_le (Heap.lt_size e) I.ok.above))).trans e1⟩
  ·
   by_cases hj:j=i
   ·
    subst hj
    rw[hi]at e1;cases e1
    rw[List.getElem?_set_self hiσ]at e2
    cases e2
    exact⟨u,r,.inl ⟨hk,by simp⟩⟩
   ·
    rw[List.getElem?_set_ne (Ne.symm hj)]at e2
    obtain⟨u',r',q⟩:=hl j y v' e1 e2 e3
    refine⟨u',r',?_⟩
    rcases q with⟨k,e⟩|⟨k,c,e,z⟩
    ·
     refine .inl ⟨k,?_⟩
     have:y≠x:=fun e=>hj (nodup_ix hN e1 (e ▸ hi))
     simp[this,e]
    ·
     exact .inr ⟨k,c,e,z.sameBut hs (cne y c e)⟩
  ·
   obtain⟨w',z⟩:=I.cell y c e
   exact⟨w',z.sameBut hs (cne y c e)⟩
  ·
   obtain⟨e,n,ne,nf,d⟩:=I.pin p hp
   exact⟨(hs.2 p.1 ne).trans e,n,ne,nf,d⟩
 ·
  have hfn:X.fn x=true:=by
   rcases hf with z|z
   ·
    exact z
   ·
    rw[z]at hk;cases hk
  obtain⟨c,hc⟩:=I.ok.has x (.inl hk)
  obtain⟨w',z⟩:=I.cell x c hc
  refine wpAny_storeName_cell I.ok.kind hk hc z (fun h' hc' hs=>?_)
  obtain⟨oc,hoc,hocd⟩:=id z
  refine h {s with heap:=h' } ⟨I.ok,I.os,I.bare,⟨fun b o e n hb hx=>?_,fun b o e n hb hx=>?_,I.base.free,fun b o e hx=>?_,I.base.tups,I.base.frzs,I.base.tbls⟩,⟨m,hn.sameBut hs (Ne.symm (cne x c hc)),fun j y v' e1 e2 e3=>?_⟩,fun y c' e=>?_,I.free,I.freeC,fun p hp=>?_,tracked ⟨oc,hoc,(I.freeC x c hc).resolve_right fun z=>by rw[hfn]at z;exact absurd z.1 (by decide)⟩ hs,by simpa using I.len⟩ ⟨c,hs,.inr hc⟩
  ·
   exact(hs.2 b (Nat.ne_of_lt (Nat.lt_of_lt_of_le (Heap.lt_size e) (I.ok.cab x c hfn hc)))).trans (I.base.keep b o e n hb hx)
  ·
   obtain⟨sl,e1⟩:=I.base.slot b o e n hb hx
   exact⟨sl,(hs.2 b (Nat.ne_of_lt (Nat.lt_of_lt_of_le (Heap.lt_size e) (I.ok.cab x c hfn hc)))).trans e1⟩
  ·
   obtain⟨o',e1⟩:=I.base.there b o e hx
   exact⟨o',(hs.2 b (Nat.ne_of_lt (Nat.lt_of_lt_of_le (Heap.lt_size e) (I.ok.cab x c hfn hc)))).trans e1⟩
  ·
   by_cases hj:j=i
   ·
    subst hj
    rw[hi]at e1;cases e1
    rw[List.getElem?_set_self hiσ]at e2
    cases e2
    exact⟨u,r,.inr ⟨.inl hk,c,hc,hc'⟩⟩
   ·
    rw[List.getElem?_set_ne (Ne.symm hj)]at e2
    obtain⟨u',r',q⟩:=hl j y v' e1 e2 e3
    refine⟨u',r',?_⟩
    rcases q with q|⟨k,c',e,z'⟩
    ·
     exact .inl q
    ·
     refine .inr ⟨k,c',e,z'.sameBut hs ?_⟩
     rintro rfl
     exact hj (nodup_ix hN e1 (I.ok.inj _ _ _ e hc ▸ hi))
  ·
   by_cases hcc:c'=c
   ·
    subst hcc;exact⟨_,hc'⟩
   ·
    obtain⟨w2,z2⟩:=I.cell y c' e
    exact⟨w2,z2.sameBut hs hcc⟩
  ·
   obtain⟨e,n,ne,nf,d⟩:=I.pin p hp
   refine⟨(hs.2 p.1 ?_).trans e,n,ne,nf,d⟩
   intro q
   rw[q,hoc]at e
   have q':oc=p.2:=Option.some.inj e
   exact d w' (by rw[← q'];exact hocd)
theorem store_ok{M:Model}{A:Around}{E:Value→Shared→Prop}{i:Nat}{x:Str}{v:V}{u:Value}{Q:Unit→Shared→Prop}(I:Inv X pins σ H s)(hN:X.N.Nodup)(hi:X.N[i]?=some x)(hx:Loc X.env.scope x)(r:RelV v u)
  (h:∀s',Inv X pins (σ.set i (some v)) H s'→Q () s') (hf:X.fn x=true∨X.env.scope.names.lookup x=some .local:=by first|exact .inl rfl|exact .inr rfl|assumption):wpAny M A (storeName X.env x u) Q E s :=
 store_ok2 I hN hi hx r (fun s' I' _=>h s' I') hf
theorem Inv.call'{s':Shared}{ch:List Addr}(I:Inv X pins σ H s)(ho:s'.os=s.os)(u:Un (frs X.stack) ch H H' s.heap s'.heap)(hok:HOk X.prog X.w H' s'.heap)(hg:AllBare s'.gens)
  (hch:∀b∈ch,(b∈X.ex∨X.s₀.heap.objs.size≤b)∧b≠X.env.locals∧(∀x c,X.env.cells.lookup x=some c→c≠b)∧∀p∈X.pn++pins,p.1≠b):Inv X pins σ H' s':=by
 obtain⟨h',g',d',t',o'⟩:=s'
 have e:o'=s.os:=ho
 subst e
 exact I.call (g':=g') (t':=t') (d':=d') u hok hg hch
end
abbrev XK:=Value→Option Addr→Hp→Prop
abbrev St:=List (Option V)
abbrev VK:=V→Hp→Prop
abbrev TE:=St→Hp→VK→Prop
abbrev TT:=St→Hp→(Bool→Hp→Prop)→Prop
abbrev TA:=St→Hp→(List V→Hp→Prop)→Prop
structure Ends where
 nx:St→Hp→Prop
 rt:VK
 bk:St→Hp→Prop:=fun _ _=>False
 ct:St→Hp→Prop:=fun _ _=>False
abbrev TS:=Ends→St→Hp→Prop
def EP(X:Cx)(pins:List (Addr×Obj))(σ:St)(Q:VK)(u:Value)(s':Shared):Prop:=∃v H',Inv X pins σ H' s'∧RelV v u∧Q v H'
def TP(X:Cx)(pins:List (Addr×Obj))(σ:St)(Q:Bool→Hp→Prop)(b:Bool)(s':Shared):Prop:=∃H',Inv X pins σ H' s'∧Q b H'
def AP(X:Cx)(pins:List (Addr×Obj))(σ:St)(Q:List V→Hp→Prop)(us:List Value)(s':Shared):Prop:=∃vs H',Inv X pins σ H' s'∧Vals vs us∧Q vs H'
def SP(X:Cx)(pins:List (Addr×Obj))(D:Ends)(f:Flow)(s':Shared):Prop :=
 match f with
 |.next=>∃σ' H',Inv X pins σ' H' s'∧D.nx σ' H'
 |.brk=>∃σ' H',Inv X pins σ' H' s'∧D.bk σ' H'
 |.cont=>∃σ' H',Inv X pins σ' H' s'∧D.ct σ' H'
 |.ret u=>∃v σ' H',Inv X pins σ' H' s'∧RelV v u∧D.rt v H'
def PE(X:Cx)(e:Expr)(t:TE):Prop :=
 ∀(pins:List (Addr×Obj))(s:Shared)(σ:St)(H:Hp)(Q:VK),Inv X pins σ H s→t σ H Q→wpAny (model X.prog X.w) X.A (eval e X.env) (EP X pins σ Q) X.xe s
def PT(X:Cx)(e:Expr)(t:TT):Prop :=
 ∀(pins:List (Addr×Obj))(s:Shared)(σ:St)(H:Hp)(Q:Bool→Hp→Prop),Inv X pins σ H s→t σ H Q→wpAny (model X.prog X.w) X.A (isTrue e X.env (eval e X.env)) (TP X pins σ Q) X.xe s
def PA(X:Cx)(es:List Expr)(t:TA):Prop :=
 ∀(pos:Pos)(pins:List (Addr×Obj))(s:Shared)(σ:St)(H:Hp)(Q:List V→Hp→Prop),Inv X pins σ H s→t σ H Q→wpAny (model X.prog X.w) X.A (spliced (backTo pos (starEach es X.env))) (AP X pins σ Q) X.xe s
def PS(X:Cx)(st:Stmt)(t:TS):Prop :=
 ∀(pins:List (Addr×Obj))(s:Shared)(σ:St)(H:Hp)(D:Ends),Inv X pins σ H s→t D σ H→wpAny (model X.prog X.w) X.A (exec st X.env) (SP X pins D) X.xe s
def PSs(X:Cx)(st:List Stmt)(t:TS):Prop :=
 ∀(pins:List (Addr×Obj))(s:Shared)(σ:St)(H:Hp)(D:Ends),Inv X pins σ H s→t D σ H→wpAny (model X.prog X.w) X.A (execs st X.env) (SP X pins D) X.xe s
theorem thn{α:Type}{t:Sem α}{Q Q':α→Shared→Prop}{M:Model}{A:Around}{E:Value→Shared→Prop}{s:Shared}(h:wpAny M A t Q E s)(hQ:∀a s,Q a s→Q' a s):wpAny M A t Q' E s:=wpAny_mono h hQ fun _ _ x=>x
section
variable{X:Cx}
theorem bin{a b:Expr}{ta tb:TE}(ha:PE X a ta)(hb:PE X b tb){pins:List (Addr×Obj)}{s:Shared}{σ:St}{H:Hp}{R:V→V→Hp→Prop}(I:Inv X pins σ H s)(h:ta σ H fun x H1=>tb σ H1 fun y H2=>R x y H2)
  {α:Type} {Q:α→Shared→Prop} {f:Value→Value→Sem α}
  (hf:∀v u s2 x y H2,Inv X pins σ H2 s2→RelV x v→RelV y u→R x y H2→wpAny (model X.prog X.w) X.A (f v u) Q X.xe s2) :
  wpAny (model X.prog X.w) X.A (eval a X.env) (fun v s₁=>wpAny (model X.prog X.w) X.A (eval b X.env) (fun u s₂=>wpAny (model X.prog X.w) X.A (f v u) Q X.xe s₂) X.xe s₁) X.xe s:=by
 refine thn (ha pins s σ H _ I h) fun v s1 ⟨x,H1,I1,r1,q1⟩=>?_
 refine thn (hb pins s1 σ H1 _ I1 q1) fun u s2 ⟨y,H2,I2,r2,q2⟩=>?_
 exact hf v u s2 x y H2 I2 r1 r2 q2
def tVar(i:Nat):TE:=fun σ H Q=>∃v,σ[i]?=some (some v)∧Q v H
def tC(v:V):TE:=fun _ H Q=>Q v H
theorem pe_var{i:Nat}{x:Str}{pos:Pos}(hN:X.N[i]?=some x)(hv:Vis X.env.scope x) (hd:(x == ("__debug__" : Str))=false:=by decide) (hcd:(x == ("__classdict__" : Str))=false:=by decide):PE X (.Name x pos) (tVar i):=by
 intro pins s σ H Q I h
 obtain⟨v,e,h⟩:=h
 obtain⟨m,hn,hl⟩:=I.loc
 obtain⟨u,r,l⟩:=hl i x v hN e hv
 have fin:EP X pins σ Q u s:=⟨v,H,I,r,h⟩
 rcases l with⟨hk,hm⟩|⟨hk,c,hc,hcell⟩
 ·
  exact wpAny_Name (wpAny_loadName_local I.ok.kind hk hn hm fin) hd
 ·
  rcases hk with hk|hk
  ·
   exact wpAny_Name (wpAny_loadName_cell I.ok.kind hk hc hcell fin) hd
  ·
   exact wpAny_Name (wpAny_loadName_free I.ok.kind hk hc hcell fin hcd) hd
theorem pe_int {i j pos}:PE X (.Constant (.int i) j pos) (tC (.int i)):=fun _ _ _ H _ I h=>wpAny_Constant_int ⟨.int i,H,I.tok _,⟨_,rfl⟩,h⟩
theorem pe_bl {b j pos}:PE X (.Constant (.bool b) j pos) (tC (.bl b)):=fun _ _ _ H _ I h=>Constant_bool ⟨.bl b,H,I,rfl,h⟩
theorem pe_non {j pos}:PE X (.Constant .none j pos) (tC .non):=fun _ _ _ H _ I h=>Constant_none ⟨.non,H,I,rfl,h⟩
def Gl(X:Cx)(x:Str):Prop:=X.env.kindOf x=some .globalImplicit
theorem ld_glob{E:Value→Shared→Prop}{pins:List (Addr×Obj)}{s:Shared}{σ:St}{H:Hp}{x:Str}{u:Value}{pos:Pos}{Q:Value→Shared→Prop}(I:Inv X pins σ H s)(hg:Gl X x)(hm:X.mg x=some u)(h:Q u s)
  (hd:(x == ("__debug__" : Str))=false:=by decide):wpAny (model X.prog X.w) X.A (eval (.Name x pos) X.env) Q E s :=
 Calls.Name_function_global I.ok.kind hg (Calls.loadGlobal_global (by rw[I.ok.glob];exact I.mod.glob.keeps I.bk) hm h) hd
theorem ld_blt{E:Value→Shared→Prop}{pins:List (Addr×Obj)}{s:Shared}{σ:St}{H:Hp}{x:Str}{u:Value}{pos:Pos}{Q:Value→Shared→Prop}(I:Inv X pins σ H s)(hg:Gl X x)(hm:X.mg x=none)(hv:bootBuiltins x=some u)(h:Q u s)
  (hn:x≠"__name__":=by decide) (hd:(x == ("__debug__" : Str))=false:=by decide):wpAny (model X.prog X.w) X.A (eval (.Name x pos) X.env) Q E s:=by
 obtain⟨mb,h1,h2⟩:=I.mod.blt
 exact Calls.Name_function_global I.ok.kind hg (Calls.loadGlobal_builtin (by rw[I.ok.glob];exact I.mod.glob.keeps I.bk) hm (by rw[I.ok.blt];exact h1.keeps I.bk) ((h2 x hn).trans hv) h) hd
theorem pe_bltn{x:Str}{v:V}{u:Value}{pos:Pos}(hg:Gl X x)(hm:X.mg x=none)(hv:bootBuiltins x=some u)(r:RelV v u) (hn:x≠"__name__":=by decide) (hd:(x == ("__debug__" : Str))=false:=by decide):PE X (.Name x pos) (tC v) :=
 fun _ _ _ H _ I h=>ld_blt I hg hm hv ⟨v,H,I,r,h⟩ hn hd
variable{a b:Expr}{ta tb:TE}{pos:Pos}
def tB(t:TE):TT:=fun σ H Q=>t σ H fun x H1=>∃c,x=.bl c∧Q c H1
end
def SqL(K:PySem.W.Frag)(H:Hp)(a:Addr)(xs:List V):Prop :=
 Rd H a (.lst xs) ∨
  ∃(o:Obj)(its:Array Value)(n:Nat),K.lookup a=some o∧o.cls=.type "list"∧o.dict=none∧o.data=.seq its n∧its.size≤sizeLine∧Vals xs its.toList
def SqT(K:PySem.W.Frag)(H:Hp)(a:Addr)(xs:List V):Prop :=
 Rd H a (.tup xs) ∨
  ∃(o:Obj)(its:Array Value)(n:Nat),K.lookup a=some o∧o.cls=.type "tuple"∧o.data=.seq its n∧its.size≤sizeLine∧Vals xs its.toList
def absV:Value→Option V
 |.none=>some .non
 |.bool b=>some (.bl b)
 |.int i _=>some (.int i)
 |.str x _=>some (.str x)
 |.bytes b _=>some (.byt b)
 |.float b _=>some (.flt b)
 |.ref a=>some (.ref a)
 |.type n=>some (.ty n)
 |_=>none
theorem RelV.abs{x:V}{u:Value}(r:RelV x u):absV u=some x:=by
 cases x with
 |non=>cases r;rfl
 |bl _=>cases r;rfl
 |int _=>obtain⟨t,rfl⟩:=r;rfl
 |str _=>obtain⟨t,rfl⟩:=r;rfl
 |byt _=>obtain⟨t,rfl⟩:=r;rfl
 |flt _=>obtain⟨t,rfl⟩:=r;rfl
 |ref _=>cases r;rfl
 |ty _=>cases r;rfl
theorem RelV.inj{x y:V}{u:Value}(r:RelV x u)(q:RelV y u):x=y:=Option.some.inj (r.abs.symm.trans q.abs)
theorem Vals.inj:∀{xs ys:List V}{us:List Value},Vals xs us→Vals ys us→xs=ys
 |_,_,_,.nil,.nil=>rfl
 |_,_,_,.cons r t,.cons r' t'=>by rw[r.inj r',Vals.inj t t']
section
variable{X:Cx}{pins:List (Addr×Obj)}{σ:St}{H:Hp}{s:Shared}{a:Addr}{xs ys:List V}
theorem SqL.of{K:PySem.W.Frag}(h:H a=some (.lst xs)):SqL K H a xs:=.inl (.inl h)
theorem SqT.of{K:PySem.W.Frag}(h:H a=some (.tup xs)):SqT K H a xs:=.inl (.inl h)
theorem Inv.list(I:Inv X pins σ H s)(h:SqL X.K H a xs):∃its:List Value,Vals xs its∧PlainL s.heap a its.toArray∧xs.length≤sizeLine:=by
 rcases h with h|⟨o,its,n,hk,hc,hd,hs,hz,r⟩
 ·
  obtain⟨z,its,n,r,e⟩:=h.ok I.hok
  exact⟨its,r,⟨_,n,e,rfl,rfl,rfl⟩,z⟩
 ·
  refine⟨its.toList,r,⟨o,n,I.kIn a o hk,hc,hd,by simpa using hs⟩,?_⟩
  have e:=r.length
  simp only[Array.length_toList]at e
  omega
theorem Inv.tuple(I:Inv X pins σ H s)(h:SqT X.K H a xs):∃its:List Value,Vals xs its∧IsTup s.heap a its.toArray∧xs.length≤sizeLine:=by
 rcases h with h|⟨o,its,n,hk,hc,hs,hz,r⟩
 ·
  obtain⟨z,its,r,p⟩:=h.ok I.hok
  exact⟨its,r,p,z⟩
 ·
  refine⟨its.toList,r,⟨o,I.kIn a o hk,hc,n,by simpa using hs⟩,?_⟩
  have e:=r.length
  simp only[Array.length_toList]at e
  omega
theorem Inv.list_inj(I:Inv X pins σ H s)(h:SqL X.K H a xs)(h':SqL X.K H a ys):xs=ys:=by
 obtain⟨its,r,⟨o,n,e,_,_,d⟩,_⟩:=I.list h
 obtain⟨its',r',⟨o',n',e',_,_,d'⟩,_⟩:=I.list h'
 rw[e]at e';cases e'
 rw[d]at d'
 injection d' with d1 _
 have:its=its':=by simpa using congrArg Array.toList d1
 subst this
 exact r.inj r'
theorem Inv.tuple_inj(I:Inv X pins σ H s)(h:SqT X.K H a xs)(h':SqT X.K H a ys):xs=ys:=by
 obtain⟨its,r,⟨o,e,_,n,d⟩,_⟩:=I.tuple h
 obtain⟨its',r',⟨o',e',_,n',d'⟩,_⟩:=I.tuple h'
 rw[e]at e';cases e'
 rw[d]at d'
 injection d' with d1 _
 have:its=its':=by simpa using congrArg Array.toList d1
 subst this
 exact r.inj r'
end
abbrev Cx.wish(X:Cx)(E:Value→Shared→Prop):Cx:={X with xe:=E}
abbrev Cx.nox(X:Cx):Cx:=X.wish fun _ _=>False
theorem Cx.Ok.wish{X:Cx}(ok:X.Ok)(E:Value→Shared→Prop):(X.wish E).Ok :=
 ⟨ok.mod,ok.kind,ok.glob,ok.blt,ok.above,ok.inj,ok.has,ok.cab,ok.hd,ok.frames,ok.stk,ok.exf,ok.bs,ok.bsz,ok.noex,ok.exfs,ok.funs,ok.frf,ok.tbs⟩
theorem Cx.Ok.unwish{X:Cx}{E:Value→Shared→Prop}(ok:(X.wish E).Ok):X.Ok :=
 ⟨ok.mod,ok.kind,ok.glob,ok.blt,ok.above,ok.inj,ok.has,ok.cab,ok.hd,ok.frames,ok.stk,ok.exf,ok.bs,ok.bsz,ok.noex,ok.exfs,ok.funs,ok.frf,ok.tbs⟩
section
variable{X:Cx}{pins:List (Addr×Obj)}{σ:St}{H:Hp}{s:Shared}{E:Value→Shared→Prop}
theorem Inv.wish(I:Inv X pins σ H s)(E:Value→Shared→Prop):Inv (X.wish E) pins σ H s:=⟨I.ok.wish E,I.os,I.bare,I.base,I.loc,I.cell,I.free,I.freeC,I.pin,I.hok,I.len⟩
theorem Inv.unwish(I:Inv (X.wish E) pins σ H s):Inv X pins σ H s:=⟨I.ok.unwish,I.os,I.bare,I.base,I.loc,I.cell,I.free,I.freeC,I.pin,I.hok,I.len⟩
theorem SP.unwish{D:Ends}{f:Flow}{s':Shared}(h:SP (X.wish E) pins D f s'):SP X pins D f s':=by
 cases f with
 |next=>obtain⟨σ',H',I,q⟩:=h;exact⟨σ',H',I.unwish,q⟩
 |brk=>obtain⟨σ',H',I,q⟩:=h;exact⟨σ',H',I.unwish,q⟩
 |cont=>obtain⟨σ',H',I,q⟩:=h;exact⟨σ',H',I.unwish,q⟩
 |ret u=>obtain⟨v,σ',H',I,r,q⟩:=h;exact⟨v,σ',H',I.unwish,r,q⟩
theorem PSs.nox{st:List Stmt}{t:TS}(h:PSs X.nox st t):PSs X st t:=fun pins s σ H D I hw =>
 wpAny_mono (h pins s σ H D (I.wish _) hw) (fun _ _ q=>q.unwish) fun _ _ z=>False.elim z
end
section
variable{X:Cx}
theorem Inv.quiet{pins:List (Addr×Obj)}{σ:St}{H:Hp}{s:Shared}(I:Inv X pins σ H s):interactive X.env=false:=by simp[interactive,I.ok.kind]
end
abbrev TG:=V→St→Hp→(St→Hp→Prop)→Prop
abbrev TGs:=List V→St→Hp→(St→Hp→Prop)→Prop
def PG(X:Cx)(target:Expr)(t:TG):Prop :=
 ∀(pins:List (Addr×Obj))(s:Shared)(σ:St)(H:Hp)(v:V)(u:Value)(Q:St→Hp→Prop),Inv X pins σ H s→RelV v u→t v σ H Q →
  wpAny (model X.prog X.w) X.A (assign target X.env u) (fun _ s'=>∃σ' H',Inv X pins σ' H' s'∧Q σ' H') X.xe s
def PGs(X:Cx)(ts:List Expr)(t:TGs):Prop :=
 ∀(pins:List (Addr×Obj))(s:Shared)(σ:St)(H:Hp)(vs:List V)(us:List Value)(Q:St→Hp→Prop),Inv X pins σ H s→Vals vs us→t vs σ H Q →
  wpAny (model X.prog X.w) X.A (assignInOrder ((assignEach ts X.env).map (·.2)) us) (fun _ s'=>∃σ' H',Inv X pins σ' H' s'∧Q σ' H') X.xe s
abbrev TSet:=V→V→V→Hp→(Hp→Prop)→Prop
def PSet(X:Cx)(t:TSet):Prop :=
 ∀(pins:List (Addr×Obj))(s:Shared)(σ:St)(H:Hp)(o i v:V)(ov iv u:Value)(Q:Hp→Prop),Inv X pins σ H s→RelV o ov→RelV i iv→RelV v u→t o i v H Q →
  wpAny (model X.prog X.w) X.A (setItem ov iv u) (fun _ s'=>∃H',Inv X pins σ H' s'∧Q H') X.xe s
section
variable{X:Cx}{pos:Pos}
def gName(i:Nat):TG:=fun v σ H Q=>Q (σ.set i (some v)) H
theorem pg_name{i:Nat}{x:Str}(hN:X.N.Nodup)(hi:X.N[i]?=some x)(hx:Loc X.env.scope x)(hf:X.fn x=true∨X.env.scope.names.lookup x=some .local:=by first|exact .inl rfl|exact .inr rfl|assumption):PG X (.Name x pos) (gName i):=by
 intro pins s σ H v u Q I r h
 exact wpAny_assign_Name (store_ok I hN hi hx r (fun s' I'=>⟨_,H,I',h⟩) hf)
def gNil:TGs:=fun vs σ H Q=>vs=[]∧Q σ H
def gCons(t:TG)(u:TGs):TGs:=fun vs σ H Q=>∃v r,vs=v::r∧t v σ H fun σ' H'=>u r σ' H' Q
theorem pgs_nil:PGs X [] gNil:=by
 intro pins s σ H vs us Q I r h
 obtain⟨e,h⟩:=h
 subst e
 cases r
 exact assignInOrder_nil ⟨σ,H,I,h⟩
theorem pgs_cons{e:Expr}{es:List Expr}{t:TG}{u:TGs}(h1:PG X e t)(h2:PGs X es u)
  (hs:(assignEach (e::es) X.env).map (·.2)=assign e X.env::(assignEach es X.env).map (·.2):=by rfl):PGs X (e::es) (gCons t u):=by
 intro pins s σ H vs us Q I r h
 obtain⟨v,vr,e1,h⟩:=h
 subst e1
 cases r with
 | cons r rr =>
  rw[hs]
  refine assignInOrder_cons (thn (h1 pins s σ H _ _ _ I r h) fun _ s1 ⟨σ1,H1,I1,q1⟩=>?_)
  exact h2 pins s1 σ1 H1 _ _ Q I1 rr q1
def gTup(K:PySem.W.Frag)(n:Nat)(t:TGs):TG:=fun v σ H Q=>∃a xs,v=.ref a∧SqT K H a xs∧xs.length=n∧t xs σ H Q
theorem pg_tup{es:List Expr}{k:Nat}{t:TGs}{n:Nat}(hc:X.calm=true)(h:PGs X es t)
  (hn:(assignEach es X.env).length=n:=by rfl) (hst:(assignEach es X.env).findIdx? (·.1)=none:=by rfl):PG X (.Tuple es k pos) (gTup X.K n t):=by
 intro pins s σ H v u Q I r hw
 obtain⟨a,xs,e1,hq,hl,hw⟩:=hw
 subst e1
 cases r
 obtain⟨its,rv,ht,hz⟩:=I.tuple hq
 refine assign_Tuple_tuple (I.ok.hd hc) ht (by simp[hn,← hl,rv.length]) hst fun h' hx=>?_
 have I1:Inv X pins σ H {s with heap:=h' }:=I.kept (t':=s.toks) fun b o e=>hx b o (Nat.ne_of_lt (Heap.lt_size e)) e
 exact h pins _ σ H xs _ Q I1 (by simpa using rv) hw
def gSub(to ti:TE)(t:TSet):TG:=fun v σ H Q=>to σ H fun o H1=>ti σ H1 fun i H2=>t o i v H2 fun H3=>Q σ H3
theorem pg_sub{o i:Expr}{to ti:TE}{t:TSet}(ho:PE X o to)(hi:PE X i ti)(hs:PSet X t)
  (ha:∀v,assign (.Subscript o i pos) X.env v=(do
   let ov ← holding [v] (eval o X.env)
   let iv ← holding [v,ov] (eval i X.env)
   standAt pos
   holding [v,ov,iv] (setItem ov iv v)
   release [v,ov,iv] []):=by intro _;rfl):PG X (.Subscript o i pos) (gSub to ti t):=by
 intro pins s σ H v u Q I r h
 rw[ha]
 refine wpAny_bind (wpAny_holding (thn (ho pins s σ H _ I h) fun ov s1 ⟨x,H1,I1,r1,q1⟩=>?_))
 refine wpAny_bind (wpAny_holding (thn (hi pins s1 σ H1 _ I1 q1) fun iv s2 ⟨y,H2,I2,r2,q2⟩=>?_))
 refine wpAny_bind (wpAny_standAt (wpAny_bind (wpAny_holding (thn (hs pins s2 σ H2 x y v ov iv u _ I2 r1 r2 r q2) fun _ s3 ⟨H3,I3,q3⟩=>?_))))
 exact wpAny_release ⟨σ,H3,I3,q3⟩
def tAsg(te:TE)(g:TG):TS:=fun D σ H=>te σ H fun x H1=>g x σ H1 D.nx
theorem ps_asg{tg e:Expr}{te:TE}{g:TG}(he:PE X e te)(hg:PG X tg g)(hs:swapsWithSole [tg] e pos.line X.env=pure false:=by rfl)(hw:swappedStores [tg] e X.env=pure none:=by rfl)
  (h1:(assignEach [tg] X.env).map (·.2)=[assign tg X.env]:=by rfl):PS X (.Assign [tg] e pos) (tAsg te g):=by
 intro pins s σ H D I h
 refine wpAny_Assign_stores (thn (he pins s σ H _ I h) fun v s1 ⟨x,H1,I1,r1,q1⟩=>?_) hs hw
 rw[h1]
 exact thn (hg pins s1 σ H1 x v _ I1 r1 q1) fun _ s2 q=>q
def tPar(i j:Nat)(ta:TA):TS:=fun D σ H=>ta σ H fun vs H1=>∃v w,vs=[v,w]∧D.nx ((σ.set i (some v)).set j (some w)) H1
theorem ps_par{i j:Nat}{x y:Str}{a b:Expr}{ta:TA}{px py pt:Pos} {kt k2 pt2} (hc:X.calm=true) (hN:X.N.Nodup) (hi:X.N[i]?=some x) (hj:X.N[j]?=some y) (hij:i≠j)
  (hx:X.env.scope.names.lookup x=some .local) (hy:X.env.scope.names.lookup y=some .local) (ha:PA X [a,b] ta)
  (hw:swappedStores [.Tuple [.Name x px,.Name y py] kt pt] (.Tuple [a,b] k2 pt2) X.env=pure (some [x,y]))
  (hs:swapsWithSole [.Tuple [.Name x px,.Name y py] kt pt] (.Tuple [a,b] k2 pt2) pos.line X.env=pure false:=by rfl) :
  PS X (.Assign [.Tuple [.Name x px,.Name y py] kt pt] (.Tuple [a,b] k2 pt2) pos) (tPar i j ta):=by
 intro pins s σ H D I h
 rw[exec_Assign_arm]
 refine wpAny_bind (wpAny_standAt ?_)
 rw[hs]
 refine wpAny_bind (wpAny_pure ?_)
 rw[if_neg (by decide)]
 refine wpAny_bind (Tuple_ (thn (ha _ pins s σ H _ I h) fun us s1 ⟨vs,H1,I1,r1,q1⟩=>?_))
 obtain⟨v,w,e1,q1⟩:=q1
 subst e1
 obtain⟨u1,u2,rfl,rv,rw'⟩:∃u1 u2,us=[u1,u2]∧RelV v u1∧RelV w u2:=by
  cases r1 with
  | cons p q =>
   cases q with
   | cons p' q' =>
    cases q'
    exact⟨_,_,rfl,p,p'⟩
 refine wpAny_newObj_type ?_ (by show 2≤sizeLine;decide)
 have I2:Inv X pins σ H1 {s1 with heap:=s1.heap.push {cls:=.type "tuple",data:=.seq [u1,u2].toArray} }:=I1.kept (t':=s1.toks) fun b o e=>Heap.get?_push_of_some _ e
 rw[hw]
 refine wpAny_bind (wpAny_pure ?_)
 show wpAny (model X.prog X.w) X.A (do rule "assign.swapped-stores"; let items ← unpackItems (.ref s1.heap.objs.size) 2 none; assignInOrder [fun v=>bindName X.env y v,fun v=>bindName X.env x v] items.reverse; pure Flow.next) _ _ _
 refine wpAny_bind (wpAny_rule (wpAny_bind (unpackItems_tuple (items:=#[u1,u2]) (I.ok.hd hc) (IsTup.new s1.heap _) fun h' hx'=>?_)))
 have I3:=I2.kept (h':=h') (t':=s1.toks) fun b o e=>hx' b o (Nat.ne_of_lt (Heap.lt_size e)) e
 show wpAny _ _ (assignInOrder [fun v=>bindName X.env y v,fun v=>bindName X.env x v] [u2,u1] >>= fun _=>pure Flow.next) _ _ _
 refine wpAny_bind (assignInOrder_cons (wpAny_bindName (store_ok I3 hN hj (.inl hy) rw' (fun s2 I4=>?_) (.inr hy))))
 refine assignInOrder_cons (wpAny_bindName (store_ok I4 hN hi (.inl hx) rv (fun s3 I5=>assignInOrder_nil (wpAny_pure ?_)) (.inr hx)))
 rw[List.set_comm _ _ (Ne.symm hij)]at I5
 exact⟨_,H1,I5,q1⟩
end
section
variable{X:Cx}{pos:Pos}
def tWhile(c:TT)(tb:TS):TS:=fun D σ H=>∃W:Nat→St→Hp→Prop,(∃m,W m σ H)∧∀m σ H,W m σ H →
 c σ H fun b H1=>if b=true then ∃N:St→Hp→Prop,(∀σ' H',N σ' H'→∃m',m' < m∧W m' σ' H')∧tb {D with nx:=N,ct:=N,bk:=D.nx} σ H1 else D.nx σ H1
theorem ps_while{c:Expr}{body:List Stmt}{tc:TT}{tb:TS}(hp:PassesOwn (model X.prog X.w) X.A X.env X.xe)(hc:PT X c tc)(hb:PSs X body tb):PS X (.While c body [] pos) (tWhile tc tb):=by
 intro pins s σ H D I h
 obtain⟨W,⟨m0,w0⟩,turn⟩:=h
 refine wpAny_While (codeAny_whileLoop (fun n s'=>∃σ' H',Inv X pins σ' H' s'∧W n σ' H') ?_ m0 ⟨σ,H,I,w0⟩)
 rintro n s1 ⟨σ1,H1,I1,w1⟩
 refine wpAny_passesOwn hp (thn (hc pins s1 σ1 H1 _ I1 (turn n σ1 H1 w1)) fun b s2 ⟨H2,I2,q2⟩=>?_)
 cases b with
 | true =>
  obtain⟨N,hN,q2⟩:=q2
  rw[if_pos rfl]
  refine wpAny_passesOwn hp (thn (hb pins s2 σ1 H2 _ I2 q2) fun f s3 q3=>?_)
  cases f with
  | next =>
   obtain⟨σ3,H3,I3,n3⟩:=q3
   obtain⟨m',hm,w3⟩:=hN σ3 H3 n3
   exact⟨m',hm,σ3,H3,I3,w3⟩
  | cont =>
   obtain⟨σ3,H3,I3,n3⟩:=q3
   obtain⟨m',hm,w3⟩:=hN σ3 H3 n3
   exact⟨m',hm,σ3,H3,I3,w3⟩
  |brk=>exact q3
  |ret v=>exact q3
 | false =>
  rw[if_neg Bool.false_ne_true]
  exact wpAny_execs_nil ⟨σ1,H2,I2,q2⟩
end
structure It where
 go:Nat→Hp→Prop
 yld:Nat→Hp→V→Hp→Prop
 stop:Nat→Hp→Prop
def FpOk(X:Cx)(pins:List (Addr×Obj))(H:Hp)(b:Addr):Prop :=
 H b=none∧b≠X.env.locals∧b∉X.fs∧(b∈X.ex∨X.s₀.heap.objs.size≤b)∧(∀x c,X.env.cells.lookup x=some c→c≠b)∧∀p∈X.pn++pins,p.1≠b
theorem Inv.fpOk{X:Cx}{pins:List (Addr×Obj)}{σ:St}{H H':Hp}{s:Shared}{b:Addr}(I:Inv X pins σ H s)(hb:s.heap.objs.size≤b)(hn:H' b=none):FpOk X pins H' b:=by
 refine⟨hn,Nat.ne_of_gt (Nat.lt_of_lt_of_le I.lt hb),I.nofs hb,.inr (Nat.le_trans I.sz hb),fun x c e z=>?_,fun p hp z=>?_⟩
 ·
  obtain⟨v,q⟩:=I.cell x c e
  exact absurd (Nat.lt_of_lt_of_le q.lt (by rw[z];exact hb)) (Nat.lt_irrefl _)
 ·
  exact absurd (Nat.lt_of_lt_of_le (Heap.lt_size (I.pin p hp).1) (by rw[z];exact hb)) (Nat.lt_irrefl _)
structure Turn (P:Program) (w:World) (K:PySem.W.Frag) (tg:Expr) (J:It) (fp:List Addr) (it:Addr) (tn:Nat→Heap→Prop):Prop where
 mem:it∈fp
 obj:∀i h,tn i h→∀b∈fp,∃o,h.get? b=some o∧∀v,o.data≠.cell v
 keep:∀i h h',tn i h→(∀b∈fp,∀o,h.get? b=some o→h'.get? b=some o)→tn i h'
 item:∀(X:Cx),X.prog=P→X.w=w→X.K=K→X.calm=true→∀(i:Nat)(pins:List (Addr×Obj))(s:Shared)(σ:St)(H:Hp)(E:Value→Shared→Prop),Inv X pins σ H s→(∀b∈fp,FpOk X pins H b)→tn i s.heap→J.go i H →
  wpAny (model P w) X.A (pyNext (.ref it)) (fun r s1=>∃u,r=some u ∧
   wpAny (model P w) X.A (letOwnedTupleGo tg (.ref it) u) (fun _ s2=>∃x H',Inv X pins σ H' s2∧RelV x u∧J.yld i H x H'∧tn (i+1) s2.heap∧∀b∈fp,H' b=none) E s1) E s
 done:∀(X:Cx),X.prog=P→X.w=w→X.K=K→X.calm=true→∀(i:Nat)(pins:List (Addr×Obj))(s:Shared)(σ:St)(H:Hp)(E:Value→Shared→Prop),Inv X pins σ H s→(∀b∈fp,FpOk X pins H b)→tn i s.heap→J.stop i H →
  wpAny (model P w) X.A (pyNext (.ref it)) (fun r s1=>r=none∧Inv X pins σ H s1) E s
 self:∀(A:Around)(i:Nat)(s:Shared)(Q:Value→Shared→Prop)(E:Value→Shared→Prop),tn i s.heap→Q (.ref it) s→wpAny (model P w) A (pyIter (.ref it)) Q E s
abbrev TI:=St→Hp→(It→Hp→Prop)→Prop
def PIE(X:Cx)(pins:List (Addr×Obj))(σ:St)(tg:Expr)(R:It→Hp→Prop)(itv:Value)(s2:Shared):Prop :=
 ∃(it:Addr)(fp:List Addr)(tn:Nat→Heap→Prop)(J:It)(H':Hp),itv=.ref it∧Inv X pins σ H' s2∧Turn X.prog X.w X.K tg J fp it tn∧tn 0 s2.heap∧(∀b∈fp,FpOk X pins H' b)∧R J H'
def PI(X:Cx)(tg iter:Expr)(wi:TI):Prop :=
 ∀(pins:List (Addr×Obj))(s:Shared)(σ:St)(H:Hp)(R:It→Hp→Prop),Inv X pins σ H s→wi σ H R →
  wpAny (model X.prog X.w) X.A (eval iter X.env) (fun v s1=>wpAny (model X.prog X.w) X.A (pyIter v) (PIE X pins σ tg R) X.xe s1) X.xe s
theorem go_of {M : Model} {A : Around} {E : Value → Shared → Prop} {s : Shared} {tg : Expr} {it : Addr} {u : Value} {o : Obj} {n : String} {vs : Array Value} {Q : Unit → Shared → Prop} (ho : s.heap.get? it = some o) (hc : o.cls = .type n) (hd : o.data = .fields vs)
    (hn : ["enumerate", "zip", "dict_itemiterator", "dict_reverseitemiterator", "odict_iterator", "itertools.zip_longest", "itertools.pairwise"].contains n = false) (hQ : Q () s) : wpAny M A (letOwnedTupleGo tg (.ref it) u) Q E s := by
  unfold letOwnedTupleGo
  cases tg<;>first
    |exact wpAny_pure hQ
    | (cases u<;>first
        |exact wpAny_pure hQ
        | (refine wpAny_bind (wpAny_load ho ?_)
           rw[hc, hd]
           show wpAny M A (if(["enumerate", "zip", "dict_itemiterator", "dict_reverseitemiterator", "odict_iterator", "itertools.zip_longest", "itertools.pairwise"].contains n && vs[0]? == some (rawInt _)) = true then _ else _) Q E s
           rw[if_neg (by intro h;rw[hn, Bool.false_and]at h;cases h)]
           exact wpAny_pure hQ))
def Itl(K:PySem.W.Frag)(a:Addr):It :=
 ⟨fun i H=>∃xs x,SqL K H a xs∧xs[i]?=some x,fun i H x H'=>H'=H∧∀xs,SqL K H a xs→xs[i]?=some x,fun i H=>∃xs,SqL K H a xs∧xs.length≤i⟩
def Itt(K:PySem.W.Frag)(a:Addr):It :=
 ⟨fun i H=>∃xs x,SqT K H a xs∧xs[i]?=some x,fun i H x H'=>H'=H∧∀xs,SqT K H a xs→xs[i]?=some x,fun i H=>∃xs,SqT K H a xs∧xs.length≤i⟩
def Itr(lo:Int)(n:Nat):It:=⟨fun i _=>i<n,fun i H x H'=>H'=H∧x=.int (lo+i),fun i _=>n≤i⟩
theorem turn_list{P:Program}{w:World}{K:PySem.W.Frag}{tg:Expr}(a it:Addr):Turn P w K tg (Itl K a) [it] it (fun i h=>h.IsListIter it a i) where
 mem:=by simp
 obj:=fun i h st b hb=>by
  have e:b=it:=by simpa using hb
  subst e
  obtain⟨o,e,c,d⟩:=st
  exact⟨o,e,fun v z=>by rw[d]at z;cases z⟩
 keep:=fun i h h' st k=>st.at fun o e=>k it (by simp) o e
 item:=by
  intro X hP hw hK hc i pins s σ H E I hf st hg
  subst hP hw hK
  obtain⟨xs,x,hq,hx⟩:=hg
  obtain⟨its,rv,p,hz⟩:=I.list hq
  obtain⟨u,hu,ru⟩:=rv.get hx
  obtain⟨f0,f1,f2,f3,f4,f5⟩:=hf it (by simp)
  refine wpAny_pyNext_list_item st p.isList (x:=u) (by simpa using hu) fun h' st' sb=>?_
  have I1:Inv X pins σ H {s with heap:=h' }:=I.turned (t':=s.toks) (fun b o hb e=>(sb.2 b hb).trans e) f0 f1 f3 f4 f5
  obtain⟨o,e,c,d⟩:=id st'
  exact⟨u,rfl,go_of (s:={s with heap:=h' }) e c d (by decide) ⟨x,H,I1,ru,⟨rfl,fun ys hy=>by rw[I.list_inj hy hq];exact hx⟩,st',fun b hb=>(hf b hb).1⟩⟩
 done:=by
  intro X hP hw hK hc i pins s σ H E I hf st hg
  subst hP hw hK
  obtain⟨xs,hq,hx⟩:=hg
  obtain⟨its,rv,p,hz⟩:=I.list hq
  obtain⟨f0,f1,f2,f3,f4,f5⟩:=hf it (by simp)
  have hl:=rv.length
  exact wpAny_pyNext_list_end (I.ok.hd hc) st p.isList (by simp;omega) fun h' eb=>⟨rfl,I.turned (t':=s.toks) (fun b o hb e=>eb b o hb e) f0 f1 f3 f4 f5⟩
 self:=fun _ _ _ _ _ st h=>wpAny_pyIter_listiter st h
theorem turn_tuple{P:Program}{w:World}{K:PySem.W.Frag}{tg:Expr}(a it:Addr):Turn P w K tg (Itt K a) [it] it (fun i h=>h.IsTupleIter it a i) where
 mem:=by simp
 obj:=fun i h st b hb=>by
  have e:b=it:=by simpa using hb
  subst e
  obtain⟨o,e,c,d⟩:=st
  exact⟨o,e,fun v z=>by rw[d]at z;cases z⟩
 keep:=fun i h h' st k=>st.at fun o e=>k it (by simp) o e
 item:=by
  intro X hP hw hK hc i pins s σ H E I hf st hg
  subst hP hw hK
  obtain⟨xs,x,hq,hx⟩:=hg
  obtain⟨its,rv,p,hz⟩:=I.tuple hq
  obtain⟨u,hu,ru⟩:=rv.get hx
  obtain⟨f0,f1,f2,f3,f4,f5⟩:=hf it (by simp)
  refine wpAny_pyNext_tuple_item st (show s.heap.IsTuple a its.toArray from p) (x:=u) (by simpa using hu) fun h' st' sb=>?_
  have I1:Inv X pins σ H {s with heap:=h' }:=I.turned (t':=s.toks) (fun b o hb e=>(sb.2 b hb).trans e) f0 f1 f3 f4 f5
  obtain⟨o,e,c,d⟩:=id st'
  exact⟨u,rfl,go_of (s:={s with heap:=h' }) e c d (by decide) ⟨x,H,I1,ru,⟨rfl,fun ys hy=>by rw[I.tuple_inj hy hq];exact hx⟩,st',fun b hb=>(hf b hb).1⟩⟩
 done:=by
  intro X hP hw hK hc i pins s σ H E I hf st hg
  subst hP hw hK
  obtain⟨xs,hq,hx⟩:=hg
  obtain⟨its,rv,p,hz⟩:=I.tuple hq
  obtain⟨f0,f1,f2,f3,f4,f5⟩:=hf it (by simp)
  have hl:=rv.length
  exact wpAny_pyNext_tuple_end (I.ok.hd hc) st (show s.heap.IsTuple a its.toArray from p) (by simp;omega) fun h' eb=>⟨rfl,I.turned (t':=s.toks) (fun b o hb e=>eb b o hb e) f0 f1 f3 f4 f5⟩
 self:=fun _ _ _ _ _ st h=>wpAny_pyIter_tupleiter st h
theorem turn_range{P:Program}{w:World}{K:PySem.W.Frag}{tg:Expr}(it:Addr)(lo:Int)(n:Nat):Turn P w K tg (Itr lo n) [it] it (fun i h=>IsRangeIter h it (lo+(i:Nat)*1) ((n:Int)-(i:Nat)) 1) where
 mem:=by simp
 obj:=fun i h st b hb=>by
  have e:b=it:=by simpa using hb
  subst e
  exact⟨_,st,fun v z=>by
   have z':Data.fields _=Data.cell v:=z
   cases z'⟩
 keep:=fun i h h' st k=>k it (by simp) _ st
 item:=by
  intro X hP hw hK hc i pins s σ H E I hf st hg
  subst hP hw hK
  obtain⟨f0,f1,f2,f3,f4,f5⟩:=hf it (by simp)
  have W:=Walks.range (prog:=X.prog) (w:=X.w) (I.ok.hd hc) it lo 1 n
  refine W.item i s _ _ hg st fun v h' tk hv st' kk=>?_
  obtain⟨t,rfl⟩:=hv
  have I1:Inv X pins σ H {s with heap:=h',toks:=tk}:=I.turned (fun b o hb e=>kk b o (by simpa using hb) e) f0 f1 f3 f4 f5
  refine⟨_,rfl,go_of (s:={s with heap:=h',toks:=tk}) (n:="range_iterator") st' rfl rfl (by decide) ⟨.int (lo+i),H,I1,⟨t,?_⟩,⟨rfl,rfl⟩,st',fun b hb=>(hf b hb).1⟩⟩
  rw[Int.mul_one]
 done:=by
  intro X hP hw hK hc i pins s σ H E I hf st hg
  subst hP hw hK
  obtain⟨f0,f1,f2,f3,f4,f5⟩:=hf it (by simp)
  exact wpAny_pyNext_range_end (I.ok.hd hc) st (by have:n≤i:=hg;omega) fun h' eb=>⟨rfl,I.turned (t':=s.toks) (fun b o hb e=>eb b o hb e) f0 f1 f3 f4 f5⟩
 self:=fun _ _ _ _ _ st h=>wpAny_pyIter_rangeiter st h
section
variable{X:Cx}{tg:Expr}
theorem range_it{pins:List (Addr×Obj)}{σ:St}{H:Hp}{s:Shared}{R:It→Hp→Prop}{E:Value→Shared→Prop}{lo hi:Int}{t u v:Tok}{tk:Nat}(I:Inv X pins σ H s)(h1 : -(2^62)≤lo)(h2:lo<2^62)(h3 : -(2^62)≤hi)(h4:hi<2^62)
  (q:R (Itr lo (hi-lo).toNat) H):wpAny (model X.prog X.w) X.A (pyIter (.ref s.heap.objs.size)) (PIE X pins σ tg R) E {s with heap:=s.heap.push {cls:=.type "range",data:=.fields #[.int lo t,.int hi u,.int 1 v] },toks:=tk}:=by
 refine wpAny_pyIter_range (IsRange.new ..) (small_one h1 h2 h3 h4) ?_
 have I1:Inv X pins σ H {s with heap:=s.heap.push {cls:=.type "range",data:=.fields #[.int lo t,.int hi u,.int 1 v] },toks:=tk}:=I.kept fun b o e=>Heap.get?_push_of_some _ e
 refine⟨(s.heap.push {cls:=.type "range",data:=.fields #[.int lo t,.int hi u,.int 1 v] }).objs.size,[(s.heap.push {cls:=.type "range",data:=.fields #[.int lo t,.int hi u,.int 1 v] }).objs.size],_,_,H,rfl,
  I1.kept (t':=tk) fun b o e=>Heap.get?_push_of_some _ e,turn_range _ lo (hi-lo).toNat,?_,fun b hb=>?_,q⟩
 ·
  have e1:lo+((0:Nat):Int)*1=lo:=by simp
  have e2:(((hi-lo).toNat:Nat):Int)-((0:Nat):Int)=Builtin.Range.rangeSize lo hi 1:=by rw[rangeSize_one];split<;>omega
  show IsRangeIter _ _ (lo+((0:Nat):Int)*1) ((((hi-lo).toNat:Nat):Int)-((0:Nat):Int)) 1
  rw[e1,e2]
  exact Heap.get?_push_size _ rfl
 ·
  have e:b=(s.heap.push {cls:=.type "range",data:=.fields #[.int lo t,.int hi u,.int 1 v] }).objs.size:=by simpa using hb
  subst e
  exact I1.fpOk (Nat.le_refl _) (I1.hok.fresh (Nat.le_refl _))
def iRng1(ta:TA):TI:=fun σ H R=>ta σ H fun vs H1=>∃j:Int,vs=[.int j]∧-(2^62)≤j∧j<2^62∧R (Itr 0 j.toNat) H1
def iRng2(ta:TA):TI:=fun σ H R=>ta σ H fun vs H1=>∃i j:Int,vs=[.int i,.int j]∧(-(2^62)≤i∧i<2^62∧-(2^62)≤j∧j<2^62)∧R (Itr i (j-i).toNat) H1
theorem pi_range1{a:Expr}{ta:TA}{p pos:Pos} (hg:Gl X "range") (hm:X.mg "range"=none) (ha:PA X [a] ta) (hs:starEach [a] X.env=[(false,eval a X.env)]:=by rfl):PI X tg (.Call (.Name "range" p) [a] [] pos) (iRng1 ta):=by
 intro pins s σ H R I h
 refine Call_ (ld_blt I hg hm boot_range (PyProof.Rows.callWith_type1 (thn (ha pos pins s σ H _ I h) fun us s1 ⟨vs,H1,I1,r1,q1⟩=>?_) hs rfl))
 obtain⟨j,e,q1,q2,q⟩:=q1
 subst e
 cases r1 with
 | cons r rr =>
  cases rr
  obtain⟨t,rfl⟩:=r
  exact call_range_1 (range_it I1 (by omega) (by omega) q1 q2 (by simpa using q))
theorem pi_range2{a b:Expr}{ta:TA}{p pos:Pos} (hg:Gl X "range") (hm:X.mg "range"=none) (ha:PA X [a,b] ta) (hs:starEach [a,b] X.env=[(false,eval a X.env),(false,eval b X.env)]:=by rfl) (hs2:starEach [b] X.env=[(false,eval b X.env)]:=by rfl) :
  PI X tg (.Call (.Name "range" p) [a,b] [] pos) (iRng2 ta):=by
 intro pins s σ H R I h
 refine Call_ (ld_blt I hg hm boot_range (PyProof.Rows.callWith_type1 (thn (ha pos pins s σ H _ I h) fun us s1 ⟨vs,H1,I1,r1,q1⟩=>?_) (by rw[hs,hs2]) (by rw[hs2];rfl)))
 obtain⟨i,j,e,⟨q1,q2,q3,q4⟩,q⟩:=q1
 subst e
 cases r1 with
 | cons r rr =>
  cases rr with
  | cons r' rr =>
   cases rr
   obtain⟨t,rfl⟩:=r
   obtain⟨t',rfl⟩:=r'
   exact call_range_2 (range_it I1 q1 q2 q3 q4 q)
def pinsAt(fp:List Addr)(h:Heap):List (Addr×Obj):=fp.filterMap fun b=>(h.get? b).map fun o=>(b,o)
theorem mem_pinsAt{fp:List Addr}{h:Heap}{b:Addr}{o:Obj}(hb:b∈fp)(e:h.get? b=some o):(b,o)∈pinsAt fp h:=List.mem_filterMap.mpr ⟨b,hb,by rw[e];rfl⟩
theorem of_pinsAt{fp:List Addr}{h:Heap}{p:Addr×Obj}(hp:p∈pinsAt fp h):p.1∈fp∧h.get? p.1=some p.2:=by
 obtain⟨b,hb,e⟩:=List.mem_filterMap.mp hp
 cases q:h.get? b with
 |none=>rw[q]at e;cases e
 | some o =>
  rw[q]at e
  have e':(b,o)=p:=Option.some.inj e
  subst e'
  exact⟨hb,q⟩
theorem Inv.pinned{pins:List (Addr×Obj)}{σ:St}{H:Hp}{s:Shared}{fp:List Addr}(I:Inv X pins σ H s)(hf:∀b∈fp,FpOk X pins H b)(ho:∀b∈fp,∃o,s.heap.get? b=some o∧∀v,o.data≠.cell v):Inv X (pins++pinsAt fp s.heap) σ H s :=
 I.pins_of fun p hp=>(List.mem_append.mp hp).elim (fun z=>I.pin p (List.mem_append_right _ z)) fun z=>by
  obtain⟨hb,e⟩:=of_pinsAt z
  obtain⟨f0,f1,f2,_⟩:=hf p.1 hb
  obtain⟨o,e',d⟩:=ho p.1 hb
  rw[e]at e';cases e'
  exact⟨e,f0,f1,f2,d⟩
theorem Inv.unpinned{pins pl:List (Addr×Obj)}{σ:St}{H:Hp}{s:Shared}(I:Inv X (pins++pl) σ H s):Inv X pins σ H s:=I.pins_of fun p hp=>I.pin p (List.mem_append_right _ (List.mem_append_left _ hp))
end
abbrev R2:=V→V→Hp→VK→Prop
def OpR(X:Cx)(f:Value→Value→Sem Value)(r:R2):Prop :=
 ∀(pins:List (Addr×Obj))(s:Shared)(σ:St)(H:Hp)(x y:V)(v u:Value)(Q:VK),Inv X pins σ H s→RelV x v→RelV y u→r x y H Q →
  wpAny (model X.prog X.w) X.A (f v u) (EP X pins σ Q) X.xe s
def UnR(X:Cx)(f:Value→Sem Value)(r:V→Hp→VK→Prop):Prop :=
 ∀(pins:List (Addr×Obj))(s:Shared)(σ:St)(H:Hp)(x:V)(v:Value)(Q:VK),Inv X pins σ H s→RelV x v→r x H Q →
  wpAny (model X.prog X.w) X.A (f v) (EP X pins σ Q) X.xe s
def CallR(X:Cx)(f:Value)(r:List V→Hp→VK→Prop):Prop :=
 ∀(pins:List (Addr×Obj))(s:Shared)(σ:St)(H:Hp)(xs:List V)(us:List Value)(Q:VK),Inv X pins σ H s→Vals xs us→r xs H Q →
  wpAny (model X.prog X.w) X.A (call f us) (EP X pins σ Q) X.xe s
def tOp(r:R2)(ta tb:TE):TE:=fun σ H Q=>ta σ H fun x H1=>tb σ H1 fun y H2=>r x y H2 Q
def rI(C:Int→Int→Prop)(g:Int→Int→V):R2:=fun x y H Q=>∃i j,x=.int i∧y=.int j∧C i j∧Q (g i j) H
def rI0(g:Int→Int→V):R2:=fun x y H Q=>∃i j,x=.int i∧y=.int j∧Q (g i j) H
def rU(g:Int→V):V→Hp→VK→Prop:=fun x H Q=>∃i,x=.int i∧Q (g i) H
section
variable{X:Cx}{a b:Expr}{ta tb:TE}
theorem binT(ha:PE X a ta)(hb:PE X b tb){pins:List (Addr×Obj)}{s:Shared}{σ:St}{H:Hp}{R:V→V→Hp→Prop}(I:Inv X pins σ H s)
  (h:ta σ H fun x H1=>tb σ H1 fun y H2=>R x y H2) {Q:Value→Shared→Prop} {f:Value→Value→Sem Value}
  (hf:∀v u s2 x y H2,Inv X pins σ H2 s2→RelV x v→RelV y u→R x y H2→wpAny (model X.prog X.w) X.A (f v u) Q X.xe s2) :
  wpAny (model X.prog X.w) X.A (eval a X.env) (fun v s₁=>wpAny (model X.prog X.w) X.A (eval b X.env) (fun u s₂=>wpAny (model X.prog X.w) X.A (f v u) Q X.xe s₂) X.xe s₁) X.xe s:=by
 refine thn (ha pins s σ H _ I h) fun v s1 ⟨x,H1,I1,r1,q1⟩=>?_
 refine thn (hb pins s1 σ H1 _ I1 q1) fun u s2 ⟨y,H2,I2,r2,q2⟩=>?_
 exact hf v u s2 x y H2 I2 r1 r2 q2
theorem opI{f:Value→Value→Sem Value}{C:Int→Int→Prop}{g:Int→Int→Int}
  (rule:∀(i j:Int)(t u:Tok)(s:Shared)(Q:Value→Shared→Prop)(E:Value→Shared→Prop),C i j→Q (.int (g i j) s.toks) {s with toks:=s.toks+1}→wpAny (model X.prog X.w) X.A (f (.int i t) (.int j u)) Q E s) :
  OpR X f (rI C fun i j=>.int (g i j)):=by
 intro pins s σ H x y v u Q I rx ry h
 obtain⟨i,j,rfl,rfl,hc,q⟩:=h
 obtain⟨t,rfl⟩:=rx
 obtain⟨t',rfl⟩:=ry
 exact rule i j t t' s _ _ hc ⟨.int (g i j),H,I.tok _,⟨_,rfl⟩,q⟩
theorem opI0{f:Value→Value→Sem Value}{g:Int→Int→Int}
  (rule:∀(i j:Int)(t u:Tok)(s:Shared)(Q:Value→Shared→Prop)(E:Value→Shared→Prop),Q (.int (g i j) s.toks) {s with toks:=s.toks+1}→wpAny (model X.prog X.w) X.A (f (.int i t) (.int j u)) Q E s) :
  OpR X f (rI0 fun i j=>.int (g i j)):=by
 intro pins s σ H x y v u Q I rx ry h
 obtain⟨i,j,rfl,rfl,q⟩:=h
 obtain⟨t,rfl⟩:=rx
 obtain⟨t',rfl⟩:=ry
 exact rule i j t t' s _ _ ⟨.int (g i j),H,I.tok _,⟨_,rfl⟩,q⟩
theorem opB0{f:Value→Value→Sem Value}{g:Int→Int→Bool}
  (rule:∀(i j:Int)(t u:Tok)(s:Shared)(Q:Value→Shared→Prop)(E:Value→Shared→Prop),Q (.bool (g i j)) s→wpAny (model X.prog X.w) X.A (f (.int i t) (.int j u)) Q E s) :
  OpR X f (rI0 fun i j=>.bl (g i j)):=by
 intro pins s σ H x y v u Q I rx ry h
 obtain⟨i,j,rfl,rfl,q⟩:=h
 obtain⟨t,rfl⟩:=rx
 obtain⟨t',rfl⟩:=ry
 exact rule i j t t' s _ _ ⟨.bl (g i j),H,I,rfl,q⟩
def CPow(i j:Int):Prop:=0≤j∧j≤1000000∧i.natAbs<2^64
def CMul(i j:Int):Prop:=(-(2^64)<i∧i<2^64)∨(-(2^64)<j∧j<2^64)
theorem CMul.ok{i j:Int}(h:CMul i j):IntMulOk i j:=by
 rcases h with⟨h1,h2⟩|⟨h1,h2⟩
 ·
  exact .of_left (intBits_le_64 h1 h2)
 ·
  exact .of_right (intBits_le_64 h1 h2)
theorem op_add:OpR X (binaryOp .Add) (rI0 fun i j=>.int (i+j)):=opI0 fun _ _ _ _ _ _ _ q=>add_int q
theorem op_sub:OpR X (binaryOp .Sub) (rI0 fun i j=>.int (i-j)):=opI0 fun _ _ _ _ _ _ _ q=>sub_int q
theorem op_modN:OpR X (binaryOp .Mod) (rI (fun _ j=>j≠0) fun i j=>.int (i.fmod j)):=opI fun _ _ _ _ _ _ _ hc q=>mod_int' hc q
theorem op_pow:OpR X (binaryOp .Pow) (rI CPow fun i j=>.int (i^j.toNat)):=opI fun _ _ _ _ _ _ _ hc q=>pow_int_small hc.1 hc.2.1 hc.2.2 q
theorem unI{f:Value→Sem Value}{g:Int→Int}
  (rule:∀(i:Int)(t:Tok)(s:Shared)(Q:Value→Shared→Prop)(E:Value→Shared→Prop),Q (.int (g i) s.toks) {s with toks:=s.toks+1}→wpAny (model X.prog X.w) X.A (f (.int i t)) Q E s) :
  UnR X f (rU fun i=>.int (g i)):=by
 intro pins s σ H x v Q I rx h
 obtain⟨i,rfl,q⟩:=h
 obtain⟨t,rfl⟩:=rx
 exact rule i t s _ _ ⟨.int (g i),H,I.tok _,⟨_,rfl⟩,q⟩
theorem un_neg:UnR X (unaryOp .USub) (rU fun i=>.int (-i)):=unI fun _ _ _ _ _ q=>neg_int q
end
def scal:V→V→Bool
 |.non,.non=>true | .non,.int _=>true | .int _,.non=>true | .non,.bl _=>true | .bl _,.non=>true | .non,.str _=>true | .str _,.non=>true
 |.int _,.int _=>true | .bl _,.bl _=>true | .str _,.str _=>true | .byt _,.byt _=>true
 |.int _,.str _=>true | .str _,.int _=>true | .bl _,.str _=>true | .str _,.bl _=>true
 |_,_=>false
def rEq:R2:=fun x y H Q=>scal x y=true∧Q (.bl (decide (x=y))) H
theorem dec_int{i j:Int}:decide (V.int i=V.int j)=(i == j):=by
 rw[Bool.eq_iff_iff]
 simp
theorem dec_bl{i j:Bool}:decide (V.bl i=V.bl j)=(i == j):=by
 rw[Bool.eq_iff_iff]
 simp
theorem dec_str{i j:Str}:decide (V.str i=V.str j)=(i == j):=by
 rw[Bool.eq_iff_iff]
 simp
theorem dec_byt{i j:Array UInt8}:decide (V.byt i=V.byt j)=(i.toList == j.toList):=by
 rw[Bool.eq_iff_iff]
 cases i
 cases j
 simp
section
variable{X:Cx}{a b c:Expr}{ta tb tc:TE}{pos:Pos}
theorem fin_bl{pins:List (Addr×Obj)}{σ:St}{H:Hp}{s:Shared}{Q:VK}{k k':Bool}(I:Inv X pins σ H s)(q:Q (.bl k) H)(e:k=k'):EP X pins σ Q (.bool k') s:=by
 subst e
 exact⟨.bl k,H,I,rfl,q⟩
theorem op_eq:OpR X (compareOp .Eq) rEq:=by
 intro pins s σ H x y v u Q I rx ry h
 obtain⟨hs,q⟩:=h
 cases x with
 | non =>
  cases rx
  cases y with
  |non=>cases ry;exact PySem.EqNone.eq_none_none (fin_bl I q (by simp))
  |bl j=>cases ry;exact PySem.EqNone.eq_none_bool (fin_bl I q (by simp))
  |int j=>obtain⟨t',rfl⟩:=ry;exact PySem.EqNone.eq_none_int (fin_bl I q (by simp))
  |str j=>obtain⟨t',rfl⟩:=ry;exact PySem.EqNone.eq_none_str (fin_bl I q (by simp))
  |_=>exact absurd (show false=true from hs) Bool.false_ne_true
 | bl i =>
  cases rx
  cases y with
  |non=>cases ry;exact PySem.EqNone.eq_bool_none (fin_bl I q (by simp))
  |bl j=>cases ry;exact eq_bool (fin_bl I q dec_bl)
  |str j=>obtain⟨t',rfl⟩:=ry;exact PySem.EqMixed.eq_bool_str (fin_bl I q (by simp))
  |_=>exact absurd (show false=true from hs) Bool.false_ne_true
 | int i =>
  obtain⟨t,rfl⟩:=rx
  cases y with
  |non=>cases ry;exact PySem.EqNone.eq_int_none (fin_bl I q (by simp))
  |int j=>obtain⟨t',rfl⟩:=ry;exact eq_int (fin_bl I q dec_int)
  |str j=>obtain⟨t',rfl⟩:=ry;exact PySem.EqMixed.eq_int_str (fin_bl I q (by simp))
  |_=>exact absurd (show false=true from hs) Bool.false_ne_true
 | str i =>
  obtain⟨t,rfl⟩:=rx
  cases y with
  |non=>cases ry;exact PySem.EqNone.eq_str_none (fin_bl I q (by simp))
  |bl j=>cases ry;exact PySem.EqMixed.eq_str_bool (fin_bl I q (by simp))
  |int j=>obtain⟨t',rfl⟩:=ry;exact PySem.EqMixed.eq_str_int (fin_bl I q (by simp))
  |str j=>obtain⟨t',rfl⟩:=ry;exact eq_str (fin_bl I q dec_str)
  |_=>exact absurd (show false=true from hs) Bool.false_ne_true
 | byt i =>
  obtain⟨t,rfl⟩:=rx
  cases y with
  |byt j=>obtain⟨t',rfl⟩:=ry;exact PySem.W.eq_bytes (fin_bl I q dec_byt)
  |_=>exact absurd (show false=true from hs) Bool.false_ne_true
 |_=>cases y<;>exact absurd (show false=true from hs) Bool.false_ne_true
theorem op_lt:OpR X (compareOp .Lt) (rI0 fun i j=>.bl (decide (i<j))):=opB0 fun _ _ _ _ _ _ _ q=>lt_int q
theorem op_le:OpR X (compareOp .LtE) (rI0 fun i j=>.bl (decide (i≤j))):=opB0 fun _ _ _ _ _ _ _ q=>le_int q
theorem op_gt:OpR X (compareOp .Gt) (rI0 fun i j=>.bl (decide (j<i))):=opB0 fun _ _ _ _ _ _ _ q=>gt_int q
theorem op_ge:OpR X (compareOp .GtE) (rI0 fun i j=>.bl (decide (j≤i))):=opB0 fun _ _ _ _ _ _ _ q=>ge_int q
theorem nomark(b:Expr){op:CmpOp}(h:op≠.In:=by decide)(h2:op≠.NotIn:=by decide):behindInMarks op b=false:=by
 have e1:(op == CmpOp.In)=false:=by cases op<;>first|rfl|exact absurd rfl h
 have e2:(op == CmpOp.NotIn)=false:=by cases op<;>first|rfl|exact absurd rfl h2
 cases b<;>simp[behindInMarks,e1,e2]
def tTest(t:TE):TT:=fun σ H Q=>t σ H fun x H'=>∃k,x=.bl k∧Q k H'
theorem pt_cmpR{op:CmpOp}{r:R2}(ho:OpR X (compareOp op) r)(ha:PE X a ta)(hb:PE X b tb)(hm:behindInMarks op b=false):PT X (.Compare a [op] [b] pos) (tTest (tOp r ta tb)):=by
 intro pins s σ H Q I h
 refine wpAny_isTrue_Compare1 (thn (ha pins s σ H _ I h) fun v s1 ⟨x,H1,I1,r1,q1⟩=>thn (hb pins s1 σ H1 _ I1 q1) fun u s2 ⟨y,H2,I2,r2,q2⟩ =>
  thn (ho pins s2 σ H2 x y v u _ I2 r1 r2 q2) fun c s3 ⟨z,H3,I3,r3,k,e,q3⟩=>?_) hm
 subst e
 cases r3
 exact wpAny_truthy_bool ⟨H3,I3,q3⟩
def tChain(r r':R2)(ta tb tc:TE):TE:=fun σ H Q=>ta σ H fun x H1=>tb σ H1 fun y H2=>r x y H2 fun z H3=>∃k,z=.bl k ∧
 (if k=true then tc σ H3 fun w' H4=>r' y w' H4 Q else Q (.bl false) H3)
theorem pt_chain{op op':CmpOp}{r r':R2}(ho:OpR X (compareOp op) r)(ho':OpR X (compareOp op') r')(ha:PE X a ta)(hb:PE X b tb)(hc:PE X c tc)
  (hm:lastMarks [op,op'] [b,c]=false:=by with_unfolding_all rfl):PT X (.Compare a [op,op'] [b,c] pos) (tTest (tChain r r' ta tb tc)):=by
 intro pins s σ H Q I h
 refine isTrue_chain (thn (ha pins s σ H _ I h) fun v s1 ⟨x,H1,I1,r1,q1⟩=>test_link (thn (hb pins s1 σ H1 _ I1 q1) fun u s2 ⟨y,H2,I2,r2,q2⟩ =>
  thn (ho pins s2 σ H2 x y v u _ I2 r1 r2 q2) fun d s3 ⟨z,H3,I3,r3,k,e,q3⟩=>?_)) hm
 subst e
 cases r3
 refine wpAny_truthy_bool ?_
 cases k with
 | false =>
  obtain⟨k',e',q'⟩:=q3
  cases e'
  exact ite_ff ⟨H3,I3,q'⟩
 | true =>
  refine ite_tt (test_last (thn (hc pins s3 σ H3 _ I3 q3) fun w' s4 ⟨z',H4,I4,r4,q4⟩=>thn (ho' pins s4 σ H4 y z' u w' _ I4 r2 r4 q4) fun d' s5 ⟨z2,H5,I5,r5,k2,e2,q5⟩=>?_))
  subst e2
  cases r5
  exact wpAny_truthy_bool ⟨H5,I5,q5⟩
theorem line63:(sizeLine:Nat)<2^63:=by rw[sizeLine_eq];decide
theorem op_add_str:OpR X (binaryOp .Add) (fun x y H Q=>∃i j,x=.str i∧y=.str j∧i.length+j.length≤sizeLine∧Q (.str (i++j)) H):=by
 intro pins s σ H x y v u Q I rx ry h
 obtain⟨i,j,rfl,rfl,hz,q⟩:=h
 obtain⟨t,rfl⟩:=rx
 obtain⟨t',rfl⟩:=ry
 exact add_str (fun t' tk=>⟨.str (i++j),H,I.tok _,⟨_,rfl⟩,q⟩) hz
theorem vals1{x:V}{us:List Value}(r:Vals [x] us):∃u,us=[u]∧RelV x u:=by
 cases r with
 |cons r1 r2=>cases r2;exact⟨_,rfl,r1⟩
theorem vals2{x y:V}{us:List Value}(r:Vals [x,y] us):∃u w',us=[u,w']∧RelV x u∧RelV y w':=by
 cases r with
 | cons r1 r2 =>
  cases r2 with
  |cons r3 r4=>cases r4;exact⟨_,_,rfl,r1,r3⟩
theorem call_abs:CallR X (.builtin "abs") (fun xs H Q=>∃ i,xs=[.int i]∧Q (.int (if i < 0 then -i else i)) H):=by
 intro pins s σ H xs us Q I r h
 obtain⟨i,rfl,q⟩:=h
 obtain⟨u,rfl,t,rfl⟩:=vals1 r
 exact call_abs_int fun u tk=>⟨.int (if i<0 then -i else i),H,I.tok _,⟨_,rfl⟩,q⟩
theorem call_max2(hc:X.calm=true):CallR X (.builtin "max") (fun xs H Q=>∃ i j,xs=[.int i,.int j]∧Q (.int (if j > i then j else i)) H):=by
 intro pins s σ H xs us Q I r h
 obtain⟨i,j,rfl,q⟩:=h
 obtain⟨u,w',rfl,⟨t,rfl⟩,⟨t',rfl⟩⟩:=vals2 r
 refine max_two_ints (I.ok.hd hc) fun h' tk k=>⟨_,H,I.kept k,?_,q⟩
 by_cases hj:j > i
 ·
  rw[if_pos hj,if_pos hj];exact⟨_,rfl⟩
 ·
  rw[if_neg hj,if_neg hj];exact⟨_,rfl⟩
theorem call_min2(hc:X.calm=true):CallR X (.builtin "min") (fun xs H Q=>∃ i j,xs=[.int i,.int j]∧Q (.int (if j < i then j else i)) H):=by
 intro pins s σ H xs us Q I r h
 obtain⟨i,j,rfl,q⟩:=h
 obtain⟨u,w',rfl,⟨t,rfl⟩,⟨t',rfl⟩⟩:=vals2 r
 refine min_two_ints (I.ok.hd hc) fun h' tk k=>⟨_,H,I.kept k,?_,q⟩
 by_cases hj:j<i
 ·
  rw[if_pos hj,if_pos hj];exact⟨_,rfl⟩
 ·
  rw[if_neg hj,if_neg hj];exact⟨_,rfl⟩
theorem call_int1:CallR X (.type "int") (fun xs H Q=>(∃ i,xs=[.int i]∧Q (.int i) H)∨∃ k,xs=[.bl k]∧Q (.int (if k then 1 else 0)) H):=by
 intro pins s σ H xs us Q I r h
 rcases h with⟨i,rfl,q⟩|⟨k,rfl,q⟩
 ·
  obtain⟨u,rfl,t,rfl⟩:=vals1 r
  exact call_int_int ⟨.int i,H,I,⟨_,rfl⟩,q⟩
 ·
  obtain⟨u,rfl,r1⟩:=vals1 r
  cases r1
  exact call_int_bool ⟨.int (if k then 1 else 0),H,I.tok _,⟨_,rfl⟩,q⟩
end
theorem RelO.some_of{v:V}{o:Option Value}(r:RelO (some v) o):∃u,o=some u∧RelV v u:=by
 cases o with
 |none=>exact(show False from r).elim
 |some u=>exact⟨u,rfl,r⟩
structure Room (k:Nat) (A:Around):Prop where
 hd:A.handled=none
 dp:A.depth+3*k+5<recursionLimit
 un:A.units+16*k+200<cLine
 gd:A.guards=some []
theorem Room.mono{j k:Nat}{A:Around}(r:Room k A)(h:j≤k):Room j A:=⟨r.hd,by have:=r.dp;omega,by have:=r.un;omega,r.gd⟩
theorem Room.deeper{k:Nat}{A:Around}(r:Room (k+1) A)(env:Env):Room k (A.deeper env) :=
 ⟨r.hd,by have:=r.dp;show A.depth+1+3*k+5<_;omega,by have:=r.un;show A.units+3+16*k+200<_;omega,r.gd⟩
theorem Room.depth{k:Nat}{A:Around}(r:Room k A):A.depth<recursionLimit:=by have:=r.dp;omega
theorem Room.units{k:Nat}{A:Around}(r:Room k A):A.units+64<cLine:=by have:=r.un;omega
def tNil:TA:=fun _ H Q=>Q [] H
def tCons(ta:TE)(tr:TA):TA:=fun σ H Q=>ta σ H fun x H1=>tr σ H1 fun xs H2=>Q (x::xs) H2
section
variable{X:Cx}{e:Expr}{es:List Expr}{te:TE}{t:TA}{pos:Pos}
theorem pa_nil:PA X [] tNil:=fun _ _ _ _ H Q I h=>Calls.spliced_nil ⟨[],H,I,.nil,h⟩
theorem pa_cons(ha:PE X e te)(hr:PA X es t)(hs:starEach (e::es) X.env=(false,eval e X.env)::starEach es X.env:=by rfl):PA X (e::es) (tCons te t):=by
 intro pos pins s σ H Q I h
 rw[hs]
 show wpAny _ _ (spliced ((false,eval e X.env)::backTo pos (starEach es X.env))) _ _ s
 refine Calls.spliced_cons (thn (ha pins s σ H _ I h) fun u s1 ⟨x,H1,I1,r1,q1⟩=>?_)
 exact thn (hr pos pins s1 σ H1 _ I1 q1) fun us s2 ⟨xs,H2,I2,r2,q2⟩=>⟨x::xs,H2,I2,.cons r1 r2,q2⟩
end
abbrev Sp:=List V→Hp→VK→XK→Prop
abbrev CXT:=List Env→Hp→Shared→XK→Value→Shared→Prop
structure Env0 (P:Program) (w:World) (K:PySem.W.Frag) (mg:Str→Option Value) (base:Heap) (A:Around) (outer:List Env) (s:Shared) (H:Hp):Prop where
 frames:A.frames=some outer
 mod:Mod K mg base
 bs:∀b o,base.get? b=some o→s.heap.get? b=some o∧H b=none
 bsz:base.objs.size≤s.heap.objs.size
 funs:s.heap.FunFrames base outer
 frf:∀b∈frs outer,H b=none
 hok:HOk P w H s.heap
 bare:AllBare s.gens
 tbs:Tbs K H
def CE(outer:List Env)(P:Program)(w:World)(H:Hp)(s:Shared)(Q:VK)(u:Value)(s':Shared):Prop :=
 ∃v H',s'.os=s.os∧AllBare s'.gens∧Un (frs outer) [] H H' s.heap s'.heap∧HOk P w H' s'.heap∧RelV v u∧Q v H'
def CR(CX:CXT)(outer:List Env)(P:Program)(w:World)(H:Hp)(s:Shared)(Q:VK)(E:XK)(r:Result)(s':Shared):Prop :=
 match r with
 |.ok (.ret u)=>CE outer P w H s Q u s'
 |.ok _=>False
 |.error e=>CX outer H s E e s'
structure FnOk (P:Program) (w:World) (K:PySem.W.Frag) (mg:Str→Option Value) (base:Heap) (CX:CXT) (k:Nat) (f:Addr) (fd:FuncData) (ps:List Str) (sp:Sp):Prop where
 len:∀vs H Q E,sp vs H Q E→vs.length=ps.length
 run:∀(A:Around)(outer:List Env)(s:Shared)(H:Hp)(args:Args)(us:List Value)(vs:List V)(Q:VK)(E:XK),Room k A→Env0 P w K mg base A outer s H→BindsTo s fd args (ps.zip us)→Vals vs us→sp vs H Q E →
  codeAny (model P w) A (.call (.ref f) args) (CR CX outer P w H s Q E) s
theorem FnOk.mono{P:Program}{w:World}{K:PySem.W.Frag}{mg:Str→Option Value}{base:Heap}{CX:CXT}{j k:Nat}{f:Addr}{fd:FuncData}{ps:List Str}{sp:Sp}(F:FnOk P w K mg base CX j f fd ps sp)(h:j≤k) :
  FnOk P w K mg base CX k f fd ps sp:=⟨F.len,fun A outer s H args us vs Q E hr=>F.run A outer s H args us vs Q E (hr.mono h)⟩
section
variable{X:Cx}{pins:List (Addr×Obj)}{σ:St}{H:Hp}{s s':Shared}
theorem Inv.env0(I:Inv X pins σ H s):Env0 X.prog X.w X.K X.mg X.base X.A X.stack s H :=
 ⟨I.ok.frames,I.ok.mod,I.bs,Nat.le_trans I.ok.bsz I.sz,I.stack,I.stkFree,I.hok,I.bare,I.tbs⟩
theorem Inv.after{Q:VK}{u:Value}(I:Inv X pins σ H s)(h:CE X.stack X.prog X.w H s Q u s'):EP X pins σ Q u s':=by
 obtain⟨v,H',os,bare,un,hok,r,q⟩:=h
 obtain⟨hh,g,d,t,os'⟩:=s'
 obtain rfl:os'=s.os:=os
 exact⟨v,H',I.call (h':=hh) (g':=g) (d':=d) (t':=t) (ch:=[]) un hok bare (fun b z=>absurd z (by simp)),r,q⟩
end
def Binds(K:PySem.W.Frag)(fd:FuncData)(ps:List Str)(ds:List Value):Prop :=
 ∀(s:Shared)(us:List Value),K.In s.heap→(us++ds).length=ps.length→BindsTo s fd ⟨us,[]⟩ (ps.zip (us++ds))
theorem Binds.all{K:PySem.W.Frag}{fd:FuncData}{ps:List Str}(h:∀us:List Value,us.length=ps.length→bindArgs fd ⟨us,[]⟩=pure (ps.zip us)):Binds K fd ps []:=fun s us _ hl=>by
 rw[List.append_nil]at hl ⊢
 exact .of_eq (h us hl)
def Passes(CX:CXT)(X:Cx)(E:XK):Prop:=∀(pins:List (Addr×Obj))(σ:St)(H:Hp)(s:Shared)(e:Value)(s':Shared),Inv X pins σ H s→CX X.stack H s E e s'→X.xe e s'
section
variable{X:Cx}{CX:CXT}{k:Nat}{f:Addr}{fd:FuncData}{ps:List Str}{sp:Sp}{dvs:List V}{ds:List Value}{E:XK}{e:Expr}
theorem run_fn{pins:List (Addr×Obj)}{σ:St}{H:Hp}{s:Shared}{Q:VK}{us:List Value}{vs:List V}(F:FnOk X.prog X.w X.K X.mg X.base CX k f fd ps sp)(hr:Room k X.A)(hb:Binds X.K fd ps ds)(hd:Vals dvs ds)(hx:Passes CX X E)
  (I:Inv X pins σ H s) (r:Vals vs us) (h:sp (vs++dvs) H Q E):wpAny (model X.prog X.w) X.A (call (.ref f) us) (EP X pins σ Q) X.xe s:=by
 have r2:Vals (vs++dvs) (us++ds):=r.append hd
 have hl:(us++ds).length=ps.length:=by rw[← r2.length];exact F.len _ _ _ _ h
 refine wpAny_call (codeAny_mono (F.run X.A X.stack s H ⟨us,[]⟩ (us++ds) (vs++dvs) Q E hr I.env0 (hb s us I.kIn hl) r2 h) fun r s' hq=>?_)
 cases r with
 |error e=>exact hx pins σ H s e s' I hq
 | ok fl =>
  cases fl with
  |ret u=>exact I.after hq
  |next=>exact False.elim hq
  |brk=>exact False.elim hq
  |cont=>exact False.elim hq
end
structure FnScope (N P:List Str) (sc:Scope):Prop where
 kind:sc.kind=.function
 co:sc.isCoroutine=false
 gen:sc.isGenerator=false
 nd:N.Nodup
 pre:N.take P.length=P
 par:∀x∈P,sc.names.lookup x=some .local∨sc.names.lookup x=some .cell
 nofree:∀y∈sc.names,y.2≠.free
theorem bindL_out{kindOf:Str→Option NameKind}{x:Str}:∀{binds:List (Str×Value)}{m:Str→Option Value},(∀v,(x,v)∉binds)→bindL kindOf binds m x=m x
 |[],_,_=>rfl
 | (n,v)::r,m,h=>by
  unfold bindL
  rw[bindL_out fun w hw=>h w (List.mem_cons_of_mem _ hw)]
  split
  ·
   have:x≠n:=by rintro rfl;exact h v List.mem_cons_self
   simp[this]
  ·
   rfl
theorem bindC_out{kindOf:Str→Option NameKind}{x:Str}:∀{binds:List (Str×Value)}{m:Str→Option Value},(∀v,(x,v)∉binds)→bindC kindOf binds m x=m x
 |[],_,_=>rfl
 | (n,v)::r,m,h=>by
  unfold bindC
  rw[bindC_out fun w hw=>h w (List.mem_cons_of_mem _ hw)]
  split
  ·
   rfl
  ·
   have:x≠n:=by rintro rfl;exact h v List.mem_cons_self
   simp[this]
theorem bindL_get{kindOf:Str→Option NameKind}{x:Str}{v:Value}:∀{P:List Str}{vs:List Value}{i:Nat}{m:Str→Option Value},P.Nodup→P[i]?=some x→vs[i]?=some v→kindOf x=some .local →
  bindL kindOf (P.zip vs) m x=some v
 |[],_,_,_,_,h,_,_=>by simp at h
 |_::_,[],_,_,_,_,h,_=>by simp at h
 | p::P,w::vs,0,m,nd,h1,h2,hk=>by
  simp at h1 h2;subst h1;subst h2
  show bindL kindOf ((p,w)::P.zip vs) m p=_
  unfold bindL
  rw[bindL_out fun v hv=>(List.nodup_cons.mp nd).1 (List.of_mem_zip hv).1,if_pos hk]
  simp
 | p::P,w::vs,i+1,m,nd,h1,h2,hk=>by
  show bindL kindOf ((p,w)::P.zip vs) m x=_
  unfold bindL
  exact bindL_get (i:=i) (List.nodup_cons.mp nd).2 (by simpa using h1) (by simpa using h2) hk
theorem bindC_get{kindOf:Str→Option NameKind}{x:Str}{v:Value}:∀{P:List Str}{vs:List Value}{i:Nat}{m:Str→Option Value},P.Nodup→P[i]?=some x→vs[i]?=some v→kindOf x≠some .local →
  bindC kindOf (P.zip vs) m x=some v
 |[],_,_,_,_,h,_,_=>by simp at h
 |_::_,[],_,_,_,_,h,_=>by simp at h
 | p::P,w::vs,0,m,nd,h1,h2,hk=>by
  simp at h1 h2;subst h1;subst h2
  show bindC kindOf ((p,w)::P.zip vs) m p=_
  unfold bindC
  rw[bindC_out fun v hv=>(List.nodup_cons.mp nd).1 (List.of_mem_zip hv).1,if_neg hk]
  simp
 | p::P,w::vs,i+1,m,nd,h1,h2,hk=>by
  show bindC kindOf ((p,w)::P.zip vs) m x=_
  unfold bindC
  exact bindC_get (i:=i) (List.nodup_cons.mp nd).2 (by simpa using h1) (by simpa using h2) hk
def start(N:List Str)(vs:List V):St:=vs.map some++List.replicate (N.length-vs.length) none
def cxOf(CX:CXT)(P:Program)(w:World)(K:PySem.W.Frag)(mg:Str→Option Value)(base:Heap)(N:List Str)(qual:Str)(scope:Scope)(f:Addr)(cd:Value)(A:Around)(outer:List Env)(s:Shared)(H:Hp)(E:XK):Cx where
 prog:=P
 w:=w
 K:=K
 mg:=mg
 base:=base
 A:=A.deeper (envOfC qual scope s.heap.objs.size f cd)
 N:=N
 s₀:=s
 H₀:=H
 env:=envOfC qual scope s.heap.objs.size f cd
 outer:=outer
 stack:=envOfC qual scope s.heap.objs.size f cd::outer
 ex:=[]
 calm:=true
 fn:=fun _=>true
 pn:=[]
 xe:=fun e s'=>wpAny (model P w) (A.deeper (envOfC qual scope s.heap.objs.size f cd)) (leaving (envOfC qual scope s.heap.objs.size f cd) e) (fun _ s''=>CX outer H s E e s'') (fun e' s''=>CX outer H s E e' s'') s'
theorem cell_has{sc:Scope}{n:Nat}{x:Str}(h:sc.names.lookup x=some .cell):∃c,(cellsFrom n sc.names []).lookup x=some c:=by
 have q:=PySem.W.cellsFrom_some sc.names n [] (.inl h)
 exact Option.isSome_iff_exists.mp q
theorem inv_start{CX:CXT}{P:Program}{w:World}{K:PySem.W.Frag}{mg:Str→Option Value}{base:Heap}{N ps:List Str}{qual:Str}{scope:Scope}{f:Addr}{cd:Value}{A:Around}{outer:List Env}{s s1:Shared}{H:Hp}{E:XK}{us:List Value}{vs:List V}
  (S:FnScope N ps scope) (hd:A.handled=none) (e0:Env0 P w K mg base A outer s H) (hl:vs.length=ps.length) (r:Vals vs us)
  (x:InCallC s s.heap.objs.size (bindL (envOfC qual scope s.heap.objs.size f cd).kindOf (ps.zip us) fun _=>none) (cellsFrom (s.heap.objs.size+1) scope.names []) (bindC (envOfC qual scope s.heap.objs.size f cd).kindOf (ps.zip us) fun _=>none) s1) :
  Inv (cxOf CX P w K mg base N qual scope f cd A outer s H E) [] (start N vs) H s1:=by
 have hpl:ps.length≤N.length:=by have:=congrArg List.length S.pre;rw[List.length_take]at this;omega
 obtain⟨h1,tk,rfl,hk⟩:=x.done
 have noA:∀b:Addr,b∉(cxOf CX P w K mg base N qual scope f cd A outer s H E).ex:=fun b z=>absurd (show b∈([]:List Addr)from z) (by simp)
 refine⟨⟨e0.mod,S.kind,rfl,rfl,Nat.le_refl _,fun y z c h1 h2=>?_,fun y hy=>?_,fun y c _ h=>?_,fun _=>hd,Around.frames_deeper e0.frames,.inr ⟨rfl,rfl⟩,fun b z=>absurd z (noA b),e0.bs,e0.bsz,fun b _ _=>noA b,fun b z=>absurd z (noA b),e0.funs,e0.frf,e0.tbs⟩,
  rfl,e0.bare,Un.kept hk,⟨_,x.toInCall.ns,fun i y v h1 h2 h3=>?_⟩,fun y c h=>⟨_,x.cell y c h⟩,e0.hok.fresh (Nat.le_refl _),fun y c h=>?_,fun p hp=>absurd (show p∈([]:List (Addr×Obj))from hp) (by simp),e0.hok.kept hk,?_⟩
 ·
  exact name_of_addr x.apart (PySem.mem_of_lookup h1) (PySem.mem_of_lookup h2)
 ·
  have hy:scope.names.lookup y=some .cell∨scope.names.lookup y=some .free:=hy
  rcases hy with hy|hy
  ·
   exact cell_has hy
  ·
   exact absurd rfl (S.nofree _ (PySem.mem_of_lookup hy))
 ·
  exact Nat.le_of_lt (x.above y c (PySem.mem_of_lookup h))
 ·
  have hi:i<vs.length:=by
   unfold start at h2
   by_cases hi:i<vs.length
   ·
    exact hi
   ·
    rw[List.getElem?_append_right (by simpa using hi)]at h2
    rw[List.getElem?_replicate]at h2
    split at h2<;>cases h2
  have ha:vs[i]?=some v:=by
   unfold start at h2
   rw[List.getElem?_append_left (by simpa using hi),List.getElem?_map]at h2
   cases e:vs[i]? with
   |none=>rw[e]at h2;cases h2
   |some a=>rw[e]at h2;cases h2;rfl
  obtain⟨u,hu,rv⟩:=r.get ha
  have hp:ps[i]?=some y:=by
   rw[← S.pre,List.getElem?_take_of_lt (by omega)];exact h1
  have ndP:ps.Nodup:=by rw[← S.pre];exact S.nd.sublist (List.take_sublist _ _)
  refine⟨u,rv,?_⟩
  rcases S.par y (List.mem_of_getElem? hp)with k|k
  ·
   exact .inl ⟨k,bindL_get ndP hp hu k⟩
  ·
   obtain⟨c,e⟩:=cell_has (n:=s.heap.objs.size+1) k
   refine .inr ⟨.inl k,c,e,?_⟩
   have q:=x.cell y c e
   rw[bindC_get ndP hp hu (by show scope.names.lookup y≠_;rw[k];decide)]at q
   exact q
 ·
  exact .inl (e0.hok.fresh (Nat.le_of_lt (x.above y c (PySem.mem_of_lookup h))))
 ·
  unfold start
  show _=N.length
  rw[List.length_append,List.length_map,List.length_replicate]
  omega
theorem fn_of{CX:CXT}{P:Program}{w:World}{K:PySem.W.Frag}{mg:Str→Option Value}{base:Heap}{k:Nat}{f:Addr}{name qual:Str}{params:Arguments}{body:List Stmt}{scope:Scope}{dV kV doc pm cdv ct oc:Value}{an od:Option Addr}
  {osl:Array (Option Value)} {N ps:List Str} {sp:Sp} (lk:K.lookup f=some ⟨oc,od,.func (PySem.W.fnOf name qual params body scope dV kV doc pm an cdv ct),osl⟩) (hcd:PySem.W.codeIn K cdv qual=true) (S:FnScope N ps scope)
  (len:∀vs H Q E,sp vs H Q E→vs.length=ps.length)
  (hbody:∀(A:Around)(outer:List Env)(s:Shared)(H:Hp)(vs:List V)(Q:VK)(E:XK),Room k (A.deeper (envOfC qual scope s.heap.objs.size f cdv))→sp vs H Q E →
   ∃t,PSs (cxOf CX P w K mg base N qual scope f cdv A outer s H E) body t∧t {nx:=fun _ H'=>Q .non H',rt:=Q} (start N vs) H) :
  FnOk P w K mg base CX (k+1) f (PySem.W.fnOf name qual params body scope dV kV doc pm an cdv ct) ps sp:=by
 refine⟨len,fun A outer s H args us vs Q E hr e0 hb r hsp=>?_⟩
 have hl:=len _ _ _ _ hsp
 have KX:K.In s.heap:=e0.mod.kin.keeps fun b o e=>(e0.bs b o e).1
 have lim:s.heap.NoLimit:=e0.mod.nolimit.keeps fun b o e=>(e0.bs b o e).1
 have hkind:∀y∈ps.zip us,scope.names.lookup y.1=some .local∨(scope.names.lookup y.1=some .cell∧((cellsFrom (s.heap.objs.size+1) scope.names []).lookup y.1).isSome=true):=fun⟨n,v⟩ hy=>by
  rcases S.par n (List.of_mem_zip hy).1 with q|q
  ·
   exact .inl q
  ·
   exact .inr ⟨q,PySem.W.cellsFrom_some _ _ _ (.inl q)⟩
 refine codeAny_call_function hr.depth (KX _ _ lk) rfl S.co S.gen rfl (PySem.W.codeRec_of KX hcd) (hb _ _ _ _ ?_)
 refine wpAny_newFunctionEnv_cells S.kind hkind fun env he s1 x=>?_
 subst he
 refine⟨lim.keeps x.toInCall.keep,codeAny_func ?_⟩
 obtain⟨t,ht,hq⟩:=hbody A outer s H vs Q E (hr.deeper _) hsp
 have I:Inv (cxOf CX P w K mg base N qual scope f cdv A outer s H E) [] (start N vs) H s1:=inv_start S hr.hd e0 hl r x
 refine wpAny_mono (ht [] s1 (start N vs) H _ I hq) (fun fl s' hs=>?_) fun e s' hs=>hs
 have fin:∀{σ':St}{H':Hp}{v:V}{u:Value},Inv (cxOf CX P w K mg base N qual scope f cdv A outer s H E) [] σ' H' s'→RelV v u→Q v H'→CE outer P w H s Q u s' :=
  fun {σ' H' v u} J rv q=>⟨v,H',J.os,J.bare,J.base,J.hok,rv,q⟩
 cases fl with
 | ret u =>
  obtain⟨v,σ',H',J,rv,q⟩:=hs
  exact fin J rv q
 | next =>
  obtain⟨σ',H',J,q⟩:=hs
  exact fin (v:=V.non) (u:=Value.none) J rfl q
 | brk =>
  obtain⟨_,_,_,q⟩:=hs
  exact False.elim q
 | cont =>
  obtain⟨_,_,_,q⟩:=hs
  exact False.elim q
section
variable{X:Cx}{x:Str}{p pos:Pos}{e:Expr}{es:List Expr}{t:TA}{id:String}{r:List V→Hp→VK→Prop}
def tCB(r:List V→Hp→VK→Prop)(t:TA):TE:=fun σ H Q=>t σ H fun vs H1=>r vs H1 Q
theorem pe_callB(hc:CallR X (.builtin id) r)(hg:Gl X x)(hm:X.mg x=none)(hv:bootBuiltins x=some (.builtin id))(ha:PA X (e::es) t) (hn:x≠"__name__":=by decide) (hdb:(x == ("__debug__" : Str))=false:=by decide)
  (he:starEach (e::es) X.env=(false,eval e X.env)::starEach es X.env:=by rfl) (hpl:(backTo pos (starEach es X.env)).any (·.1)=false:=by rfl):PE X (.Call (.Name x p) (e::es) [] pos) (tCB r t):=by
 intro pins s σ H Q I h
 refine wpAny_Call_Name_kw (ld_blt I hg hm hv ?_ hn hdb)
 exact PyProof.Rows.callWith_builtin1 (thn (ha pos pins s σ H _ I h) fun us s1 ⟨vs,H1,I1,r1,q1⟩=>hc pins s1 σ H1 vs us Q I1 r1 q1) he hpl
end
end L2
namespace HT
open PySem PyProof.Rows
section
def sIx(n d:Nat):Option Int→Nat
 |none=>d
 |some v=>if v<0 then(v+(n:Int)).toNat else min v.toNat n
end
end HT
namespace L2
open PySem PySem.Spec PyProof.Rows
abbrev TO:=St→Hp→(Option Int→Hp→Prop)→Prop
section
variable{X:Cx}{lo hi:Option Expr}
def SlR(X:Cx)(r:V→Option Int→Option Int→Hp→VK→Prop):Prop :=
 ∀(pins:List (Addr×Obj))(s:Shared)(σ:St)(H:Hp)(x:V)(v vl vu:Value)(lo hi:Option Int)(sl:Addr)(Q:VK),Inv X pins σ H s→RelV x v→s.heap.IsSliceOf sl vl vu .none→IsPart vl lo→IsPart vu hi→r x lo hi H Q →
  ∃ T id,typeLookup (.type T) "__getitem__"=pure (some (.builtin id))∧s.TypeIs v T∧wpAny (model X.prog X.w) X.A (getItem v (.ref sl)) (EP X pins σ Q) X.xe s
def cutV(xs:List V)(lo hi:Option Int):List V:=(xs.drop (HT.sIx xs.length 0 lo)).take (HT.sIx xs.length xs.length hi-HT.sIx xs.length 0 lo)
end
def ixN(n:Nat)(i:Int):Option Nat:=if 0≤i then(if i<n then some i.toNat else none)else if -(n:Int)≤i then some (i+n).toNat else none
def atI{α:Type}(xs:List α)(i:Int):Option α:=(ixN xs.length i).bind fun j=>xs[j]?
theorem ixN_seq{n:Nat}{i:Int}{j:Nat}(h:ixN n i=some j):seqIndex? i n=some j∧j<n∧-(n:Int)≤i∧i<n:=by
 unfold ixN at h
 by_cases h0:0≤i
 ·
  rw[if_pos h0]at h
  by_cases h1:i<n
  ·
   rw[if_pos h1]at h
   have e:i.toNat=j:=Option.some.inj h
   exact⟨by rw[seqIndex_of h0 h1,e],by omega,by omega,h1⟩
  ·
   rw[if_neg h1]at h;cases h
 ·
  rw[if_neg h0]at h
  by_cases h1 : -(n:Int)≤i
  ·
   rw[if_pos h1]at h
   have e:(i+n).toNat=j:=Option.some.inj h
   exact⟨by rw[seqIndex_neg (by omega) h1,e],by omega,h1,by omega⟩
  ·
   rw[if_neg h1]at h;cases h
theorem atI_get{α:Type}{xs:List α}{i:Int}{v:α}(h:atI xs i=some v):∃j,seqIndex? i xs.length=some j∧xs[j]?=some v∧j<xs.length∧-(xs.length:Int)≤i∧i<xs.length:=by
 unfold atI at h
 cases e:ixN xs.length i with
 |none=>rw[e]at h;cases h
 | some j =>
  rw[e]at h
  obtain⟨h1,h2,h3,h4⟩:=ixN_seq e
  exact⟨j,h1,h,h2,h3,h4⟩
theorem atI_nat{α:Type}{xs:List α}{j:Nat}{v:α}(h:xs[j]?=some v):atI xs (j:Int)=some v:=by
 have hj:j<xs.length:=(List.getElem?_eq_some_iff.mp h).1
 have e:ixN xs.length (j:Int)=some j:=by
  unfold ixN
  rw[if_pos (by omega),if_pos (by omega)];simp
 unfold atI;rw[e];exact h
def PlainIx(b:Expr):Prop:=∀o i,subscripted b false o i=operate [o,i] (getItem o i)
def IxR(X:Cx)(r:R2):Prop :=
 ∀(value slice:Expr)(pins:List (Addr×Obj))(s:Shared)(σ:St)(H:Hp)(x y:V)(v u:Value)(Q:VK),Inv X pins σ H s→RelV x v→RelV y u→r x y H Q →
  subscripted slice false v u=operate [v,u] (getItem v u)→wpAny (model X.prog X.w) X.A (subscriptTail value slice v u) (EP X pins σ Q) X.xe s
def MtR(X:Cx)(id:String)(r:V→List V→Hp→VK→Prop):Prop :=
 ∀(pins:List (Addr×Obj))(s:Shared)(σ:St)(H:Hp)(x:V)(xs:List V)(v:Value)(us:List Value)(Q:VK),Inv X pins σ H s→RelV x v→Vals xs us→r x xs H Q →
  wpAny (model X.prog X.w) X.A (call (.builtin id) (v::us)) (EP X pins σ Q) X.xe s
section
variable{X:Cx}{a b:Expr}{ta tb:TE}{pos:Pos}
theorem pe_ix{r:R2}(hr:IxR X r)(ha:PE X a ta)(hb:PE X b tb)(hs:PlainIx b):PE X (.Subscript a b pos) (tOp r ta tb):=by
 intro pins s σ H Q I h
 exact Subscript_ (binT ha hb I h fun v u s2 x y H2 I2 rx ry q=>hr a b pins s2 σ H2 x y v u Q I2 rx ry q (hs _ _))
def rIxL(K:PySem.W.Frag):R2:=fun x y H Q=>∃p xs i v,x=.ref p∧y=.int i∧SqL K H p xs∧atI xs i=some v∧Q v H
def rIxT(K:PySem.W.Frag):R2:=fun x y H Q=>∃p xs i v,x=.ref p∧y=.int i∧SqT K H p xs∧atI xs i=some v∧Q v H
def rIxS:R2:=fun x y H Q=>∃z i c,x=.str z∧y=.int i∧z.length≤sizeLine∧atI z.cps.toList i=some c∧Q (.str ⟨#[c]⟩) H
theorem ix_list:IxR X (rIxL X.K):=by
 intro value slice pins s σ H x y v u Q I rx ry h hs
 obtain⟨p,xs,i,z,rfl,rfl,hq,he,q⟩:=h
 cases rx
 obtain⟨t,rfl⟩:=ry
 obtain⟨its,r,pl,hz⟩:=I.list hq
 obtain⟨j,h1,h2,h3,h4,h5⟩:=atI_get he
 obtain⟨w,ew,rw'⟩:=r.get h2
 have hl:=r.length
 have hn:=line63
 have fin:EP X pins σ Q w s:=⟨z,H,I,rw',q⟩
 by_cases h0:0≤i
 ·
  have hj:i.toNat=j:=by
   rw[seqIndex_of h0 h5]at h1
   exact Option.some.inj h1
  exact item_listR pl.isList h0 (by omega) (by rw[hj];simpa using ew) fin hs
 ·
  have hj:(i+(its.toArray.size:Int)).toNat=j:=by
   rw[seqIndex_neg (by omega) h4]at h1
   rw[List.size_toArray,← hl]
   exact Option.some.inj h1
  exact subscriptTail_builtinR (x:=w) pl.isList.typeIs slot_list_getitem.lookup
   (wpAny_getItem_list_neg (Q:=fun r s'=>r=w∧EP X pins σ Q r s') pl.isList (by omega) (by rw[List.size_toArray]<;>omega) (by omega) (by rw[hj];simpa using ew) ⟨rfl,fin⟩) hs
theorem ix_tup:IxR X (rIxT X.K):=by
 intro value slice pins s σ H x y v u Q I rx ry h hs
 obtain⟨p,xs,i,z,rfl,rfl,hq,he,q⟩:=h
 cases rx
 obtain⟨t,rfl⟩:=ry
 obtain⟨its,r,pl,hz⟩:=I.tuple hq
 obtain⟨j,h1,h2,h3,h4,h5⟩:=atI_get he
 obtain⟨w,ew,rw'⟩:=r.get h2
 have hl:=r.length
 have hn:=line63
 have fin:EP X pins σ Q w s:=⟨z,H,I,rw',q⟩
 exact subscriptTail_builtinR (x:=w) pl.typeIs slot_tuple_getitem.lookup
  (getItem_tuple (j:=j) (Q:=fun r s'=>r=w∧EP X pins σ Q r s') pl (by omega) (by omega) (by rw[List.size_toArray,← hl];exact h1) (by simpa using ew) ⟨rfl,fin⟩) hs
theorem ix_str:IxR X rIxS:=by
 intro value slice pins s σ H x y v u Q I rx ry h hs
 obtain⟨z,i,c,rfl,rfl,hz,he,q⟩:=h
 obtain⟨t,rfl⟩:=rx
 obtain⟨t',rfl⟩:=ry
 obtain⟨j,h1,h2,h3,h4,h5⟩:=atI_get he
 have hl:z.cps.toList.length=z.length:=by simp[Str.length]
 rw[hl]at h1 h4 h5
 have hn:=line63
 exact tail_any (typeIs_str s z t) slot_str_getitem.lookup (getItem_str (c:=c) (by
  have e1:decide (i < -(2^63:Int))=false:=decide_eq_false (by omega)
  have e2:decide (i≥2^63)=false:=decide_eq_false (by omega)
  rw[e1,e2,Bool.or_false]) (by rw[h1];simpa using h2) ⟨.str ⟨#[c]⟩,H,I.tok _,⟨_,rfl⟩,q⟩) hs
theorem mapSeq_set(its:List Value)(n j:Nat)(u:Value):Obj.mapSeq (·.setIfInBounds j u) {cls:=.type "list",data:=.seq its.toArray n}={cls:=.type "list",data:=.seq (its.set j u).toArray n}:=by
 simp[Obj.mapSeq]
theorem Inv.lst{pins:List (Addr×Obj)}{σ:St}{H:Hp}{s:Shared}{p:Addr}{xs:List V}(I:Inv X pins σ H s)(h:H p=some (.lst xs)) :
  ∃(its:List Value)(n:Nat),Vals xs its∧s.heap.get? p=some {cls:=.type "list",data:=.seq its.toArray n}∧xs.length≤sizeLine:=by
 obtain⟨z,its,n,r,e⟩:=I.hok p _ h
 exact⟨its,n,r,e,z⟩
theorem Inv.lstUpd{pins:List (Addr×Obj)}{σ:St}{H:Hp}{s:Shared}{p:Addr}{xs ys:List V}{its its':List Value}{n n':Nat}{f:Obj→Obj}(I:Inv X pins σ H s)(h:H p=some (.lst xs))
  (ho:s.heap.get? p=some {cls:=.type "list",data:=.seq its.toArray n}) (hf:f {cls:=.type "list",data:=.seq its.toArray n}={cls:=.type "list",data:=.seq its'.toArray n' }) (r:Vals ys its') (hz:ys.length≤sizeLine) (t:Nat) :
  Inv X pins σ (upd H p (.lst ys)) {s with heap:=s.heap.update p f,toks:=t}:=by
 have e:(s.heap.update p f).get? p=some {cls:=.type "list",data:=.seq its'.toArray n' }:=by
  rw[Heap.get?_update_self f ho (by rw[hf]<;>rfl),hf]
 refine I.write (x:=p) (e:=p) (by rw[h];trivial) (.inl rfl) (fun b u hb q=>(Heap.get?_update_other _ _ (Ne.symm hb)).trans q) ⟨_,e⟩ ?_
 exact⟨hz,its',n',r,e⟩
def rSetL:V→V→V→Hp→(Hp→Prop)→Prop:=fun o i v H Q=>∃p xs k j,o=.ref p∧i=.int k∧H p=some (.lst xs)∧ixN xs.length k=some j∧Q (upd H p (.lst (xs.set j v)))
theorem set_list:PSet X rSetL:=by
 intro pins s σ H o i v ov iv u Q I ro ri rv h
 obtain⟨p,xs,k,j,rfl,rfl,hp,hj,q⟩:=h
 cases ro
 obtain⟨t,rfl⟩:=ri
 obtain⟨its,n,r,ho,hz⟩:=I.lst hp
 obtain⟨h1,h2,h3,h4⟩:=ixN_seq hj
 have hl:=r.length
 have hn:=line63
 have I':Inv X pins σ (upd H p (.lst (xs.set j v))) {s with heap:=s.heap.update p (Obj.mapSeq (·.setIfInBounds j u)) } :=
  I.lstUpd hp ho (mapSeq_set its n j u) (r.set rv j) (by rw[List.length_set];exact hz) s.toks
 by_cases h0:0≤k
 ·
  have hk:k.toNat=j:=by
   rw[seqIndex_of h0 h4]at h1
   exact Option.some.inj h1
  exact PySem.W.ki_setAt ho h0 (by omega) (by rw[List.size_toArray,← hl];exact h4) (by rw[hk];exact⟨_,I',q⟩)
 ·
  have hk:(k+(its.toArray.size:Int)).toNat=j:=by
   rw[seqIndex_neg (by omega) h3]at h1
   rw[List.size_toArray,← hl]
   exact Option.some.inj h1
  exact PySem.W.ki_setBack ho (by omega) (by rw[List.size_toArray,← hl];exact h3) (by omega) (by rw[hk];exact⟨_,I',q⟩)
def rSlL(K:PySem.W.Frag):V→Option Int→Option Int→Hp→VK→Prop:=fun x lo hi H Q=>∃a xs,x=.ref a∧SqL K H a xs∧∀p,H p=none→Q (.ref p) (upd H p (.lst (cutV xs lo hi)))
def flatV:V→Bool
 |.non=>true
 |.bl _=>true
 |.int _=>true
 |.str _=>true
 |_=>false
def eqV:V→V→Bool
 |.non,.non=>true
 |.bl a,.bl b=>a == b
 |.bl a,.int b=>(if a then 1 else 0) == b
 |.int a,.bl b=>a == (if b then 1 else 0)
 |.int a,.int b=>a == b
 |.str a,.str b=>a == b
 |_,_=>false
theorem eqAt_V{A:Around}{s:Shared}{y x:V}{u v:Value}(ry:RelV y u)(rx:RelV x v)(fy:flatV y=true)(fx:flatV x=true):SeqAt.EqAt A s u v (eqV y x):=by
 cases y with
 | non =>
  cases ry
  cases x with
  |non=>cases rx;exact SeqAt.EqAt.same _
  |bl b=>cases rx;exact SeqAt.EqAt.none_bool b
  |int b=>obtain⟨t,rfl⟩:=rx;exact SeqAt.EqAt.none_int b t
  |str b=>obtain⟨t,rfl⟩:=rx;exact SeqAt.EqAt.none_str b t
  |_=>exact absurd (show false=true from fx) Bool.false_ne_true
 | bl a =>
  cases ry
  cases x with
  |non=>cases rx;exact SeqAt.EqAt.bool_none a
  |bl b=>cases rx;exact SeqAt.EqAt.bool_bool a b
  |int b=>obtain⟨t,rfl⟩:=rx;exact SeqAt.EqAt.bool_int a b t
  |str b=>obtain⟨t,rfl⟩:=rx;exact SeqAt.EqAt.bool_str a b t
  |_=>exact absurd (show false=true from fx) Bool.false_ne_true
 | int a =>
  obtain⟨t',rfl⟩:=ry
  cases x with
  |non=>cases rx;exact SeqAt.EqAt.int_none a t'
  |bl b=>cases rx;exact SeqAt.EqAt.int_bool a t' b
  |int b=>obtain⟨t,rfl⟩:=rx;exact SeqAt.EqAt.int_int a t' b t
  |str b=>obtain⟨t,rfl⟩:=rx;exact SeqAt.EqAt.int_str a t' b t
  |_=>exact absurd (show false=true from fx) Bool.false_ne_true
 | str a =>
  obtain⟨t',rfl⟩:=ry
  cases x with
  |non=>cases rx;exact SeqAt.EqAt.str_none a t'
  |bl b=>cases rx;exact SeqAt.EqAt.str_bool a t' b
  |int b=>obtain⟨t,rfl⟩:=rx;exact SeqAt.EqAt.str_int a t' b t
  |str b=>obtain⟨t,rfl⟩:=rx;exact SeqAt.EqAt.str_str a t' b t
  |_=>exact absurd (show false=true from fx) Bool.false_ne_true
 |_=>exact absurd (show false=true from fy) Bool.false_ne_true
def eqU(x:V)(u:Value):Bool:=match u with
 |.none=>eqV .non x
 |.bool b=>eqV (.bl b) x
 |.int i _=>eqV (.int i) x
 |.str z _=>eqV (.str z) x
 |_=>false
theorem eqU_of{x y:V}{u:Value}(r:RelV y u)(f:flatV y=true):eqU x u=eqV y x:=by
 cases y with
 |non=>cases r;rfl
 |bl b=>cases r;rfl
 |int i=>obtain⟨t,rfl⟩:=r;rfl
 |str z=>obtain⟨t,rfl⟩:=r;rfl
 |_=>exact absurd (show false=true from f) Bool.false_ne_true
theorem any_eqU{x:V}:∀{xs:List V}{us:List Value},Vals xs us→xs.all flatV=true→us.any (eqU x)=xs.any fun y=>eqV y x
 |_,_,.nil,_=>rfl
 | y::xs,u::us,.cons r t,f=>by
  rw[List.all_cons,Bool.and_eq_true]at f
  rw[List.any_cons,List.any_cons,eqU_of r f.1,any_eqU t f.2]
theorem mem_eqAt{A:Around}{s:Shared}{x:V}{v:Value}(rx:RelV x v)(fx:flatV x=true):∀{xs:List V}{us:List Value},Vals xs us→xs.all flatV=true→∀u∈us,SeqAt.EqAt A s u v (eqU x u)
 |_,_,.nil,_=>fun u hu=>by cases hu
 | y::xs,u::us,.cons r t,f=>fun u' hu=>by
  rw[List.all_cons,Bool.and_eq_true]at f
  rcases List.mem_cons.mp hu with rfl|hu
  ·
   rw[eqU_of r f.1];exact eqAt_V r rx f.1 fx
  ·
   exact mem_eqAt rx fx t f.2 u' hu
def inV(x:V)(xs:List V):Bool:=xs.any fun y=>eqV y x
def rIn(K:PySem.W.Frag)(neg:Bool):R2:=fun x y H Q=>∃p xs,y=.ref p∧(SqL K H p xs∨SqT K H p xs)∧flatV x=true∧xs.all flatV=true∧Q (.bl (if neg then !inV x xs else inV x xs)) H
theorem op_in_seq:OpR X (compareOp .In) (rIn X.K false):=by
 intro pins s σ H x y v u Q I rx ry h
 obtain⟨p,xs,rfl,hq,fx,fs,q⟩:=h
 cases ry
 rcases hq with hq|hq
 ·
  obtain⟨its,r,pl,hz⟩:=I.list hq
  refine SeqAt.in_listAt (eqU x) pl.isList (fun w hw=>mem_eqAt rx fx r fs w (by simpa using hw)) ⟨.bl _,H,I,rfl,?_⟩
  rw[show its.toArray.any (eqU x)=its.any (eqU x) by simp,any_eqU r fs]
  exact q
 ·
  obtain⟨its,r,pl,hz⟩:=I.tuple hq
  refine SeqAt.in_tupleAt (eqU x) pl (fun w hw=>mem_eqAt rx fx r fs w (by simpa using hw)) ⟨.bl _,H,I,rfl,?_⟩
  rw[show its.toArray.any (eqU x)=its.any (eqU x) by simp,any_eqU r fs]
  exact q
theorem call_len_seq:CallR X (.builtin "len") (fun xs H Q=>∃ p ys,xs=[.ref p]∧(SqL X.K H p ys∨SqT X.K H p ys)∧Q (.int ys.length) H):=by
 intro pins s σ H xs us Q I r h
 obtain⟨p,ys,rfl,hq,q⟩:=h
 obtain⟨u,rfl,rx⟩:=vals1 r
 cases rx
 have hn:=line63
 rcases hq with hq|hq
 ·
  obtain⟨its,r',pl,hz⟩:=I.list hq
  have hlen:=r'.length
  exact Calls.call_len_list pl.isList (by simp only[List.size_toArray]<;>omega) ⟨.int ys.length,H,I.tok _,⟨s.toks+1,by rw[List.size_toArray,hlen]⟩,q⟩
 ·
  obtain⟨its,r',pl,hz⟩:=I.tuple hq
  have hlen:=r'.length
  exact len_tuple pl (by simp only[List.size_toArray]<;>omega) ⟨.int ys.length,H,I.tok _,⟨s.toks+1,by rw[List.size_toArray,hlen]⟩,q⟩
theorem call_len_str:CallR X (.builtin "len") (fun xs H Q=>∃ z,xs=[.str z]∧z.length≤sizeLine∧Q (.int z.length) H):=by
 intro pins s σ H xs us Q I r h
 obtain⟨z,rfl,hz,q⟩:=h
 obtain⟨u,rfl,t,rfl⟩:=vals1 r
 have hn:=line63
 exact len_str (by omega) ⟨.int z.length,H,I.tok _,⟨_,rfl⟩,q⟩
theorem CallR.or{f:Value}{r r':List V→Hp→VK→Prop}(h:CallR X f r)(h':CallR X f r'):CallR X f (fun xs H Q=>r xs H Q∨r' xs H Q):=by
 intro pins s σ H xs us Q I rs q
 rcases q with q|q
 ·
  exact h pins s σ H xs us Q I rs q
 ·
  exact h' pins s σ H xs us Q I rs q
theorem call_list_of:CallR X (.type "list") (fun xs H Q=>∃ p ys,xs=[.ref p]∧(SqL X.K H p ys∨SqT X.K H p ys)∧∀ l,H l=none→Q (.ref l) (upd H l (.lst ys))):=by
 intro pins s σ H xs us Q I r h
 obtain⟨p,ys,rfl,hq,q⟩:=h
 obtain⟨u,rfl,rx⟩:=vals1 r
 cases rx
 have fin:∀(its:List Value),Vals ys its→ys.length≤sizeLine→∀(h':Heap)(c':Nat),(∀b o',s.heap.get? b=some o'→h'.get? b=some o') →
   h'.get? s.heap.objs.size=some {cls:=.type "list",dict:=none,data:=.seq its.toArray c',slots:=#[] }→EP X pins σ Q (.ref s.heap.objs.size) {s with heap:=h' }:=fun its r' hz h' c' kp e =>
  ⟨.ref s.heap.objs.size,_,I.laid (t':=s.toks) kp (Nat.le_refl _) (show ObjOk X.prog X.w _ h' _ (.lst ys)from⟨hz,its,c',r',e⟩),rfl,q _ (I.hok.fresh (Nat.le_refl _))⟩
 rcases hq with hq|hq
 ·
  obtain⟨its,r',pl,hz⟩:=I.list hq
  have hlen:=r'.length
  obtain⟨o,ho,hc,n,hd⟩:=pl.isList
  exact call_list_seq p (.inl rfl) ho hc hd (fun h' c' kp e=>fin its r' hz h' c' kp e) (by simp only[List.size_toArray]<;>omega)
 ·
  obtain⟨its,r',pl,hz⟩:=I.tuple hq
  have hlen:=r'.length
  obtain⟨o,ho,hc,n,hd⟩:=pl
  exact call_list_seq p (.inr rfl) ho hc hd (fun h' c' kp e=>fin its r' hz h' c' kp e) (by simp only[List.size_toArray]<;>omega)
def tyV(K:PySem.W.Frag)(T:String)(x:V)(H:Hp):Prop:=match x with
 |.str _=>T="str"
 |.int _=>T="int"
 | .ref p=>(T="list"∧∃ xs,SqL K H p xs)∨(T="tuple"∧∃ o,K.lookup p=some o∧o.cls=.type "tuple"∧o.dict=none) ∨
   (T="dict"∧((∃ kvs,H p=some (.dK kvs))∨∃ kvs,H p=some (.dT kvs)))∨(T="set"∧∃ S n,H p=some (.set S n))
 |_=>False
theorem tyV_is{pins:List (Addr×Obj)}{σ:St}{H:Hp}{s:Shared}{T:String}{x:V}{v:Value}(I:Inv X pins σ H s)(r:RelV x v)(ty:tyV X.K T x H) :
  s.TypeIs v T∧∀a,v=.ref a→∃ob,s.heap.get? a=some ob∧ob.dict=none:=by
 cases x with
 | str z =>
  obtain⟨t,rfl⟩:=r
  cases(show T="str" from ty)
  exact⟨typeIs_str s z t,fun _ e=>nomatch e⟩
 | int i =>
  obtain⟨t,rfl⟩:=r
  cases(show T="int" from ty)
  exact⟨typeIs_int s i t,fun _ e=>nomatch e⟩
 | ref p =>
  cases r
  rcases ty with⟨rfl,xs,hq⟩|⟨rfl,o,hk,hc,hd⟩|⟨rfl,hk⟩|⟨rfl,S,n,hk⟩
  ·
   obtain⟨its,_,pl,_⟩:=I.list hq
   refine⟨pl.isList.typeIs,fun a e=>?_⟩
   cases e
   obtain⟨o,n,e,c,hd,_⟩:=pl
   exact⟨o,e,hd⟩
  ·
   refine⟨⟨o,I.kIn p o hk,hc⟩,fun a e=>?_⟩
   cases e
   exact⟨o,I.kIn _ o hk,hd⟩
  ·
   have z:∃o,s.heap.get? p=some o∧o.ExactDict:=by
    rcases hk with⟨kvs,hk⟩|⟨kvs,hk⟩
    ·
     obtain⟨_,_,_,_,o,_,_,e,ex,_⟩:=I.hok p _ hk
     exact⟨o,e,ex⟩
    ·
     obtain⟨_,_,_,_,o,_,_,e,ex,_⟩:=I.hok p _ hk
     exact⟨o,e,ex⟩
   obtain⟨o,e,ex⟩:=z
   refine⟨⟨o,e,ex.1⟩,fun a e2=>?_⟩
   cases e2
   exact⟨o,e,ex.2.1⟩
  ·
   obtain⟨o,_,_,_,e,ex,_⟩:=I.hok p _ hk
   refine⟨⟨o,e,ex.1⟩,fun a e2=>?_⟩
   cases e2
   exact⟨o,e,ex.2.1⟩
 |_=>exact False.elim ty
def tBM(K:PySem.W.Frag)(T:String)(r:V→List V→Hp→VK→Prop)(to:TE)(t:TA):TE:=fun σ H Q=>to σ H fun x H1=>tyV K T x H1∧t σ H1 fun xs H2=>r x xs H2 Q
variable{o e:Expr}{es:List Expr}{to:TE}{t:TA}{name:Str}{apos cpos:Pos}{T id:String}{r:V→List V→Hp→VK→Prop}
theorem pe_bm(pa:PlainAttrs T)(slot:Slot T name id) (hty:typeOf (.builtin id)=pure (.type "method_descriptor")) (hm:MtR X id r) (ho:PE X o to) (ha:PA X (e::es) t)
  (hbase:attributeBase o name X.env (eval o X.env)=eval o X.env:=by rfl)
  (hfew:((backTo cpos (starEach (e::es) X.env)).all (fun x=>!x.1) && (backToKw cpos (keywordEach [] X.env)).all (fun x=>x.1.isSome)
   && decide ((e::es).length+([]:List Keyword).length+(if([]:List Keyword).isEmpty then 0 else 1)<30))=true:=by rfl)
  (hline:(apos.endLine == cpos.line)=true:=by rfl) (hs:starEach (e::es) X.env=(false,eval e X.env)::starEach es X.env:=by rfl) (hplain:(backTo cpos (starEach es X.env)).any (·.1)=false:=by rfl) :
  PE X (.Call (.Attribute o name apos) (e::es) [] cpos) (tBM X.K T r to t):=by
 intro pins s σ H Q I h
 refine wpAny_Call_method_late hbase hfew hline rfl (thn (ho pins s σ H _ I h) fun v s1 ⟨x,H1,I1,r1,ty,q1⟩=>?_)
 obtain⟨h1,h2⟩:=tyV_is I1 r1 ty
 refine⟨T,id,pa,slot,hty,h1,h2,?_⟩
 have hA:=ha cpos pins s1 σ H1 _ I1 q1
 rw[hs]at hA ⊢
 refine Calls.callWith_builtin (by show(false ||(backTo cpos (starEach es X.env)).any (·.1))=false;rw[hplain]<;>rfl) (Calls.evalArgs_plain ?_)
 exact thn hA fun us s2 ⟨vs,H2,I2,r2,q2⟩=>hm pins s2 σ H2 x vs v us Q I2 r1 r2 q2
/- xs.append(e),list.index on a module's tuple .. are MtR facts of 06m -/
end
def MtM(X:Cx)(id:String)(r:V→List V→Hp→VK→Prop):Prop :=
 ∀(pins:List (Addr×Obj))(s:Shared)(σ:St)(H:Hp)(x:V)(xs:List V)(v:Value)(us:List Value)(Q:VK),Inv X pins σ H s→RelV x v→Vals xs us→r x xs H Q →
  wpAny (model X.prog X.w) X.A (call (.builtin id) (v::us)) (EP X pins σ Q) X.xe s
theorem Vals.one:∀{x:V}{us:List Value},Vals [x] us→∃u,us=[u]∧RelV x u
 |_,_,.cons r .nil=>⟨_,rfl,r⟩
theorem Vals.reverse{xs:List V}{us:List Value}(h:Vals xs us):Vals xs.reverse us.reverse:=by
 induction h with
 |nil=>exact .nil
 |cons r t ih=>rw[List.reverse_cons,List.reverse_cons];exact Vals.append ih (.cons r .nil)
section
variable{X:Cx}{pins:List (Addr×Obj)}{σ:St}{H:Hp}{s:Shared}{l:Addr}{xs ys:List V}
theorem Inv.lset{its its':List Value}{n:Nat}{f:Array Value→Array Value}{t':Nat}(I:Inv X pins σ H s)(hH:H l=some (.lst xs))
  (e:s.heap.get? l=some {cls:=.type "list",data:=.seq its.toArray n}) (hf:f its.toArray=its'.toArray) (hv:Vals ys its') (hz:ys.length≤sizeLine) :
  Inv X pins σ (upd H l (.lst ys)) {s with heap:=s.heap.update l (Obj.mapSeq f),toks:=t' }:=by
 have q:=PySem.IsL.update e f
 rw[hf]at q
 refine I.write (x:=l) (e:=l) (by rw[hH];exact trivial) (.inl rfl) (fun b' u hb hu=>(Heap.get?_update_other s.heap (Obj.mapSeq f) (Ne.symm hb)).trans hu) ⟨_,q⟩ ?_
 exact⟨hz,its',_,hv,q⟩
theorem Inv.lnew{its:List Value}{t':Nat}(I:Inv X pins σ H s)(hv:Vals ys its)(hz:ys.length≤sizeLine) :
  Inv X pins σ (upd H s.heap.objs.size (.lst ys)) {s with heap:=s.heap.push {cls:=.type "list",data:=.seq its.toArray},toks:=t' } :=
 I.laid (fun _ _ q=>Heap.get?_push_of_some _ q) (Nat.le_refl _) ⟨hz,its,0,hv,Heap.get?_push_size _ rfl⟩
theorem Inv.fresh(I:Inv X pins σ H s):H s.heap.objs.size=none:=I.hok.fresh (Nat.le_refl _)
theorem Inv.lstM(I:Inv X pins σ H s)(hH:H l=some (.lst xs)):xs.length≤sizeLine∧∃(its:List Value)(n:Nat),Vals xs its∧xs.length=its.length∧s.heap.get? l=some {cls:=.type "list",data:=.seq its.toArray n}:=by
 obtain⟨z,its,n,r,e⟩:=I.hok l _ hH
 exact⟨z,its,n,r,r.length,e⟩
end
section
variable{X:Cx}
def rAppend:V→List V→Hp→VK→Prop:=fun x vs H Q=>∃l xs y,x=.ref l∧vs=[y]∧H l=some (.lst xs)∧xs.length<sizeLine∧Q .non (upd H l (.lst (xs++[y])))
theorem mt_append:MtM X "list.append" rAppend:=by
 intro pins s σ H x vs v us Q I rx rv h
 obtain⟨l,xs,y,rfl,rfl,hH,hz,q⟩:=h
 cases rx
 obtain⟨u,rfl,ru⟩:=rv.one
 obtain⟨z,its,n,r,hl,e⟩:=I.lstM hH
 refine call_meets F.slot_list_append ⟨_,e,rfl⟩ F.entry_list_append (F.args_list_append_2 _ _) (PySem.list_append l its.toArray n u (by rw[List.size_toArray];omega)) ⟨e,?_⟩
 refine⟨.non,_,I.lset (its':=its++[u]) hH e (by simp) (r.append (.cons ru .nil)) ?_,rfl,q⟩
 rw[List.length_append,List.length_singleton]
 omega
end
end L2
namespace Att
open PySem PySem.W PySem.Calls PyProof.Rows
theorem ints_of_wellAll{P:Params}{h:Heap}:∀(ns:List Int)(vs:List Value),WellAll P h vs (ns.map WData.int)→IntsAre vs ns:=by
 intro ns
 induction ns with
 | nil =>
  intro vs w
  rw[List.map_nil]at w
  cases w
  exact .nil
 | cons n ns ih =>
  intro vs w
  rw[List.map_cons]at w
  cases w with
  | cons a b =>
   cases a
   exact .cons _ _ (ih _ b)
theorem script_of{l:OpenLaw}{n:Nat}(hn:l.most=some n){P:Params}{h:Heap}{args:List WData}{vals:List Value}
  (hpre:l.row.toRowW.claim.pre args=true) (hwl:WellAll P h vals args) :
  ∃ a vs ns,vals=[Value.ref a]∧args=[WData.list (ns.map WData.int)]∧h.get? a=some {cls:=.type "list",data:=.seq vs.toArray}∧IntsAre vs ns∧ns.length≤n:=by
 have hsh:WShape.hasAll [] args [.list .int]=true:=(pre_splitW hpre).1
 have hc:l.pre.holds [] {args:=args}=true:=(pre_splitW hpre).2
 obtain⟨d,r,rfl,h1,h2⟩:=hasAllW_cons hsh
 obtain rfl:=hasAllW_nil h2
 obtain⟨xs,rfl,h3⟩:=hasW_list h1
 obtain⟨ns,rfl⟩:=items_int h3
 have hlen:ns.length≤n:=by
  unfold OpenLaw.pre at hc
  have h4:(WTm.not (.lt (.lit (.int (n:Int))) (.len (.arg 0)))).holds [] {args:=[.list (ns.map .int)] }=true:=by
   have h4:=(holds_andW hc).1
   rw[hn]at h4
   exact h4
  have h5:=condW_of h4 (w_not (w_lt w_lit (w_len_list (w_arg rfl))))
  rw[List.length_map]at h5
  refine Nat.le_of_not_lt fun q=>?_
  have q':(n:Int)<((ns.length:Nat):Int):=by omega
  first
   |(rw[decide_eq_true q']at h5;exact absurd h5 (by decide))
   |(simp at h5;omega)
 cases hwl with
 | cons w1 w2 =>
  cases w2
  cases w1 with
  |list ho hall=>exact⟨_,_,ns,rfl,rfl,ho,ints_of_wellAll ns _ hall,hlen⟩
theorem post_true(l:OpenLaw)(args:List WData):l.row.toRowW.claim.post args (.bool true) args=true :=
 postW_of (r:=l.row.toRowW) (X:=(true == true))
  (show WShape.has [] (.bool true) .bool=true by first|rfl|decide|simp[WShape.has,WShape.arms,WShape.armsAll])
  (show(WTm.eq .res (.lit (.bool true))).value [] {args:=args,res:=some (.bool true),after:=args}=some (.bool (true == true))from w_eq_bool (w_res rfl) w_lit) rfl
theorem attach_call{l:OpenLaw}{n:Nat}{q:Program}{loose:List Str}{XP:(Str→Option Value)→Heap→Prop}{YP:World→Heap→Prop}{d:DefRec}
  (hn:l.most=some n) (hdf:d.params.defaults=[])
  (call:∀(w:World)(s₀ s₁:Shared)(mg mb:Str→Option Value)(fa:Addr)(o:Obj)(pm cd doc:Value)(a:Addr)(vs:List Value)(ns:List Int),
   Ground q loose [] XP w s₀ mg mb s₁.heap→YP w s₁.heap →
   s₁.heap.get? fa=some o→o.data=.func (docDef d.name d.params d.body d.scope pm cd doc)→s₁.heap.CodeRec cd d.name→mg d.name=some (.ref fa) →
   s₁.heap.get? a=some {cls:=.type "list",data:=.seq vs.toArray}→IntsAre vs ns→ns.length≤n→s₁.gens=#[] →
   codeAny (model l.prog w) callerA (.call (.ref fa) ⟨[.ref a],[]⟩) (fun r s'=>r=.ok (.ret (.bool true))∧OldK s₁.heap s'.heap∧s'.os=s₁.os∧AllBare s'.gens) s₁) :
  WalkO q loose XP YP l.row.toRowW d [] (fun f vs=>PySem.call f vs):=by
 intro w s₀ s₁ mg mb G Y fa o pm cd doc dV kV ho hd hcd hD hmg hg args vals as hpre hlay hrd hwl hlo
 obtain rfl:dV=.none:=Dflts.none hD hdf
 obtain rfl:kV=.none:=Dflts.noKw hD
 obtain⟨a,vs,ns,rfl,rfl,hobj,hints,hlen⟩:=script_of hn hpre hwl
 refine enter_call (codeAny_mono (call w s₀ s₁ mg mb fa o pm cd doc a vs ns G Y ho (fd_plain hd) hcd hmg hobj hints hlen hg) fun r s' hq=>?_)
 obtain⟨rfl,h2,h3,h4⟩:=hq
 exact⟨.inl ⟨.bool true,.bool true,[],rfl,fun _=>rfl,.bool true,post_true l _,fun _=>⟨List.Pairwise.nil,fun _ hm=>(nomatch hm)⟩⟩,h2,h3,h4⟩
section
def ledger(h:Heap)(L d:Addr):List (Addr×Obj):=(List.range h.objs.size).filterMap fun a=>if a=L∨a=d then none else(h.get? a).map fun o=>(a,o)
end
end Att
namespace L2
open PySem PySem.Spec PyProof.Rows
theorem vals_ints:∀{vs:List Value}{ns:List Int},IntsAre vs ns→Vals (ns.map V.int) vs
 |_,_,.nil=>.nil
 |_,_,.cons n t h=>.cons ⟨t,rfl⟩ (vals_ints h)
def Only(H:Hp):Prop:=∀b,H b=none∨(∃o xs,H b=some (.frz o (.lst xs)))∨∃q,H b=some (.tbl q)
def tabsK(K:PySem.W.Frag):List (Addr×Str):=lamNames.filterMap fun x=>(PySem.W.tabIn K x).map fun p=>(p.2,lamQ x)
def tabsOk(K:PySem.W.Frag):Bool:=decide ((tabsK K).map (·.1)).Nodup && (tabsK K).all fun p=>(K.lookup p.1).isNone
theorem mem_tabsK{K:PySem.W.Frag}{P:Addr}{q:Str}(h:(P,q)∈tabsK K):∃x∈lamNames,∃c,PySem.W.tabIn K x=some (c,P)∧q=lamQ x:=by
 obtain⟨x,hx,e⟩:=List.mem_filterMap.mp h
 cases z:PySem.W.tabIn K x with
 |none=>rw[z]at e;cases e
 |some p=>rw[z]at e;cases e;exact⟨x,hx,p.1,z,rfl⟩
theorem mem_of_lookup'{α β:Type}[BEq α][LawfulBEq α]:∀{l:List (α×β)}{a:α}{b:β},l.lookup a=some b→(a,b)∈l
 |[],_,_,h=>nomatch h
 | (x,y)::r,a,b,h=>by
  rw[List.lookup_cons]at h
  cases hb:a == x with
  |true=>rw[hb]at h;cases h;rw[eq_of_beq hb];exact .head _
  |false=>rw[hb]at h;exact .tail _ (mem_of_lookup' h)
theorem lookup_of_nodup{α β:Type}[BEq α][LawfulBEq α]:∀{l:List (α×β)}{a:α}{b:β},(l.map (·.1)).Nodup→(a,b)∈l→l.lookup a=some b
 |[],_,_,_,h=>nomatch h
 | (x,y)::r,a,b,nd,h=>by
  rw[List.map_cons,List.nodup_cons]at nd
  rw[List.lookup_cons]
  rcases List.mem_cons.mp h with e|h
  ·
   cases e;simp
  ·
   have:a≠x:=fun z=>nd.1 (z ▸ List.mem_map_of_mem (f:=(·.1)) h)
   rw[show(a == x)=false from beq_false_of_ne this]
   exact lookup_of_nodup nd.2 h
theorem tabIn_some{K:PySem.W.Frag}{x:Str}{c P:Addr}(h:PySem.W.tabIn K x=some (c,P)):K.lookup c≠none:=by
 unfold PySem.W.tabIn at h
 split at h
 ·
  split at h
  ·
   split at h
   ·
    split at h
    ·
     rename_i hco
     split at h
     ·
      cases h;intro z;rw[hco]at z;cases z
     ·
      cases h
    ·
     cases h
   ·
    cases h
  ·
   cases h
 ·
  cases h
theorem law_call{P:Program}{w:World}{K:PySem.W.Frag}{mg mb:Str→Option Value}{CX:CXT}{k:Nat}{fa a:Addr}{fd:FuncData}{x:Str}{sp:Sp}{s₁:Shared}{vs:List Value}{ns:List Int}
  (KX:K.In s₁.heap) (hns:s₁.heap.Ns mainGlobals mg) (hb:s₁.heap.Ns builtinsNs mb) (hbb:∀ x:Str,x≠"__name__"→mb x=bootBuiltins x) (hlim:s₁.heap.NoLimit) (hsys:∃ mm,s₁.heap.Ns sysModules mm) (hbm:BMain mg s₁.heap) (hto:tabsOk K=true)
  (htb:∀x∈lamNames,∀c P,PySem.W.tabIn K x=some (c,P)→PySem.W.CodeHd s₁.heap c P∧s₁.heap.get? P=some (PySem.W.tabObj #[])) (hg:s₁.gens=#[])
  (ha:s₁.heap.get? a=some {cls:=.type "list",data:=.seq vs.toArray}) (hi:IntsAre vs ns) (hl:ns.length≤sizeLine) (hr:Room k callerA)
  (F:∀base:Heap,K.In base→base.Ns mainGlobals mg→FnOk P w K mg base CX k fa fd [x] sp) (hbind:∀(s:Shared)(u:Value),BindsTo s fd ⟨[u],[]⟩ [(x,u)])
  (hsp:∀H:Hp,Only H→SqL K H a (ns.map V.int)→sp [.ref a] H (fun v _=>v=.bl true) fun _ _ _=>False)
  (hCX:∀H e s',CX [] H s₁ (fun _ _ _=>False) e s'→False) :
  codeAny (model P w) callerA (.call (.ref fa) ⟨[.ref a],[]⟩) (fun r s'=>r=.ok (.ret (.bool true))∧OldK s₁.heap s'.heap∧s'.os=s₁.os∧AllBare s'.gens) s₁:=by
 have rv:=vals_ints hi
 have lenV:=hi.length
 obtain⟨nd,kn⟩:=Bool.and_eq_true_iff.mp hto
 have nd:=of_decide_eq_true nd
 have tabAt:∀{b:Addr}{q:Str},(tabsK K).lookup b=some q→PySem.isCodeTable s₁.heap b∧s₁.heap.get? b=some (PySem.W.tabObj #[])∧K.lookup b=none:=fun {b q} e=>by
  have hm:(b,q)∈tabsK K:=mem_of_lookup' e
  obtain⟨x,hx,c,e1,_⟩:=mem_tabsK hm
  obtain⟨h1,h2⟩:=htb x hx c b e1
  refine⟨(h1.tab h2).isCodeTable,h2,?_⟩
  have:=List.all_eq_true.mp kn (b,q) hm
  simpa using this
 have core:∀H:Hp,Only H→SqL K H a (ns.map V.int)→HOk P w H s₁.heap→(∀b,H b≠none→b=a∨∃q,H b=some (.tbl q)∧(tabsK K).lookup b=some q)→(∀b,H b≠none→K.lookup b=none)→Tbs K H →
   codeAny (model P w) callerA (.call (.ref fa) ⟨[.ref a],[]⟩) (fun r s'=>r=.ok (.ret (.bool true))∧OldK s₁.heap s'.heap∧s'.os=s₁.os∧AllBare s'.gens) s₁:=by
  intro H hO hS hok hA hK hT
  have base_of:∀{b:Addr}{o:Obj},s₁.heap.get? b=some o→H b=none→(hidT s₁.heap H).get? b=some o:=fun e n=>hidT_get e n
  have noB:∀{b:Addr}{o:Obj},s₁.heap.get? b=some o→(∀us n,o.data≠.seq us n)→(∀us,o.data≠.fields us)→H b=none:=fun {b o} e d1 d2=>by
   cases q:H b with
   |none=>rfl
   | some u =>
    rcases hA b (by rw[q];simp)with e' | ⟨z,_,e'⟩
    ·
     subst e'
     rw[ha]at e;cases e
     exact absurd rfl (d1 _ _)
    ·
     rw[(tabAt e').2.1]at e;cases e
     exact absurd rfl (d2 _)
  have noA:∀{b:Addr}{o:Obj}{es:Array DictEntry}{ep:Nat},s₁.heap.get? b=some o→o.data=.dict es ep→H b=none:=fun {b o es ep} e d =>
   noB e (fun us n z=>by rw[d]at z;cases z) fun us z=>by rw[d]at z;cases z
  have nsK:∀{b:Addr}{m:Str→Option Value},s₁.heap.Ns b m→(hidT s₁.heap H).Ns b m:=fun {b m} ⟨o,es,ep,e,d,r⟩=>⟨o,es,ep,base_of e (noA e d),d,r⟩
  have hKb:K.In (hidT s₁.heap H):=fun b o e=>base_of (KX b o e) (by
   cases q:H b with
   |none=>rfl
   |some u=>rw[hK b (by rw[q];simp)]at e;cases e)
  have hM:Mod K mg (hidT s₁.heap H):=⟨hKb,nsK hns,⟨mb,nsK hb,hbb⟩,let ⟨mc,h1,h2⟩:=hlim;⟨mc,nsK h1,h2⟩,let ⟨mm,h1⟩:=hsys;⟨mm,nsK h1⟩,by
   obtain⟨bm,ob,b1,b2,b3,b4,b5,b6⟩:=hbm
   exact⟨bm,ob,b1,b2,base_of b3 (noB b3 (fun us n z=>by rw[b6]at z;cases z) fun us z=>by rw[b6]at z;cases z),b4,b5,b6⟩,fun x hx c P e=>by
   obtain⟨⟨o,vs,file,tf,flags,tg,inF,text,tt,e1,r⟩,_⟩:=htb x hx c P e
   exact⟨o,vs,file,tf,flags,tg,inF,text,tt,base_of e1 (by
    cases q:H c with
    |none=>rfl
    |some u=>exact absurd (hK c (by rw[q];simp)) (tabIn_some e)),r⟩⟩
  have e0:Env0 P w K mg (hidT s₁.heap H) callerA [] s₁ H:=⟨rfl,hM,fun b o e=>of_hidT e,Nat.le_of_eq (hidT_size _ _),trivial,fun b hb=>absurd (show b∈([]:List Addr)from hb) (by simp),hok,.of_eq hg,hT⟩
  refine codeAny_mono ((F _ hKb (nsK hns)).run callerA [] s₁ H ⟨[.ref a],[]⟩ [.ref a] [.ref a] _ _ hr e0 (hbind s₁ (.ref a)) (.cons rfl .nil) (hsp H hO hS)) fun r s' h=>?_
  cases r with
  |error e=>exact(hCX H e s' h).elim
  | ok fl =>
   cases fl with
   |next=>exact False.elim h
   |brk=>exact False.elim h
   |cont=>exact False.elim h
   | ret u =>
    obtain⟨v,H',os,bare,un,hok',r',q⟩:=h
    have q':v=.bl true:=q
    subst q'
    obtain rfl:u=Value.bool true:=r'
    have fin:∀b o,s₁.heap.get? b=some o→s'.heap.get? b=some o∨(PySem.isCodeTable s₁.heap b∧o=PySem.W.tabObj #[]∧∃ps,s'.heap.get? b=some (PySem.W.tabObj ps)):=fun b o e=>by
     cases q:H b with
     |none=>exact .inl (un.keep b o e q (by intro z;exact absurd (show b∈([]:List Addr)from z) (by simp)) (by simp))
     | some u =>
      rcases hO b with z|⟨ob,xs,z⟩|⟨t,z⟩
      ·
       rw[q]at z;cases z
      ·
       have z2:=un.frzs b ob _ z
       obtain⟨e1,_⟩:=hok b _ z
       obtain⟨e2,_⟩:=hok' b _ z2
       rw[e]at e1;cases e1
       exact .inl e2
      ·
       rcases hA b (by rw[q];simp)with e' | ⟨t2,_,e'⟩
       ·
        subst e'
        obtain⟨ps,e1,_⟩:=hok b _ z
        rw[ha]at e1;cases e1
       ·
        obtain⟨ps,e2,_⟩:=hok' b _ (un.tbls b _ z)
        obtain⟨t1,t2,_⟩:=tabAt e'
        rw[e]at t2;cases t2
        exact .inr ⟨t1,rfl,ps,e2⟩
    refine⟨rfl,⟨fun b o e=>?_,fun b o e=>?_⟩,os,bare⟩
    ·
     rcases fin b o e with z|⟨t,rfl,ps,z⟩
     ·
      exact .inl z
     ·
      exact .inr (.inl ⟨t,rfl,#[],ps,rfl,by rw[Array.empty_append];exact z⟩)
    ·
     rcases fin b o e with z|⟨t,_,ps,z⟩
     ·
      exact⟨o,z⟩
     ·
      exact⟨_,z⟩
 have tbsOf:∀{H:Hp},(∀b q,(tabsK K).lookup b=some q→H b=some (.tbl q))→Tbs K H:=fun {H} h x hx c P e=>h P _ (lookup_of_nodup nd (List.mem_filterMap.mpr ⟨x,hx,by rw[e];rfl⟩))
 have okT:∀{H:Hp}{b:Addr}{q:Str},(tabsK K).lookup b=some q→ObjOk P w H s₁.heap b (.tbl q):=fun {H b q} e=>⟨#[],(tabAt e).2.1,trivial,fun pos cv z=>by simp[codeAmong]at z⟩
 have na:∀q,(tabsK K).lookup a≠some q:=fun q z=>by
  have:=(tabAt z).2.1
  rw[ha]at this;cases this
 cases hk:K.lookup a with
 | some o =>
  have e:=KX a o hk
  rw[ha]at e
  cases e
  refine core (fun b=>((tabsK K).lookup b).map .tbl) (fun b=>?_) (.inr ⟨_,vs.toArray,_,hk,rfl,rfl,rfl,by rw[List.size_toArray,lenV];exact hl,by simpa using rv⟩) (fun b u z=>?_) (fun b z=>?_) (fun b z=>?_) (tbsOf fun b q e=>by show Option.map _ _=_;rw[e];rfl)
  ·
   show Option.map HO.tbl ((tabsK K).lookup b)=none∨_
   cases q:(tabsK K).lookup b with
   |none=>exact .inl rfl
   |some t=>exact .inr (.inr ⟨t,by show Option.map _ _=_;rw[q];rfl⟩)
  ·
   have z':Option.map HO.tbl ((tabsK K).lookup b)=some u:=z
   cases q:(tabsK K).lookup b with
   |none=>rw[q]at z';cases z'
   |some t=>rw[q]at z';cases z';exact okT q
  ·
   have z':Option.map HO.tbl ((tabsK K).lookup b)≠none:=z
   cases q:(tabsK K).lookup b with
   |none=>rw[q]at z';exact absurd rfl z'
   |some t=>exact .inr ⟨t,rfl,rfl⟩
  ·
   have z':Option.map HO.tbl ((tabsK K).lookup b)≠none:=z
   cases q:(tabsK K).lookup b with
   |none=>rw[q]at z';exact absurd rfl z'
   |some t=>exact(tabAt q).2.2
 | none =>
  have at_a:∀ b,(if b=a then some (HO.frz {cls:=.type "list",data:=.seq vs.toArray} (.lst (ns.map V.int)))else((tabsK K).lookup b).map .tbl)≠none→b=a∨∃ q,(tabsK K).lookup b=some q:=fun b z=>by
   by_cases hb:b=a
   ·
    exact .inl hb
   ·
    rw[if_neg hb]at z
    cases q:(tabsK K).lookup b with
    |none=>rw[q]at z;exact absurd rfl z
    |some t=>exact .inr ⟨t,rfl⟩
  have tabA:∀ b q,(tabsK K).lookup b=some q→(if b=a then some (HO.frz {cls:=.type "list",data:=.seq vs.toArray} (.lst (ns.map V.int)))else((tabsK K).lookup b).map .tbl)=some (.tbl q):=fun b q e=>by
   rw[if_neg (fun (z:b=a)=>na q (by rw[← z];exact e)),e];rfl
  refine core (fun b=>if b=a then some (.frz {cls:=.type "list",data:=.seq vs.toArray} (.lst (ns.map V.int)))else((tabsK K).lookup b).map .tbl) (fun b=>?_) (.inl (.inr ⟨{cls:=.type "list",data:=.seq vs.toArray},if_pos rfl⟩)) (fun b u z=>?_) (fun b z=>?_) (fun b z=>?_) (tbsOf fun b q e=>tabA b q e)
  ·
   by_cases hb:b=a
   ·
    exact .inr (.inl ⟨_,_,if_pos hb⟩)
   ·
    cases q:(tabsK K).lookup b with
    |none=>exact .inl (by show ite _ _ _=_;rw[if_neg hb,q];rfl)
    |some t=>exact .inr (.inr ⟨t,tabA b t q⟩)
  ·
   by_cases hb:b=a
   ·
    have z':=(if_pos hb).symm.trans z
    cases z'
    subst hb
    exact⟨ha,by rw[List.length_map];exact hl,vs,_,rv,ha⟩
   ·
    have z':=(if_neg hb).symm.trans z
    cases q:(tabsK K).lookup b with
    |none=>rw[q]at z';cases z'
    |some t=>rw[q]at z';cases z';exact okT q
  ·
   rcases at_a b z with e|⟨q,e⟩
   ·
    exact .inl e
   ·
    exact .inr ⟨q,tabA b q e,e⟩
  ·
   rcases at_a b z with e|⟨q,e⟩
   ·
    rw[e];exact hk
   ·
    exact(tabAt e).2.2
theorem walk_of{l:PySem.W.OpenLaw}{n k:Nat}{q:Program}{loose:List Str}{XP:(Str→Option Value)→Heap→Prop}{YP:World→Heap→Prop}{d:DefRec}{K:Params→PySem.W.Frag}{CX:World→CXT}{sp:World→Sp}{x:Str}
  (hn:l.most=some n) (hq:importsNone q=true) (hn2:n≤sizeLine) (hdf:d.params.defaults=[]) (hr:Room k callerA)
  (hY:∀(w:World)(h:Heap),YP w h→(K w.params).In h) (hto:∀w:World,tabsOk (K w.params)=true) (hrc:∀(w:World),∀x∈lamNames,PySem.W.tabIn (K w.params) x=none∨((recsOf q).find? fun e=>e.name == x).isSome=true)
  (F:∀(w:World)(mg:Str→Option Value)(fa:Addr)(h:Heap),(K w.params).In h→h.Ns mainGlobals mg→mg d.name=some (.ref fa) →
   ∃fd:FuncData,(∀(s:Shared)(u:Value),BindsTo s fd ⟨[u],[]⟩ [(x,u)]) ∧
    ∀base:Heap,(K w.params).In base→base.Ns mainGlobals mg→FnOk l.prog w (K w.params) mg base (CX w) k fa fd [x] (sp w))
  (hsp:∀(w:World)(H:Hp)(a:Addr)(ns:List Int),ns.length≤n→Only H→SqL (K w.params) H a (ns.map V.int)→sp w [.ref a] H (fun v _=>v=.bl true) fun _ _ _=>False)
  (hCX:∀(w:World)(H:Hp)(s:Shared)(e:Value)(s':Shared),CX w [] H s (fun _ _ _=>False) e s'→False) :
  PySem.W.WalkO q loose XP YP l.row.toRowW d [] (fun f vs=>PySem.call f vs):=by
 refine Att.attach_call hn hdf fun w s₀ s₁ mg mb fa o pm cd doc a vs ns G Y ho hd hcd hmg hobj hints hlen hg=>?_
 have KX:=hY w _ Y
 obtain⟨fd,hb,hF⟩:=F w mg fa _ KX G.T.g hmg
 exact law_call KX G.T.g G.T.b G.T.builtins G.T.nolimit (let ⟨mm,h1,_⟩:=(G.T.seer hq).mods;⟨mm,h1⟩) (let ⟨bm,ob,b1,b2,b3,b4,b5,b6⟩:=G.T.bmain;⟨bm,ob,b1,b2,b3,b4,b5,b6⟩) (hto w) (fun y hy c P e=>by
  rcases hrc w y hy with z|z
  ·
   rw[z]at e;cases e
  ·
   obtain⟨d',hd'⟩:=Option.isSome_iff_exists.mp z
   exact PySem.W.tab_of G.T KX hd' e) hg hobj hints (Nat.le_trans hlen hn2) hr hF hb (fun H hO hS=>hsp w H a ns hlen hO hS) fun H e s'=>hCX w H s₁ e s'
def defArgs(s:Stmt):Arguments:=match s with
 |.FunctionDef _ a _ _ _ _ _ _ _ _=>a
 |_=>{posonlyargs:=[],args:=[],vararg:=none,kwonlyargs:=[],kw_defaults:=[],kwarg:=none,defaults:=[] }
def defBody(s:Stmt):List Stmt:=match s with
 |.FunctionDef _ _ b _ _ _ _ _ _ _=>b
 |_=>[]
def defScope(s:Stmt):Scope:=match s with
 |.FunctionDef _ _ _ _ _ _ sc _ _ _=>sc
 |_=>{kind:=.function,names:=[],isGenerator:=false,isCoroutine:=false}
abbrev CX0:CXT:=fun _ _ _ _ _ _=>False
abbrev E0:XK:=fun _ _ _=>False
theorem pass0{X:Cx}:Passes CX0 X E0:=fun _ _ _ _ _ _ _ h=>h.elim
structure Fun (K:PySem.W.Frag) (x qual:Str) (st:Stmt) (f:Addr) (fd:FuncData):Prop where
 ex:∃(oc:Value)(od:Option Addr)(kV doc pm:Value)(an:Option Addr)(cdv ct:Value)(osl:Array (Option Value)),
  fd=PySem.W.fnOf x qual (defArgs st) (defBody st) (defScope st) .none kV doc pm an cdv ct∧K.lookup f=some ⟨oc,od,.func fd,osl⟩∧PySem.W.codeIn K cdv qual=true
 kp:PySem.W.keepIn K (.ref f)=true
section
variable{P:Program}{w:World}{K:PySem.W.Frag}{mg:Str→Option Value}{base:Heap}
theorem Fun.ok{x qual:Str}{st:Stmt}{f:Addr}{fd:FuncData}{N ps:List Str}{k:Nat}{sp:Sp}(F:Fun K x qual st f fd)(S:FnScope N ps (defScope st))(len:∀vs H Q E,sp vs H Q E→vs.length=ps.length)
  (hbody:∀(cdv:Value)(A:Around)(outer:List Env)(s:Shared)(H:Hp)(vs:List V)(Q:VK)(E:XK),Room k (A.deeper (envOfC qual (defScope st) s.heap.objs.size f cdv))→sp vs H Q E →
   ∃t,PSs (cxOf CX0 P w K mg base N qual (defScope st) f cdv A outer s H E).nox (defBody st) t∧t {nx:=fun _ H'=>Q .non H',rt:=Q} (start N vs) H):FnOk P w K mg base CX0 (k+1) f fd ps sp:=by
 obtain⟨oc,od,kV,doc,pm,an,cdv,ct,osl,rfl,lk,hcd⟩:=F.ex
 refine fn_of lk hcd S len fun A outer s H vs Q E hr hsp=>?_
 obtain⟨t,h,q⟩:=hbody cdv A outer s H vs Q E hr hsp
 exact⟨t,h.nox,q⟩
theorem Fun.binds{x qual:Str}{st:Stmt}{f:Addr}{fd:FuncData}{ps:List Str}(F:Fun K x qual st f fd)
  (h:∀(kV doc pm:Value)(an:Option Addr)(cdv ct:Value)(us:List Value),us.length=ps.length→bindArgs (PySem.W.fnOf x qual (defArgs st) (defBody st) (defScope st) .none kV doc pm an cdv ct) ⟨us,[]⟩=pure (ps.zip us)):Binds K fd ps []:=by
 obtain⟨oc,od,kV,doc,pm,an,cdv,ct,osl,rfl,lk,hcd⟩:=F.ex
 exact .all (h kV doc pm an cdv ct)
theorem fun_mk{x qual:Str}{st:Stmt}{f:Addr}{oc:Value}{od an:Option Addr}{osl:Array (Option Value)}{kV doc pm cdv ct:Value}(l:K.lookup f=some ⟨oc,od,.func (PySem.W.fnOf x qual (defArgs st) (defBody st) (defScope st) .none kV doc pm an cdv ct),osl⟩)
  (c:PySem.W.codeIn K cdv qual=true) (k:PySem.W.keepIn K (.ref f)=true):Fun K x qual st f (PySem.W.fnOf x qual (defArgs st) (defBody st) (defScope st) .none kV doc pm an cdv ct):=⟨⟨oc,od,kV,doc,pm,an,cdv,ct,osl,rfl,l,c⟩,k⟩
end
def Same(H H':Hp):Prop:=∀b o,H b=some o→H' b=some o
theorem Same.free{H H':Hp}(e:Same H H'){l:Addr}(h:H' l=Option.none):H l=Option.none:=by
 cases q:H l with
 |none=>rfl
 | some o =>
  rw[e l o q]at h
  cases h
end L2
set_option maxHeartbeats 0
namespace L2
open PySem PySem.Spec
open Sem (wp)
theorem slot_fn_ga:Slot "function" "__getattribute__" "object.__getattribute__" :=
 .of (owner:="object") (n:="__getattribute__") (by rw[typeLookup_type,builtinLookup_eq_fast]; kernel_rfl) (by decide +kernel) (by decide +kernel) (by decide +kernel)
  (by first|exact .inl (by decide +kernel)|exact .inr (by decide +kernel)) (by rw[isSubtype_type];kernel_rfl)
theorem entry_fn_ga:entryFor table "object.__getattribute__"=some Builtin.«object.__getattribute__»:=by
 first | exact F.entry_object_getattribute | exact entryFor_alias (id':="object.__getattribute__") (by kernel_rfl) (by first | rfl | decide +kernel) (by decide +kernel) (by kernel_rfl) | kernel_rfl
theorem args_fn_ga(a b:Value):argsOk "object.__getattribute__" ⟨[a,b],[]⟩:=by
 first|exact F.args_object_getattribute_2 a b|(unfold argsOk;kernel_rfl)
theorem lk_fn_class:typeLookup (.type "function") "__class__"=pure (some (.builtin "object.__class__")):=by rw[typeLookup_type,builtinLookup_eq_fast]; kernel_rfl
theorem sub_fn_class_owner:isSubtype (.type "function") (.type (".".intercalate ("object.__class__".cutAt '.').dropLast))=pure true:=by
 rw[F.owner_object_class,isSubtype_type];kernel_rfl
section
variable{prog:Program}{w:World}{A:Around}{E:Value→Shared→Prop}{h:Heap}{g:Array GenState}{d:Drawn}{t:Nat}{os:OsState}{a:Addr}{o:Obj}
theorem class_get_fn{R:Result→Shared→Prop}(hx:h.get? a=some o) (hc:o.cls=.type "function") (hq:R (.ok (.ret (.type "function"))) ⟨h,g,d,t,os⟩) :
  codeAny (model prog w) A (.call (.builtin "getset_descriptor.__get__") ⟨[.builtin "object.__class__",.ref a,.type "function"],[]⟩) R ⟨h,g,d,t,os⟩:=by
 have hT:(⟨h,g,d,t,os⟩:Shared).TypeIs (.ref a) "function":=⟨_,hx,hc⟩
 have hT5:(⟨h,g,d,t,os⟩:Shared).TypeIs (.builtin "object.__class__") "getset_descriptor":=F.typeOf_object_class
 have f8:=sub_fn_class_owner
 refine codeAny_call_builtin F.slot_gs_get.plain F.entry_gs_get (F.slot_gs_get.check _ _ _ _ _ _ _ _ hT5 (F.args_gs_get _ _ _) ?_)
 repeat (any_goals (first|assumption|wp_step))
 refine⟨Code.quiet_builtin _ (by decide +kernel),codeAny_builtin F.entry_object_class ?_⟩
 repeat (any_goals (first|assumption|wp_step))
theorem class_entry_fn{tk:Tok}{Q:PySem.Fin→Shared→Prop}(hx:h.get? a=some o) (hc:o.cls=.type "function") (hq:Q (.done (.ret (.type "function"))) ⟨h,g,d,t,os⟩) :
  wpAny (model prog w) A (Builtin.«object.__getattribute__» ⟨[.ref a,.str "__class__" tk],[]⟩) Q E ⟨h,g,d,t,os⟩:=by
 have hT:(⟨h,g,d,t,os⟩:Shared).TypeIs (.ref a) "function":=⟨_,hx,hc⟩
 have hT5:(⟨h,g,d,t,os⟩:Shared).TypeIs (.builtin "object.__class__") "getset_descriptor":=F.typeOf_object_class
 have f4:=lk_fn_class
 have f5:=F.typeOf_object_class
 have f6:=F.slot_gs_get.lookup
 have f7:=F.slot_gs_set.lookup
 repeat (any_goals (first|assumption|wp_step))
 refine class_get_fn hx hc ?_
 repeat (any_goals (first|assumption|wp_step))
theorem class_call_fn{tk:Tok}{R:Result→Shared→Prop}(hx:h.get? a=some o) (hc:o.cls=.type "function") (hq:R (.ok (.ret (.type "function"))) ⟨h,g,d,t,os⟩) :
  codeAny (model prog w) A (.call (.builtin "object.__getattribute__") ⟨[.ref a,.str "__class__" tk],[]⟩) R ⟨h,g,d,t,os⟩ :=
 codeAny_call_builtin slot_fn_ga.plain entry_fn_ga (slot_fn_ga.check _ _ _ _ _ _ _ _ (show(⟨h,g,d,t,os⟩:Shared).TypeIs (.ref a) "function" from⟨_,hx,hc⟩) (args_fn_ga _ _) (class_entry_fn hx hc hq))
theorem class_by_fn{tk:Tok}{Q:Value→Shared→Prop}(hx:h.get? a=some o) (hc:o.cls=.type "function") (hq:Q (.type "function") ⟨h,g,d,t,os⟩):wpAny (model prog w) A (getAttrBy (.ref a) (.str "__class__" tk) false) Q E ⟨h,g,d,t,os⟩:=by
 have hT:(⟨h,g,d,t,os⟩:Shared).TypeIs (.ref a) "function":=⟨_,hx,hc⟩
 have f2:=slot_fn_ga.lookup
 have f3:=slot_fn_ga.bind (.ref a)
 repeat (any_goals (first|assumption|wp_step))
 refine class_call_fn hx hc ?_
 repeat (any_goals (first|assumption|wp_step))
theorem class_attr_fn{Q:Option Value→Shared→Prop}(hx:h.get? a=some o) (hc:o.cls=.type "function") (hq:Q (some (.type "function")) ⟨h,g,d,t+1,os⟩):wpAny (model prog w) A (getAttr? (.ref a) "__class__") Q E ⟨h,g,d,t,os⟩:=by
 unfold getAttr? getAttrBy?
 repeat (any_goals (first|assumption|with_reducible apply class_by_fn hx hc|wp_step))
end
theorem kitx_fn{K:PySem.W.Frag}{a:Addr}:PySem.W.KitX K (.ref a) (.type "function") (PySem.W.KitAt a "function"):=PySem.W.kitx_of PySem.W.kitAt_ty (fun {_ _ _ _ _ s} p k=>by obtain⟨h,g,d,t,os⟩:=s; obtain⟨o,h1,h2⟩:=p; exact class_attr_fn h1 h2 k)
end L2
namespace L2
open PySem PySem.Spec PyProof.Rows
inductive D where
 |non|bl (b:Bool)|int (i:Int)|str (x:Str)|tup (xs:List D)|lst (xs:List D)|dct (n:Nat)|exc (c:Str) (ns:List Str) (xs:List D)|fn (x:Str) (d:D)
def SqZ(K:PySem.W.Frag)(H:Hp)(a:Addr)(xs:List V):Prop :=
 (∃o,H a=some (.frz o (.lst xs))) ∨
  ∃(o:Obj)(its:Array Value)(n:Nat),K.lookup a=some o∧o.cls=.type "list"∧o.dict=none∧o.data=.seq its n∧its.size≤sizeLine∧Vals xs its.toList
theorem SqZ.l{K:PySem.W.Frag}{H:Hp}{a:Addr}{xs:List V}(h:SqZ K H a xs):SqL K H a xs:=by
 rcases h with⟨o,h⟩|h
 ·
  exact .inl (.inr ⟨o,h⟩)
 ·
  exact .inr h
def noIns:HO→Prop
 |.frz _ u=>noIns u
 |.ins _ _ _=>False
 |_=>True
def excStd(K:PySem.W.Frag)(c:Str)(C:Addr):Bool:=match PySem.W.clsIn K C,PySem.W.nsIn K mainGlobals "LoadError" with
 | some cd,some (some (.ref L))=>cd.name == c && cd.hasDict && cd.mro == [.ref C,.ref L,.type "ValueError",.type "Exception",.type "BaseException",.type "object"] && (PySem.W.clsIn K L).any (fun k=>k.name == ("LoadError" : Str)) &&
  PySem.W.findIn K (.ref C) "__getattribute__" == some (some (.builtin "BaseException.__getattribute__")) && PySem.W.findIn K (.ref C) "__getattr__" == some none && PySem.W.findIn K (.ref C) "__class__" == some (some (.builtin "object.__class__")) &&
  PySem.W.findIn K (.ref C) "__setattr__" == some (some (.builtin "object.__setattr__")) && PySem.W.typeIn K (.ref C) == some (.type "type") && PySem.W.nsIn K mainGlobals c == some (some (.ref C))
 |_,_=>false
def lamOf:List Stmt→Option (Arguments×Expr×Scope×Pos)
 |[]=>none
 | st::r=>match lamOf r with
  |some l=>some l
  | none=>match st with
   | .Expr (.Call _ args _ _) _=>(match args.getLast? with
    |some (.Lambda p b sc pos)=>some (p,b,sc,pos)
    |_=>none)
   | .Return (some (.Call _ _ kws _)) _=>(match kws.getLast? with
    |some ⟨_,.Lambda p b sc pos,_⟩=>some (p,b,sc,pos)
    |_=>none)
   |_=>none
def lamIn(K:PySem.W.Frag)(x:Str):Option (Arguments×Expr×Scope×Pos):=match PySem.W.nsIn K mainGlobals x with
 | some (some (.ref f))=>(match K.lookup f with
  | some ⟨_,_,.func fd,_⟩=>(match fd.body with
   |.stmts b=>lamOf b
   |_=>none)
  |_=>none)
 |_=>none
def XF(H:Hp)(dx:Option Addr)(ns:List Str)(vs:List V):Prop:=(ns=[]∧vs=[]∧dx=none)∨∃d od,dx=some d∧H d=some (.frz od (.xd (ns.zip vs)))∧ns.length=vs.length
mutual
inductive Rep (K:PySem.W.Frag) (H:Hp):V→D→Prop where
 |non:Rep K H .non .non
 |bl (b:Bool):Rep K H (.bl b) (.bl b)
 |int (i:Int):Rep K H (.int i) (.int i)
 |str (x:Str):Rep K H (.str x) (.str x)
 |tup {a:Addr} {vs:List V} {ds:List D} (h:SqT K H a vs) (r:Reps K H vs ds):Rep K H (.ref a) (.tup ds)
 |lst {a:Addr} {vs:List V} {ds:List D} (h:SqZ K H a vs) (r:Reps K H vs ds):Rep K H (.ref a) (.lst ds)
 |dct {a:Addr} {o:Obj} {kvs:List (Key×V)} (h:H a=some (.frz o (.dK kvs))):Rep K H (.ref a) (.dct kvs.length)
 |exc {a:Addr} {o:Obj} {u:HO} {c:Str} {C:Addr} {ns:List Str} {vs:List V} {ds:List D} (h:H a=some (.frz o u)) (hv:noIns u) (hc:o.cls=.ref C) (hn:PySem.W.notCls o=true) (hs:excStd K c C=true) (hq:∀f∈ns,PySem.W.findIn K (.ref C) f=some none) (hf:XF H o.dict ns vs) (r:Reps K H vs ds):Rep K H (.ref a) (.exc c ns ds)
 | fn {f c c':Addr} {oc oq:Obj} {x y:Str} {pr:Arguments} {bd:Expr} {sc:Scope} {pos:Pos} {pm ctv u:Value} {v:V} {d:D} (hl:lamIn K x=some (pr,bd,sc,pos)) (hf:H f=some (.frz (PySem.W.kla_obj "<lambda>" (lamQ x) pr bd sc [(y,c)] pm c' ctv) (.own f)))
  (hq:H c'=some (.frz oq (.own c'))) (hc:CodeOb oq (lamQ x)) (hz:H c=some (.frz oc (.own c))) (hd:oc.data=.cell (some u)) (hv:RelV v u) (hm:(y,NameKind.free)∈sc.names) (r:Rep K H v d):Rep K H (.ref f) (.fn x d)
inductive Reps (K:PySem.W.Frag) (H:Hp):List V→List D→Prop where
 |nil:Reps K H [] []
 |cons {v:V} {d:D} {vs:List V} {ds:List D} (h:Rep K H v d) (t:Reps K H vs ds):Reps K H (v::vs) (d::ds)
end
def Pers:HO→Prop
 |.tup _=>True
 |.frz _ _=>True
 |.tbl _=>True
 |_=>False
def Pres(H H':Hp):Prop:=∀b o,Pers o→H b=some o→H' b=some o
theorem SqT.pres{K:PySem.W.Frag}{H H':Hp}{a:Addr}{xs:List V}(p:Pres H H')(h:SqT K H a xs):SqT K H' a xs:=by
 rcases h with(h|⟨o,h⟩)|h
 ·
  exact .inl (.inl (p _ _ True.intro h))
 ·
  exact .inl (.inr ⟨o,p _ _ True.intro h⟩)
 ·
  exact .inr h
theorem SqZ.pres{K:PySem.W.Frag}{H H':Hp}{a:Addr}{xs:List V}(p:Pres H H')(h:SqZ K H a xs):SqZ K H' a xs:=by
 rcases h with⟨o,h⟩|h
 ·
  exact .inl ⟨o,p _ _ True.intro h⟩
 ·
  exact .inr h
theorem XF.pres{H H':Hp}(p:Pres H H'){dx:Option Addr}{ns:List Str}{vs:List V}(h:XF H dx ns vs):XF H' dx ns vs:=by
 rcases h with h|⟨d,od,e,h,l⟩
 ·
  exact .inl h
 ·
  exact .inr ⟨d,od,e,p _ _ True.intro h,l⟩
mutual
theorem Rep.pres{K:PySem.W.Frag}{H H':Hp}(p:Pres H H'):∀{v:V}{d:D},Rep K H v d→Rep K H' v d
 |_,_,.non=>.non
 |_,_,.bl b=>.bl b
 |_,_,.int i=>.int i
 |_,_,.str x=>.str x
 |_,_,.tup h r=>.tup (h.pres p) (Reps.pres p r)
 |_,_,.lst h r=>.lst (h.pres p) (Reps.pres p r)
 |_,_,.dct h=>.dct (p _ _ True.intro h)
 |_,_,.exc h hv hc hn hs hq hf r=>.exc (p _ _ True.intro h) hv hc hn hs hq (hf.pres p) (Reps.pres p r)
 |_,_,.fn hl hf hq hc hz hd hv hm r=>.fn hl (p _ _ True.intro hf) (p _ _ True.intro hq) hc (p _ _ True.intro hz) hd hv hm (Rep.pres p r)
theorem Reps.pres{K:PySem.W.Frag}{H H':Hp}(p:Pres H H'):∀{vs:List V}{ds:List D},Reps K H vs ds→Reps K H' vs ds
 |_,_,.nil=>.nil
 |_,_,.cons h t=>.cons (Rep.pres p h) (Reps.pres p t)
end
theorem Reps.length{K:PySem.W.Frag}{H:Hp}:∀{vs:List V}{ds:List D},Reps K H vs ds→vs.length=ds.length
 |_,_,.nil=>rfl
 |_,_,.cons _ t=>by simp[Reps.length t]
theorem Reps.get{K:PySem.W.Frag}{H:Hp}:∀{vs:List V}{ds:List D}{i:Nat}{d:D},Reps K H vs ds→ds[i]?=some d→∃v,vs[i]?=some v∧Rep K H v d
 |_,_,_,_,.nil,e=>by simp at e
 |_,_,0,_,.cons h _,e=>by simp at e;subst e;exact⟨_,rfl,h⟩
 | _,_,i+1,d,.cons _ t,e=>by
  obtain⟨v,h1,h2⟩:=Reps.get (i:=i) (d:=d) t (by simpa using e)
  exact⟨v,by simpa using h1,h2⟩
theorem Reps.set{K:PySem.W.Frag}{H:Hp}{v:V}{d:D}(r:Rep K H v d):∀{vs:List V}{ds:List D}(i:Nat),Reps K H vs ds→Reps K H (vs.set i v) (ds.set i d)
 |_,_,_,.nil=>.nil
 |_,_,0,.cons _ t=>.cons r t
 |_,_,i+1,.cons h t=>.cons h (Reps.set r i t)
theorem Reps.append{K:PySem.W.Frag}{H:Hp}:∀{vs us:List V}{ds es:List D},Reps K H vs ds→Reps K H us es→Reps K H (vs++us) (ds++es)
 |_,_,_,_,.nil,s=>s
 |_,_,_,_,.cons h t,s=>.cons h (Reps.append t s)
theorem Reps.reverse{K:PySem.W.Frag}{H:Hp}:∀{vs:List V}{ds:List D},Reps K H vs ds→Reps K H vs.reverse ds.reverse
 |_,_,.nil=>.nil
 | _,_,.cons h t=>by
  rw[List.reverse_cons,List.reverse_cons]
  exact(Reps.reverse t).append (.cons h .nil)
inductive L where
 |un|d (x:D)|own (a:Addr) (xs:List D)|bx (k:Option Addr) (ls:List L)|dic (a:Addr) (kvs:List (Key×D))
abbrev Ev:=List L
mutual
def ownsL:L→List Addr
 |.un=>[]
 |.d _=>[]
 |.own a _=>[a]
 |.bx k ls=>k.toList++ownsLs ls
 |.dic a _=>[a]
def ownsLs:List L→List Addr
 |[]=>[]
 |l::ls=>ownsL l++ownsLs ls
end
def owns(ρ:Ev):List Addr:=ρ.flatMap ownsL
theorem ownsLs_eq:∀ls:List L,ownsLs ls=owns ls
 |[]=>rfl
 |l::ls=>by rw[ownsLs,ownsLs_eq ls];rfl
mutual
def Slot1(K:PySem.W.Frag)(H:Hp)(s:Option V):L→Prop
 |.un=>True
 |.d x=>∃v,s=some v∧Rep K H v x
 |.own a xs=>s=some (.ref a)∧∃vs,H a=some (.lst vs)∧Reps K H vs xs
 |.bx none ls=>∃a vs,s=some (.ref a)∧SqT K H a vs∧Slots K H vs ls
 |.bx (some a) ls=>s=some (.ref a)∧∃vs,H a=some (.lst vs)∧Slots K H vs ls
 |.dic a kvs=>s=some (.ref a)∧∃vs,H a=some (.dK vs)∧Paired (fun (p:Key×V) (q:Key×D)=>p.1=q.1∧Rep K H p.2 q.2) vs kvs
def Slots(K:PySem.W.Frag)(H:Hp)(vs:List V):List L→Prop
 |[]=>vs=[]
 |l::ls=>∃v us,vs=v::us∧Slot1 K H (some v) l∧Slots K H us ls
end
mutual
theorem Slot1.pres{K:PySem.W.Frag}{H H':Hp}(p:Pres H H'):∀{s:Option V}(l:L),(∀a∈ownsL l,H' a=H a)→Slot1 K H s l→Slot1 K H' s l
 |_,.un,_,_=>by simp only[Slot1]
 | _,.d x,_,h=>by
  simp only[Slot1]at h ⊢
  obtain⟨v,e,r⟩:=h
  exact⟨v,e,r.pres p⟩
 | _,.own a xs,q,h=>by
  simp only[Slot1]at h ⊢
  obtain⟨e,vs,ha,r⟩:=h
  exact⟨e,vs,(q a (by simp[ownsL])).trans ha,r.pres p⟩
 | _,.bx none ls,q,h=>by
  simp only[Slot1]at h ⊢
  obtain⟨a,vs,e,ha,r⟩:=h
  exact⟨a,vs,e,ha.pres p,Slots.pres p ls (fun b hb=>q b (by simp[ownsL,hb])) r⟩
 | _,.bx (some a) ls,q,h=>by
  simp only[Slot1]at h ⊢
  obtain⟨e,vs,ha,r⟩:=h
  exact⟨e,vs,(q a (by simp[ownsL])).trans ha,Slots.pres p ls (fun b hb=>q b (by simp[ownsL,hb])) r⟩
 | _,.dic a kvs,q,h=>by
  simp only[Slot1]at h ⊢
  obtain⟨e,vs,ha,r⟩:=h
  exact⟨e,vs,(q a (by simp[ownsL])).trans ha,Paired.mapP r fun _ _ z=>⟨z.1,z.2.pres p⟩⟩
theorem Slots.pres{K:PySem.W.Frag}{H H':Hp}(p:Pres H H'):∀{vs:List V}(ls:List L),(∀a∈ownsLs ls,H' a=H a)→Slots K H vs ls→Slots K H' vs ls
 |_,[],_,h=>by simpa only[Slots]using h
 | _,l::ls,q,h=>by
  simp only[Slots]at h ⊢
  obtain⟨v,us,e,h1,h2⟩:=h
  exact⟨v,us,e,Slot1.pres p l (fun b hb=>q b (by simp[ownsLs,hb])) h1,Slots.pres p ls (fun b hb=>q b (by simp[ownsLs,hb])) h2⟩
end
def OMut:HO→Prop
 |.lst _=>True
 |.dK _=>True
 |_=>False
theorem OMut.no{o:HO}(h:OMut o)(p:Pers o):False:=by cases o<;>first|exact h|exact p
mutual
theorem Slot1.lstAt{K:PySem.W.Frag}{H:Hp}:∀{s:Option V}(l:L),Slot1 K H s l→∀a∈ownsL l,∃o,H a=some o∧OMut o
 |_,.un,_,a,ha=>by simp[ownsL]at ha
 |_,.d x,_,a,ha=>by simp[ownsL]at ha
 | _,.own b xs,h,a,ha=>by
  simp only[Slot1]at h
  have e:a=b:=by simpa[ownsL]using ha
  subst e
  obtain⟨_,vs,q,_⟩:=h
  exact⟨_,q,True.intro⟩
 | _,.bx none ls,h,a,ha=>by
  simp only[Slot1]at h
  obtain⟨b,vs,e,_,r⟩:=h
  exact Slots.lstAt ls r a (by simpa[ownsL]using ha)
 | _,.bx (some b) ls,h,a,ha=>by
  simp only[Slot1]at h
  obtain⟨e,vs,q,r⟩:=h
  rcases(by simpa[ownsL]using ha:a=b∨a∈ownsLs ls)with z|z
  ·
   subst z;exact⟨_,q,True.intro⟩
  ·
   exact Slots.lstAt ls r a z
 | _,.dic b xs,h,a,ha=>by
  simp only[Slot1]at h
  have e:a=b:=by simpa[ownsL]using ha
  subst e
  obtain⟨_,vs,q,_⟩:=h
  exact⟨_,q,True.intro⟩
theorem Slots.lstAt{K:PySem.W.Frag}{H:Hp}:∀{vs:List V}(ls:List L),Slots K H vs ls→∀a∈ownsLs ls,∃o,H a=some o∧OMut o
 |_,[],_,a,ha=>by simp[ownsLs]at ha
 | _,l::ls,h,a,ha=>by
  simp only[Slots]at h
  obtain⟨v,us,e,h1,h2⟩:=h
  rcases(by simpa[ownsLs]using ha:a∈ownsL l∨a∈ownsLs ls)with z|z
  ·
   exact Slot1.lstAt l h1 a z
  ·
   exact Slots.lstAt ls h2 a z
end
structure REnv (K:PySem.W.Frag) (Pr H:Hp) (σ:St) (ρ:Ev):Prop where
 sub:∀b o,Pr b=some o→H b=some o
 nd:(owns ρ).Nodup
 off:∀a∈owns ρ,Pr a=none
 sl:Paired (Slot1 K H) σ ρ
theorem mem_owns{ρ:Ev}{a:Addr}:a∈owns ρ↔∃l∈ρ,a∈ownsL l:=by
 unfold owns
 rw[List.mem_flatMap]
theorem own_mem{ρ:Ev}{a:Addr}{xs:List D}(h:L.own a xs∈ρ):a∈owns ρ:=mem_owns.mpr ⟨_,h,by simp[ownsL]⟩
theorem owns_append(a b:Ev):owns (a++b)=owns a++owns b:=List.flatMap_append
theorem Paired.mem2{α β:Type}{F:α→β→Prop}:∀{l1:List α}{l2:List β}{b:β},Paired F l1 l2→b∈l2→∃a,a∈l1∧F a b
 |_,_,_,.nil,h=>by simp at h
 | _,_,_,.cons r t,h=>by
  rcases List.mem_cons.mp h with rfl|h
  ·
   exact⟨_,List.mem_cons_self,r⟩
  ·
   obtain⟨a,h1,h2⟩:=Paired.mem2 t h
   exact⟨a,List.mem_cons_of_mem _ h1,h2⟩
theorem Paired.app{α β:Type}{F:α→β→Prop}:∀{a c:List α}{b d:List β},Paired F a b→Paired F c d→Paired F (a++c) (b++d)
 |_,_,_,_,.nil,s=>s
 |_,_,_,_,.cons r t,s=>.cons r (Paired.app t s)
theorem Paired.unapp{α β:Type}{F:α→β→Prop}:∀{a c:List α}{b d:List β},a.length=b.length→Paired F (a++c) (b++d)→Paired F a b∧Paired F c d
 |[],_,[],_,_,s=>⟨.nil,s⟩
 | x::a,_,y::b,_,hl,.cons r t=>by
  obtain⟨p,q⟩:=Paired.unapp (a:=a) (b:=b) (by simpa using hl) t
  exact⟨.cons r p,q⟩
 |[],_,_::_,_,hl,_=>by simp at hl
 |_::_,_,[],_,hl,_=>by simp at hl
theorem Paired.get2{α β:Type}{F:α→β→Prop}:∀{l1:List α}{l2:List β}{i:Nat}{b:β},Paired F l1 l2→l2[i]?=some b→∃a,l1[i]?=some a∧F a b
 |_,_,_,_,.nil,e=>by simp at e
 |_,_,0,_,.cons h _,e=>by simp at e;subst e;exact⟨_,rfl,h⟩
 | _,_,i+1,d,.cons _ t,e=>by
  obtain⟨v,h1,h2⟩:=Paired.get2 (i:=i) (b:=d) t (by simpa using e)
  exact⟨v,by simpa using h1,h2⟩
theorem Paired.set2{α β:Type}{F:α→β→Prop}{a:α}{b:β}(r:F a b):∀{l1:List α}{l2:List β}(i:Nat),Paired F l1 l2→Paired F (l1.set i a) (l2.set i b)
 |_,_,_,.nil=>.nil
 |_,_,0,.cons _ t=>.cons r t
 |_,_,i+1,.cons h t=>.cons h (Paired.set2 r i t)
theorem Paired.impMem{α β:Type}{F G:α→β→Prop}:∀{l1:List α}{l2:List β},Paired F l1 l2→(∀b∈l2,∀a,F a b→G a b)→Paired G l1 l2
 |_,_,.nil,_=>.nil
 |_,_,.cons r t,h=>.cons (h _ List.mem_cons_self _ r) (Paired.impMem t fun b hb=>h b (List.mem_cons_of_mem _ hb))
theorem Paired.set_r{α β:Type}{F:α→β→Prop}{b:β}:∀{l1:List α}{l2:List β}(i:Nat),Paired F l1 l2→(∀a,l1[i]?=some a→F a b)→Paired F l1 (l2.set i b)
 |_,_,_,.nil,_=>.nil
 |_,_,0,.cons _ t,h=>.cons (h _ rfl) t
 |_,_,i+1,.cons q t,h=>.cons q (Paired.set_r i t fun a e=>h a (by simpa using e))
section
variable{K:PySem.W.Frag}{Pr H H':Hp}{σ τ w σ':St}{ρ μ lam ρ':Ev}
theorem REnv.len(E:REnv K Pr H σ ρ):σ.length=ρ.length:=Paired.length E.sl
def butOwn(H:Hp)(ρ:Ev):Hp:=fun b=>if b∈owns ρ then none else H b
theorem REnv.at_own(E:REnv K Pr H σ ρ){a:Addr}(h:a∈owns ρ):∃o,H a=some o∧OMut o:=by
 obtain⟨l,hx,ha⟩:=mem_owns.mp h
 obtain⟨s,_,q⟩:=Paired.mem2 E.sl hx
 exact q.lstAt l a ha
theorem REnv.wide(E:REnv K Pr H σ ρ):REnv K (butOwn H ρ) H σ ρ :=
 ⟨fun b o e=>by unfold butOwn at e;split at e;cases e;exact e,E.nd,fun a h=>by unfold butOwn;rw[if_pos h],E.sl⟩
theorem REnv.drop(E:REnv K Pr H (τ++σ) (lam++ρ))(hl:τ.length=lam.length):REnv K Pr H σ ρ :=
 ⟨E.sub,(List.nodup_append.mp (owns_append lam ρ ▸ E.nd)).2.1,fun a h=>E.off a (by rw[owns_append];exact List.mem_append_right _ h),(Paired.unapp hl E.sl).2⟩
theorem REnv.left(E:REnv K Pr H (τ++σ) (lam++ρ))(hl:τ.length=lam.length):REnv K Pr H τ lam :=
 ⟨E.sub,(List.nodup_append.mp (owns_append lam ρ ▸ E.nd)).1,fun a h=>E.off a (by rw[owns_append];exact List.mem_append_left _ h),(Paired.unapp hl E.sl).1⟩
theorem pres_of{H H':Hp}{ρ:Ev}{σ:St}{Pr:Hp}(E:REnv K Pr H σ ρ)(h:∀b o,butOwn H ρ b=some o→H' b=some o):Pres H H':=fun b o p e=>by
 refine h b o ?_
 unfold butOwn
 rw[if_neg,e]
 intro hm
 obtain⟨u,e',m⟩:=E.at_own hm
 rw[e]at e'
 cases e'
 exact m.no p
theorem REnv.step(E:REnv K Pr H (τ++σ) (lam++ρ))(hl:τ.length=lam.length)(E':REnv K (butOwn H ρ) H' (w++σ') (μ++ρ'))(hw:w.length=μ.length):REnv K Pr H' (w++(τ++σ')) (μ++(lam++ρ')):=by
 have Eσ:=E.drop hl
 have p:Pres H H':=pres_of Eσ E'.sub
 have dis:∀a∈owns lam,a∉owns ρ:=fun a h1 h2=>(List.nodup_append.mp (owns_append lam ρ ▸ E.nd)).2.2 a h1 a h2 rfl
 have at':∀a∈owns lam,butOwn H ρ a=H a:=fun a h=>by unfold butOwn;rw[if_neg (dis a h)]
 have some':∀a∈owns lam,∃o,H a=some o∧OMut o:=fun a h=>E.at_own (by rw[owns_append];exact List.mem_append_left _ h)
 have out:∀a∈owns lam,a∉owns (μ++ρ'):=fun a h h2=>by
  have z:=E'.off a h2
  rw[at' a h]at z
  obtain⟨vs,e,_⟩:=some' a h
  rw[e]at z
  cases z
 have s1:=(Paired.unapp hw E'.sl)
 have s2:=(Paired.unapp hl E.sl).1
 refine⟨fun b o e=>?_,?_,fun a ha=>?_,Paired.app s1.1 (Paired.app ?_ s1.2)⟩
 ·
  refine E'.sub b o ?_
  unfold butOwn
  rw[if_neg,E.sub b o e]
  intro hm
  have z:=Eσ.off b hm
  rw[e]at z
  cases z
 ·
  have n1:=E'.nd
  rw[owns_append]at n1
  rw[owns_append,owns_append]
  obtain⟨q1,q2,q3⟩:=List.nodup_append.mp n1
  refine List.nodup_append.mpr ⟨q1,List.nodup_append.mpr ⟨(List.nodup_append.mp (owns_append lam ρ ▸ E.nd)).1,q2,fun a ha b hb=>?_⟩,fun a ha b hb=>?_⟩
  ·
   rintro rfl
   exact out a ha (by rw[owns_append];exact List.mem_append_right _ hb)
  ·
   rcases List.mem_append.mp hb with hb|hb
   ·
    rintro rfl
    exact out a hb (by rw[owns_append];exact List.mem_append_left _ ha)
   ·
    exact q3 a ha b hb
 ·
  rw[owns_append,owns_append]at ha
  have key:a∈owns (μ++ρ')→Pr a=none:=fun h=>by
   have z:=E'.off a h
   unfold butOwn at z
   by_cases hm:a∈owns ρ
   ·
    exact Eσ.off a hm
   ·
    rw[if_neg hm]at z
    cases q:Pr a with
    |none=>rfl
    |some o=>rw[E.sub a o q]at z;cases z
  rcases List.mem_append.mp ha with h|h
  ·
   exact key (by rw[owns_append];exact List.mem_append_left _ h)
  ·
   rcases List.mem_append.mp h with h|h
   ·
    exact E.off a (by rw[owns_append];exact List.mem_append_left _ h)
   ·
    exact key (by rw[owns_append];exact List.mem_append_right _ h)
 ·
  have:∀l∈lam,∀s,Slot1 K H s l→Slot1 K H' s l:=fun l hlm s h=>h.pres p l fun a e=>by
   have ha:a∈owns lam:=mem_owns.mpr ⟨l,hlm,e⟩
   obtain⟨vs,e,_⟩:=some' a ha
   rw[E'.sub a _ ((at' a ha).trans e),e]
  exact Paired.impMem s2 this
end
end L2
namespace L2
open PySem PySem.Spec PyProof.Rows PySem.W
structure XStd (K:Frag) (c:Str) (C L:Addr) (cd:ClassData):Prop where
 cls:clsIn K C=some cd
 load:nsIn K mainGlobals "LoadError"=some (some (.ref L))
 name:cd.name=c
 dct:cd.hasDict=true
 mro:cd.mro=[.ref C,.ref L,.type "ValueError",.type "Exception",.type "BaseException",.type "object"]
 lname:∃ k,clsIn K L=some k∧k.name=("LoadError" : Str)
 ga:findIn K (.ref C) "__getattribute__"=some (some (.builtin "BaseException.__getattribute__"))
 gx:findIn K (.ref C) "__getattr__"=some none
 gc:findIn K (.ref C) "__class__"=some (some (.builtin "object.__class__"))
 sa:findIn K (.ref C) "__setattr__"=some (some (.builtin "object.__setattr__"))
 ty:typeIn K (.ref C)=some (.type "type")
 own:nsIn K mainGlobals c=some (some (.ref C))
theorem excStd_is{K:Frag}{c:Str}{C:Addr}(h:excStd K c C=true):∃L cd,XStd K c C L cd:=by
 unfold excStd at h
 split at h
 ·
  rename_i cd L e1 e2
  simp only[Bool.and_eq_true,beq_iff_eq]at h
  obtain⟨⟨⟨⟨⟨⟨⟨⟨⟨h1,h2⟩,h3⟩,h4⟩,h5⟩,h6⟩,h7⟩,h8⟩,h9⟩,h10⟩:=h
  obtain⟨k,hk,hn⟩:=any_some h4
  exact⟨L,cd,e1,e2,h1,h2,h3,⟨k,hk,beq_iff_eq.mp hn⟩,h5,h6,h7,h8,h9,h10⟩
 ·
  cases h
section
variable{K:Frag}{c:Str}{C L:Addr}{cd:ClassData}
theorem XStd.mroIn(S:XStd K c C L cd)(b:Value):PySem.W.mroIn K C b=some (([.ref C,.ref L,.type "ValueError",.type "Exception",.type "BaseException",.type "object"]:List Value).contains b):=by
 unfold PySem.W.mroIn
 rw[S.cls,Option.bind_some,S.mro]
 rfl
theorem xmro_type(C L:Addr)(T:String):(([.ref C,.ref L,.type "ValueError",.type "Exception",.type "BaseException",.type "object"]:List Value).contains (.type T))=(["ValueError","Exception","BaseException","object"]:List String).contains T:=by
 simp only[List.contains_cons,List.contains_nil,Bool.or_false]
 have e:∀a:Addr,(Value.type T == Value.ref a)=false:=fun _=>rfl
 have f:∀U:String,(Value.type T == Value.type U)=(T == U):=fun U=>by
  by_cases q:T=U
  ·
   subst q;simp
  ·
   rw[beq_eq_false_iff_ne.mpr q,beq_eq_false_iff_ne]
   intro z;injection z with z;exact q z
 rw[e,e,f,f,f,f];rfl
theorem XStd.has(S:XStd K c C L cd){T:String} (h:(["ValueError","Exception","BaseException","object"]:List String).contains T=true):PySem.W.mroIn K C (.type T)=some true:=by
 rw[S.mroIn,xmro_type,h]
theorem XStd.isT(S:XStd K c C L cd){M:Model}{h:Heap}(X:K.In h)(T:String):Looks M h (isSubtype (.ref C) (.type T)) ((["ValueError","Exception","BaseException","object"]:List String).contains T):=looks_mroIn X (by rw[S.mroIn,xmro_type])
end
section
variable{prog:Program}{w:World}{A:Around}{E:Value→Shared→Prop}{s:Shared}{K:Frag}{c:Str}{x C L:Addr}{cd:ClassData}{ox:Obj}{od:Option Obj}{name:Str}
theorem xclass_entry{tk:Tok}{Q:Fin→Shared→Prop}(S:XStd K c C L cd)(X:K.In s.heap)(I:InstAt s.heap x ox C od) (hf:findObj K C od "__class__"=some (.bind (.builtin "getset_descriptor.__get__") (.builtin "object.__class__"))) (hq:Q (.done (.ret (.ref C))) s) :
  wpAny (model prog w) A (Builtin.«object.__getattribute__» ⟨[.ref x,.str "__class__" tk],[]⟩) Q E s:=by
 obtain⟨hh,g,d,t,os⟩:=s
 have L0:=I.type (M:=model prog w)
 have L1:=looks_find (M:=model prog w) X I hf
 unfold Builtin.«object.__getattribute__»
 refine wpAny_bind (wpAny_pure (wpAny_bind (wpAny_pure ?_)))
 refine wpAny_bind (L0.at (wpAny_bind (L1.at ?_)))
 show wpAny _ _ (holding [Value.builtin "object.__class__"] (call (.builtin "getset_descriptor.__get__") [.builtin "object.__class__",.ref x,.ref C]) >>= ret) _ _ _
 refine wpAny_bind (wpAny_holding (wpAny_call ?_))
 exact class_get (s:=⟨hh,g,d,t,os⟩) (ox:=ox) (od:=od) X I (S.has (by decide)) (wpAny_pure hq)
theorem xget_by{tk:Tok}{v:Value}{fill expr:Bool}{Q:Value→Shared→Prop}(S:XStd K c C L cd)(X:K.In s.heap)(I:InstAt s.heap x ox C od)
  (he:∀(A':Around)(Q':Fin→Shared→Prop),Q' (.done (.ret v)) s→wpAny (model prog w) A' (Builtin.«object.__getattribute__» ⟨[.ref x,.str name tk],[]⟩) Q' (fun _ _=>False) s) (hh:handedIn v=true) (hq:Q v s) :
  wpAny (model prog w) A (getAttrBy (.ref x) (.str name tk) fill expr) Q E s:=by
 have FB:=F.excAttr_ValueError
 have L0:=I.type (M:=model prog w)
 have L1:=looks_findIn (M:=model prog w) X S.ga
 have L2:=looks_findIn (M:=model prog w) X S.gx
 unfold getAttrBy
 refine wpAny_holding (wpAny_bind (L0.here (wpAny_bind (L1.here ?_))))
 have hx2:(Value.builtin "BaseException.__getattribute__" == Value.builtin "object.__getattribute__")=false:=by decide +kernel
 dsimp only
 rw[hx2,Bool.and_false,if_neg (by decide)]
 unfold getAttrByItsOwn
 refine wpAny_bind ((looks_hook (mc:=.ref C) X (r:=none) S.gx).here ?_)
 refine wpAny_bind (wpAny_attempt (wpAny_holding ?_))
 have hx0:(expr && onTheHeap (Value.builtin "BaseException.__getattribute__"))=false:=by cases expr <;> rfl
 unfold callGetattribute boundAndCalled
 rw[hx0,if_neg (by decide),FB.ga.bind]
 refine wpAny_bind (wpAny_pure (wpAny_call ?_))
 have hi:Looks (model prog w) s.heap (isInstance (.ref x) (.type "BaseException")) true:=L0.andThen (S.isT X _)
 have hkd:builtinKind "BaseException.__getattribute__"=some .slot:=by decide +kernel
 have hsp:splitId "BaseException.__getattribute__"=some ("BaseException","__getattribute__"):=by decide +kernel
 refine codeAny_call_builtin FB.ga.plain F.entry_bexc_ga (@check_slot (model prog w) _ _ s "BaseException.__getattribute__" "BaseException" "__getattribute__" (.ref x) [.str name tk] [] _ hkd hsp hi (F.args_bexc_ga (.ref x) (.str name tk)) ?_)
 refine wpAny_mono (he _ _ ?_) (fun _ _ z=>z) fun _ _ z=>z.elim
 show wpAny _ _ (handedOut v) _ _ _
 rw[handedOut_of hh]
 exact wpAny_pure hq
end
theorem cls_get(K:Frag):specialIn K (.builtin "object.__class__") "__get__"=some (some (.builtin "getset_descriptor.__get__")):=(by decide +kernel:specialIn [] (.builtin "object.__class__") "__get__"=some (some (.builtin "getset_descriptor.__get__")))
theorem cls_takes(K:Frag):takesIn K (.builtin "object.__class__")=some true:=(by decide +kernel:takesIn [] (.builtin "object.__class__")=some true)
section
variable{prog:Program}{w:World}{A:Around}{E:Value→Shared→Prop}{s:Shared}{K:Frag}{c:Str}{x C L:Addr}{cd:ClassData}{ox:Obj}{od:Option Obj}
theorem XStd.fclass(S:XStd K c C L cd)(od:Option Obj):findObj K C od "__class__"=some (.bind (.builtin "getset_descriptor.__get__") (.builtin "object.__class__")):=by
 unfold findObj
 rw[S.cls,Option.bind_some,S.gc,Option.bind_some]
 simp[cls_get,cls_takes]
theorem xattr_class{Q:Option Value→Shared→Prop}(S:XStd K c C L cd)(X:K.In s.heap)(I:InstAt s.heap x ox C od)(hq:Q (some (.ref C)) {s with toks:=s.toks+1}) :
  wpAny (model prog w) A (getAttr? (.ref x) "__class__") Q E s:=by
 obtain⟨hh,g,d,t,os⟩:=s
 unfold getAttr? getAttrBy?
 refine wpAny_bind (wpAny_mkText (wpAny_bind (wpAny_attempt ?_)))
 exact xget_by (s:=⟨hh,g,d,t+1,os⟩) (ox:=ox) (od:=od) S X I (fun A' Q' q=>xclass_entry (s:=⟨hh,g,d,t+1,os⟩) S X I (S.fclass od) q) rfl (wpAny_pure hq)
theorem kitx_exc(S:XStd K c C L cd):KitX K (.ref x) (.ref C) (fun h=>∃ox od,InstAt h x ox C od) where
 ty:=fun _ _ _ ⟨_,_,I⟩=>I.type
 it:=fun _ _ X _=>by
  have hc:=S.cls
  unfold clsIn at hc
  split at hc
  ·
   rename_i ho
   intro A' Q' E' s' k q
   unfold isType loadHead
   exact wpAny_bind (wpAny_loadPart (k _ _ (X _ _ ho)) (wpAny_pure q))
  ·
   cases hc
 ne:=fun h tp dd its n sl X htp=>by
  refine Bool.eq_false_iff.mpr fun q=>?_
  have e:C=tp:=Value.ref.inj (beq_iff_eq.mp q)
  subst e
  have hc:=S.cls
  unfold clsIn at hc
  split at hc
  ·
   rename_i ho
   have z:=(X _ _ ho).symm.trans htp
   cases z
  ·
   cases hc
 ca:=fun X ⟨_,_,I⟩ k=>xattr_class S X I k
end
end L2
namespace L2
open PySem PySem.Spec PyProof.Rows
section
variable{X:Cx}{pins:List (Addr×Obj)}{σ:St}{H:Hp}{s:Shared}
theorem Inv.reword{a:Addr}{u w:HO}(I:Inv X pins σ H s)(h:H a=some u)(hu:¬Pers u)(hw:∀y,u≠.own y)(nw:ObjOk X.prog X.w H s.heap a w)(hw2:∀C dx fs,w≠.ins C dx fs):Inv X pins σ (upd H a w) s:=by
 have ne:∀b,H b=none→b≠a:=fun b n e=>by subst e;rw[h]at n;cases n
 have nt:∀b xs,H b=some (.tup xs)→b≠a:=fun b xs n e=>by subst e;rw[h]at n;cases n;exact hu True.intro
 have nf:∀b o z,H b=some (.frz o z)→b≠a:=fun b o z n e=>by subst e;rw[h]at n;cases n;exact hu True.intro
 have no:∀b z,H b=some (.own z)→b≠a:=fun b z n e=>by subst e;rw[h]at n;cases n;exact hw _ rfl
 refine⟨I.ok,I.os,I.bare,⟨I.base.keep,I.base.slot,fun b ob e n hx=>?_,I.base.there,fun b xs e=>?_,fun b ob z e=>?_,fun b ps e=>?_⟩,I.loc,I.cell,?_,fun x c e=>?_,fun p hp=>?_,fun b z e=>?_,I.len⟩
 ·
  have q:=I.base.free b ob e n hx
  rw[upd_ne (ne b q)];exact q
 ·
  have q:=I.base.tups b xs e
  rw[upd_ne (nt b xs q)];exact q
 ·
  have q:=I.base.frzs b ob z e
  rw[upd_ne (nf b ob z q)];exact q
 ·
  have q:=I.base.tbls b ps e
  rw[upd_ne (fun z=>by subst z;rw[h]at q;cases q;exact hu True.intro)];exact q
 ·
  rw[upd_ne (ne _ I.free)];exact I.free
 ·
  rcases I.freeC x c e with z|⟨hf,o,z⟩
  ·
   exact .inl (by rw[upd_ne (ne _ z)];exact z)
  ·
   exact .inr ⟨hf,o,by rw[upd_ne (nf _ _ _ z)];exact z⟩
 ·
  obtain⟨e,n,r⟩:=I.pin p hp
  exact⟨e,by rw[upd_ne (ne _ n)];exact n,r⟩
 ·
  by_cases hb:b=a
  ·
   subst hb
   rw[upd_same]at e
   cases e
   exact nw.stay (fun c v _ q=>q) (fun c q=>by rw[upd_ne (no c _ q)];exact q) (fun c xs q=>by rw[upd_ne (nt c xs q)];exact q) fun c ob _ _ q=>by rw[upd_ne (nf c ob _ q)];exact q
  ·
   rw[upd_ne hb]at e
   exact(I.hok b z e).stay (fun c v _ q=>q) (fun c q=>by rw[upd_ne (no c _ q)];exact q) (fun c xs q=>by rw[upd_ne (nt c xs q)];exact q) fun c ob _ _ q=>by rw[upd_ne (nf c ob _ q)];exact q
theorem Inv.freezeL{a:Addr}{xs:List V}(I:Inv X pins σ H s)(h:H a=some (.lst xs)):∃o,Inv X pins σ (upd H a (.frz o (.lst xs))) s:=by
 obtain⟨z,its,n,r,e⟩:=id (I.hok a _ h)
 exact⟨_,I.reword h (fun q=>q) (fun _ q=>nomatch q) ⟨e,z,its,n,r,e⟩ (fun _ _ _ q=>nomatch q)⟩
end
section
variable{K:PySem.W.Frag}{Pr H:Hp}{σ:St}{ρ:Ev}
theorem REnv.new(E:REnv K Pr H σ ρ){p:Addr}{o:HO}(h:H p=none):REnv K Pr (upd H p o) σ ρ:=by
 have k:∀b u,H b=some u→upd H p o b=some u:=fun b u e=>by rw[upd_ne (ne_of_none e h)];exact e
 exact⟨fun b u e=>k b u (E.sub b u e),E.nd,E.off,Paired.impMem E.sl fun l hl s q=>q.pres (fun b u _ e=>k b u e) l fun a e=>by
  obtain⟨vs,e,_⟩:=E.at_own (mem_owns.mpr ⟨l,hl,e⟩)
  rw[k _ _ e,e]⟩
theorem Reps.new{vs:List V}{ds:List D}(r:Reps K H vs ds){p:Addr}{o:HO}(h:H p=none):Reps K (upd H p o) vs ds:=r.pres fun b u _ e=>by rw[upd_ne (ne_of_none e h)];exact e
theorem owns_cons_un:owns (.un::ρ)=owns ρ:=rfl
theorem owns_cons_own{a:Addr}{xs:List D}:owns (.own a xs::ρ)=a::owns ρ:=rfl
theorem REnv.cons_d(E:REnv K Pr H σ ρ){v:V}{x:D}(r:Rep K H v x):REnv K Pr H (some v::σ) (.d x::ρ):=⟨E.sub,E.nd,E.off,.cons ⟨v,rfl,r⟩ E.sl⟩
theorem REnv.cons_un(E:REnv K Pr H σ ρ){v:Option V}:REnv K Pr H (v::σ) (.un::ρ):=⟨E.sub,E.nd,E.off,.cons True.intro E.sl⟩
theorem REnv.cons_own(E:REnv K Pr H σ ρ){p:Addr}{vs:List V}{xs:List D}(h:H p=none)(r:Reps K H vs xs):REnv K Pr (upd H p (.lst vs)) (some (.ref p)::σ) (.own p xs::ρ):=by
 have E':=E.new (o:=.lst vs) h
 refine⟨E'.sub,?_,fun a ha=>?_,.cons ⟨rfl,vs,upd_same,r.new h⟩ E'.sl⟩
 ·
  rw[owns_cons_own]
  refine List.nodup_cons.mpr ⟨fun hm=>?_,E.nd⟩
  obtain⟨us,e,_⟩:=E.at_own hm
  rw[h]at e;cases e
 ·
  rw[owns_cons_own]at ha
  rcases List.mem_cons.mp ha with rfl|ha
  ·
   cases q:Pr a with
   |none=>rfl
   |some u=>rw[E.sub a u q]at h;cases h
  ·
   exact E.off a ha
theorem REnv.cons_tup(E:REnv K Pr H σ ρ){p:Addr}{vs:List V}{xs:List D}(h:H p=none)(r:Reps K H vs xs):REnv K Pr (upd H p (.tup vs)) (some (.ref p)::σ) (.d (.tup xs)::ρ) :=
 (E.new h).cons_d (.tup (SqT.of upd_same) (r.new h))
theorem REnv.freeze(E:REnv K Pr H σ (.own a xs::ρ)){vs:List V}(h:H a=some (.lst vs))(o:Obj):REnv K Pr (upd H a (.frz o (.lst vs))) σ (.d (.lst xs)::ρ):=by
 have pa:Pr a=none:=E.off a (by rw[owns_cons_own];exact List.mem_cons_self)
 have nd:=E.nd
 rw[owns_cons_own]at nd
 obtain⟨hn,nd⟩:=List.nodup_cons.mp nd
 have p:Pres H (upd H a (.frz o (.lst vs))):=fun b u pu e=>by
  rw[upd_ne];exact e
  rintro rfl
  rw[h]at e;cases e;exact pu
 refine⟨fun b u e=>?_,nd,fun b hb=>E.off b (by rw[owns_cons_own];exact List.mem_cons_of_mem _ hb),?_⟩
 ·
  rw[upd_ne];exact E.sub b u e
  rintro rfl
  rw[pa]at e;cases e
 ·
  have sl:=E.sl
  cases sl with
  | cons q t =>
   obtain⟨e,us,e2,r⟩:=q
   rw[h]at e2;cases e2
   refine .cons ⟨.ref a,e,.lst (.inl ⟨o,upd_same⟩) (r.pres p)⟩ (Paired.impMem t fun l hl s z=>z.pres p l fun b hbm=>?_)
   rw[upd_ne]
   rintro rfl
   exact hn (mem_owns.mpr ⟨l,hl,hbm⟩)
theorem owns_cons(l:L)(ρ:Ev):owns (l::ρ)=ownsL l++owns ρ:=rfl
theorem owns_set_own{a:Addr}{xs ys:List D}:∀{ρ:Ev}{i:Nat},ρ[i]?=some (.own a xs)→owns (ρ.set i (.own a ys))=owns ρ
 |[],_,h=>by simp at h
 |_::_,0,h=>by simp at h;subst h;rfl
 | l::ρ,i+1,h=>by
  have ih:=owns_set_own (i:=i) (ρ:=ρ) (ys:=ys) (by simpa using h)
  show owns (l::ρ.set i (.own a ys))=owns (l::ρ)
  rw[owns_cons,owns_cons,ih]
theorem owns_takeL{k:L}:∀{ρ:Ev}{i:Nat}{l:L},ρ[i]?=some k→ownsL l=[]→(owns ρ).Perm (ownsL k++owns (ρ.set i l))
 |[],_,_,h,_=>by simp at h
 | _::ρ,0,l,h,hl=>by
  simp at h;subst h
  show(owns (_::ρ)).Perm (_++owns (l::ρ))
  rw[owns_cons,owns_cons,hl]
  exact List.Perm.refl _
 | m::ρ,i+1,l,h,hl=>by
  have ih:=owns_takeL (i:=i) (ρ:=ρ) (l:=l) (by simpa using h) hl
  show(owns (m::ρ)).Perm (ownsL k++owns (m::ρ.set i l))
  rw[owns_cons,owns_cons]
  refine(List.Perm.append_left _ ih).trans ?_
  rw[← List.append_assoc,← List.append_assoc]
  exact List.Perm.append_right _ List.perm_append_comm
theorem owns_take{a:Addr}{xs:List D}{ρ:Ev}{i:Nat}{l:L}(h:ρ[i]?=some (.own a xs))(hl:ownsL l=[]):(owns ρ).Perm (a::owns (ρ.set i l)):=owns_takeL h hl
theorem owns_put{ρ:Ev}{i:Nat}(l:L)(h:ρ[i]?=some .un):(owns (ρ.set i l)).Perm (ownsL l++owns ρ):=by
 have hi:i<ρ.length:=(List.getElem?_eq_some_iff.mp h).1
 have pm:=owns_takeL (ρ:=ρ.set i l) (i:=i) (k:=l) (l:=.un) (by simp[hi]) rfl
 rw[List.set_set]at pm
 have e2:ρ.set i .un=ρ:=by
  have:=List.set_getElem_self (as:=ρ) (i:=i) hi
  have e3:ρ[i]=.un:=(List.getElem?_eq_some_iff.mp h).2
  rw[e3]at this;exact this
 rw[e2]at pm
 exact pm
theorem REnv.outL(E:REnv K Pr H σ ρ){i:Nat}{k:L}{s:Option V}(h:ρ[i]?=some k)(hs:σ[i]?=some s):REnv K Pr H (s::σ) (k::ρ.set i .un):=by
 have pm:=owns_takeL (l:=.un) h rfl
 obtain⟨s',hs',q⟩:=Paired.get2 E.sl h
 rw[hs]at hs'
 cases hs'
 refine⟨E.sub,?_,fun b hb=>E.off b (pm.mem_iff.mpr (by rw[owns_cons]at hb;exact hb)),.cons q (Paired.set_r i E.sl fun _ _=>by simp only[Slot1])⟩
 rw[owns_cons];exact pm.nodup_iff.mp E.nd
theorem REnv.out(E:REnv K Pr H σ ρ){i:Nat}{a:Addr}{xs:List D}(h:ρ[i]?=some (.own a xs)):REnv K Pr H (some (.ref a)::σ) (.own a xs::ρ.set i .un):=by
 have pm:=owns_take (l:=.un) h rfl
 obtain⟨s,hs,q⟩:=Paired.get2 E.sl h
 refine⟨E.sub,?_,fun b hb=>E.off b (pm.mem_iff.mpr (by rw[owns_cons_own]at hb;exact hb)),.cons ?_ (Paired.set_r i E.sl fun _ _=>by simp only[Slot1])⟩
 ·
  rw[owns_cons_own];exact pm.nodup_iff.mp E.nd
 ·
  obtain⟨_,r⟩:=q
  exact⟨rfl,r⟩
theorem REnv.back{v:Option V}{l:L}(E:REnv K Pr H (v::σ) (l::ρ)){i:Nat}(h:ρ[i]?=some .un)(hs:σ[i]?=some v):REnv K Pr H σ (ρ.set i l):=by
 have sl:=E.sl
 cases sl with
 | cons q t =>
  have e1:ρ.set i l=(ρ.set i l):=rfl
  refine⟨E.sub,?_,fun b hb=>?_,Paired.set_r i t fun a e=>by rw[hs]at e;cases e;exact q⟩
  ·
   exact(owns_put l h).nodup_iff.mpr E.nd
  ·
   exact E.off b ((owns_put l h).mem_iff.mp hb)
theorem REnv.write(E:REnv K Pr H σ (.own a xs::ρ)){vs:List V}{ys:List D}(r:Reps K H vs ys):REnv K Pr (upd H a (.lst vs)) σ (.own a ys::ρ):=by
 have pa:Pr a=none:=E.off a (by rw[owns_cons_own];exact List.mem_cons_self)
 have nd:=E.nd
 rw[owns_cons_own]at nd
 obtain⟨hn,nd'⟩:=List.nodup_cons.mp nd
 obtain⟨us,ha,mu⟩:=E.at_own (a:=a) (by rw[owns_cons_own];exact List.mem_cons_self)
 have p:Pres H (upd H a (.lst vs)):=fun b u pu e=>by
  rw[upd_ne];exact e
  rintro rfl
  rw[ha]at e;cases e;exact mu.no pu
 refine⟨fun b u e=>?_,nd,fun b hb=>E.off b hb,?_⟩
 ·
  rw[upd_ne];exact E.sub b u e
  rintro rfl
  rw[pa]at e;cases e
 ·
  have sl:=E.sl
  cases sl with
  | cons q t =>
   obtain⟨e,_⟩:=q
   refine .cons ⟨e,vs,upd_same,r.pres p⟩ (Paired.impMem t fun l hl s z=>z.pres p l fun b hbm=>?_)
   rw[upd_ne]
   rintro rfl
   exact hn (mem_owns.mpr ⟨l,hl,hbm⟩)
end
abbrev W(α:Type):=Ev→(α→Ev→Prop)→Prop
inductive Fl where
 |nx|bk|ct|rt (r:L)
def EL(X:Cx)(pins:List (Addr×Obj))(σ:St)(Pr:Hp)(post:L→Ev→Prop)(u:Value)(s':Shared):Prop :=
 ∃v H' r ρ',Inv X pins σ H' s'∧RelV v u∧REnv X.K Pr H' (some v::σ) (r::ρ')∧post r ρ'
def PL(X:Cx)(e:Expr)(t:W L):Prop :=
 ∀(pins:List (Addr×Obj))(s:Shared)(σ:St)(H Pr:Hp)(ρ:Ev)(post:L→Ev→Prop),Inv X pins σ H s→REnv X.K Pr H σ ρ→t ρ post→wpAny (model X.prog X.w) X.A (eval e X.env) (EL X pins σ Pr post) X.xe s
def EB(X:Cx)(pins:List (Addr×Obj))(σ:St)(Pr:Hp)(post:Bool→Ev→Prop)(b:Bool)(s':Shared):Prop :=
 ∃H' ρ',Inv X pins σ H' s'∧REnv X.K Pr H' σ ρ'∧post b ρ'
def PB(X:Cx)(e:Expr)(t:W Bool):Prop :=
 ∀(pins:List (Addr×Obj))(s:Shared)(σ:St)(H Pr:Hp)(ρ:Ev)(post:Bool→Ev→Prop),Inv X pins σ H s→REnv X.K Pr H σ ρ→t ρ post→wpAny (model X.prog X.w) X.A (isTrue e X.env (eval e X.env)) (EB X pins σ Pr post) X.xe s
def EA(X:Cx)(pins:List (Addr×Obj))(σ:St)(Pr:Hp)(bs:List (Option Nat))(post:List L→Ev→Prop)(us:List Value)(s':Shared):Prop :=
 ∃vs H' ls ρ',Inv X pins σ H' s'∧Vals vs us∧vs.length=ls.length∧vs.length=bs.length∧REnv X.K Pr H' (vs.map some++σ) (ls++ρ')∧(∀(k i:Nat),bs[k]?=some (some i)→ls[k]?=some L.un∧∃v,vs[k]?=some v∧σ[i]?=some (some v))∧post ls ρ'
def PAL(X:Cx)(es:List Expr)(bs:List (Option Nat))(t:W (List L)):Prop :=
 ∀(pos:Pos)(pins:List (Addr×Obj))(s:Shared)(σ:St)(H Pr:Hp)(ρ:Ev)(post:List L→Ev→Prop),Inv X pins σ H s→REnv X.K Pr H σ ρ→t ρ post →
  wpAny (model X.prog X.w) X.A (spliced (backTo pos (starEach es X.env))) (EA X pins σ Pr bs post) X.xe s
def SM(X:Cx)(pins:List (Addr×Obj))(Pr:Hp)(post:Fl→Ev→Prop)(f:Flow)(s':Shared):Prop :=
 match f with
 |.next=>∃σ' H' ρ',Inv X pins σ' H' s'∧REnv X.K Pr H' σ' ρ'∧post .nx ρ'
 |.brk=>∃σ' H' ρ',Inv X pins σ' H' s'∧REnv X.K Pr H' σ' ρ'∧post .bk ρ'
 |.cont=>∃σ' H' ρ',Inv X pins σ' H' s'∧REnv X.K Pr H' σ' ρ'∧post .ct ρ'
 |.ret u=>∃v σ' H' r ρ' τ,Inv X pins σ' H' s'∧RelV v u∧REnv X.K Pr H' (some v::τ) (r::ρ')∧post (.rt r) ρ'
def PM(X:Cx)(st:Stmt)(t:W Fl):Prop :=
 ∀(pins:List (Addr×Obj))(s:Shared)(σ:St)(H Pr:Hp)(ρ:Ev)(post:Fl→Ev→Prop),Inv X pins σ H s→REnv X.K Pr H σ ρ→t ρ post→wpAny (model X.prog X.w) X.A (exec st X.env) (SM X pins Pr post) X.xe s
def PMs(X:Cx)(st:List Stmt)(t:W Fl):Prop :=
 ∀(pins:List (Addr×Obj))(s:Shared)(σ:St)(H Pr:Hp)(ρ:Ev)(post:Fl→Ev→Prop),Inv X pins σ H s→REnv X.K Pr H σ ρ→t ρ post→wpAny (model X.prog X.w) X.A (execs st X.env) (SM X pins Pr post) X.xe s
section
variable{X:Cx}{e a b:Expr}{pos:Pos}{ta tb:W L}
theorem PL.of{t:TE}{u:W L}(h:PE X e t)(q:∀σ H Pr ρ post,REnv X.K Pr H σ ρ→u ρ post→t σ H fun v H'=>∃r ρ',REnv X.K Pr H' (some v::σ) (r::ρ')∧post r ρ'):PL X e u :=
 fun pins s σ H Pr ρ post I E hu=>thn (h pins s σ H _ I (q σ H Pr ρ post E hu)) fun u s1 ⟨v,H1,I1,r1,r,ρ',E1,p⟩=>⟨v,H1,r,ρ',I1,r1,E1,p⟩
mutual
def eraseL:L→Option D
 |.un=>none
 |.d x=>some x
 |.own _ xs=>some (.lst xs)
 |.bx none ls=>(eraseLs ls).map .tup
 |.bx (some _) ls=>(eraseLs ls).map .lst
 |.dic _ _=>none
def eraseLs:List L→Option (List D)
 |[]=>some []
 | l::ls=>match eraseL l,eraseLs ls with
  |some x,some xs=>some (x::xs)
  |_,_=>none
end
def isSome':Option D→(D→Prop)→Prop
 |some x,k=>k x
 |none,_=>False
theorem isSome'_is{o:Option D}{k:D→Prop}(h:isSome' o k):∃x,o=some x∧k x:=by
 cases o with
 |some x=>exact⟨x,rfl,h⟩
 |none=>exact h.elim
def toDB(a:Option Addr)(ls:List L)(k:D→Prop):Prop:=isSome' (eraseL (.bx a ls)) k
def toD:L→(D→Prop)→Prop
 |.un,_=>False
 |.d x,k=>k x
 |.own _ xs,k=>k (.lst xs)
 |.bx a ls,k=>toDB a ls k
 |.dic _ _,_=>False
theorem toDB_is{a:Option Addr}{ls:List L}{k:D→Prop}(h:toDB a ls k):∃x,eraseL (.bx a ls)=some x∧k x:=isSome'_is h
def eraK(ls:List L)(k:List D→Prop):Prop:=∃xs,eraseLs ls=some xs∧k xs
theorem toDB_t(ls:List L)(k:D→Prop):toDB none ls k=eraK ls fun xs=>k (.tup xs):=by
 unfold toDB eraK
 simp only[eraseL]
 cases eraseLs ls with
 |none=>simp[isSome']
 |some xs=>simp[isSome']
theorem toDB_o(a:Addr)(ls:List L)(k:D→Prop):toDB (some a) ls k=eraK ls fun xs=>k (.lst xs):=by
 unfold toDB eraK
 simp only[eraseL]
 cases eraseLs ls with
 |none=>simp[isSome']
 |some xs=>simp[isSome']
theorem eraK_nil(k:List D→Prop):eraK [] k=k []:=by
 unfold eraK
 simp[eraseLs]
theorem toD_era(l:L)(k:D→Prop):toD l k=∃x,eraseL l=some x∧k x:=by
 cases l with
 |un=>simp[toD,eraseL]
 |d x=>simp[toD,eraseL]
 |own a xs=>simp[toD,eraseL]
 | bx a ls =>
  show isSome' _ k=_
  cases eraseL (.bx a ls)with
  |none=>simp[isSome']
  |some x=>simp[isSome']
 |dic a kvs=>simp[toD,eraseL]
theorem eraK_cons(l:L)(ls:List L)(k:List D→Prop):eraK (l::ls) k=toD l fun x=>eraK ls fun xs=>k (x::xs):=by
 rw[toD_era]
 unfold eraK
 simp only[eraseLs]
 cases eraseL l with
 |none=>simp
 | some x =>
  cases eraseLs ls with
  |none=>simp
  |some xs=>simp
theorem slots_paired{K:PySem.W.Frag}{H:Hp}:∀{vs:List V}{ls:List L},Slots K H vs ls↔Paired (Slot1 K H) (vs.map some) ls
 |[],[]=>⟨fun _=>.nil,fun _=>by simp only[Slots]⟩
 | v::vs,l::ls=>by
  simp only[Slots,List.map_cons]
  constructor
  ·
   rintro⟨w,us,e,h1,h2⟩
   cases e
   exact .cons h1 (slots_paired.mp h2)
  ·
   intro h
   cases h with
   |cons q t=>exact⟨v,vs,rfl,q,slots_paired.mpr t⟩
 | [],l::ls=>by
  simp only[Slots,List.map_nil]
  constructor
  ·
   rintro⟨w,us,e,_⟩;cases e
  ·
   intro h;cases h
 | v::vs,[]=>by
  simp only[Slots,List.map_cons]
  constructor
  ·
   intro h;cases h
  ·
   intro h;cases h
theorem reps_at{K:PySem.W.Frag}{H:Hp}:∀{vs:List V}{xs:List D},Paired (Slot1 K H) (vs.map some) (xs.map .d)→Reps K H vs xs
 |[],[],_=>.nil
 | v::vs,x::xs,h=>by
  simp only[List.map_cons]at h
  cases h with
  | cons q t =>
   simp only[Slot1]at q
   obtain⟨w,e,r⟩:=q
   cases e
   exact .cons r (reps_at t)
 |[],_::_,h=>by simp only[List.map_cons,List.map_nil]at h;cases h
 |_::_,[],h=>by simp only[List.map_cons,List.map_nil]at h;cases h
theorem Slots.len{K:PySem.W.Frag}{H:Hp}{vs:List V}{ls:List L}(h:Slots K H vs ls):vs.length=ls.length:=by
 have:=Paired.length (slots_paired.mp h)
 simpa using this
theorem eraseLs_len:∀{ls:List L}{xs:List D},eraseLs ls=some xs→xs.length=ls.length
 |[],_,h=>by simp[eraseLs]at h;subst h;rfl
 | l::ls,xs,h=>by
  simp only[eraseLs]at h
  split at h
  ·
   rename_i x ys h1 h2
   cases h
   simp[eraseLs_len h2]
  ·
   cases h
theorem REnv.openT{K:PySem.W.Frag}{Pr H:Hp}{σ:St}{ρ:Ev}{v:Option V}{ls:List L}(E:REnv K Pr H (v::σ) (.bx none ls::ρ)):∃a vs,v=some (.ref a)∧SqT K H a vs∧vs.length=ls.length∧REnv K Pr H (vs.map some++σ) (ls++ρ):=by
 have sl:=E.sl
 cases sl with
 | cons q t =>
  simp only[Slot1]at q
  obtain⟨a,vs,e,h,r⟩:=q
  have ow:owns (.bx none ls::ρ)=owns (ls++ρ):=by
   rw[owns_cons,owns_append]
   simp only[ownsL,Option.toList,List.nil_append,ownsLs_eq]
  exact⟨a,vs,e,h,r.len,E.sub,by rw[← ow];exact E.nd,fun b hb=>E.off b (by rw[ow];exact hb),Paired.app (slots_paired.mp r) t⟩
theorem REnv.openO{K:PySem.W.Frag}{Pr H:Hp}{σ:St}{ρ:Ev}{v:Option V}{a:Addr}{ls:List L}(E:REnv K Pr H (v::σ) (.bx (some a) ls::ρ)):∃vs,v=some (.ref a)∧H a=some (.lst vs)∧vs.length=ls.length∧a∉owns (ls++ρ)∧Pr a=none∧REnv K Pr H (vs.map some++σ) (ls++ρ):=by
 have sl:=E.sl
 cases sl with
 | cons q t =>
  simp only[Slot1]at q
  obtain⟨e,vs,h,r⟩:=q
  have ow:owns (.bx (some a) ls::ρ)=a::owns (ls++ρ):=by
   rw[owns_cons,owns_append]
   simp only[ownsL,Option.toList,List.cons_append,List.nil_append,ownsLs_eq]
  have nd:=E.nd
  rw[ow]at nd
  obtain⟨n1,n2⟩:=List.nodup_cons.mp nd
  exact⟨vs,e,h,r.len,n1,E.off a (by rw[ow];exact List.mem_cons_self),E.sub,n2,fun b hb=>E.off b (by rw[ow];exact List.mem_cons_of_mem _ hb),Paired.app (slots_paired.mp r) t⟩
def Frozen(H H':Hp)(S:List Addr):Prop:=Pres H H'∧(∀b,b∉S→H' b=H b)∧∀a∈S,∀vs,H a=some (.lst vs)→∃o,H' a=some (.frz o (.lst vs))
theorem Frozen.refl(H:Hp):Frozen H H []:=⟨fun _ _ _ e=>e,fun _ _=>rfl,fun _ h=>by simp at h⟩
mutual
theorem frzL:∀(l:L){pins:List (Addr×Obj)}{σ0:St}{s:Shared}{Pr H:Hp}{σ:St}{ρ:Ev}{v:Option V}{x:D},Inv X pins σ0 H s→REnv X.K Pr H (v::σ) (l::ρ)→eraseL l=some x→∃H',Inv X pins σ0 H' s∧REnv X.K Pr H' (v::σ) (.d x::ρ)∧Frozen H H' (ownsL l)
 |.un,_,_,_,_,_,_,_,_,_,_,_,h=>by simp[eraseL]at h
 |.dic _ _,_,_,_,_,_,_,_,_,_,_,_,h=>by simp[eraseL]at h
 | .d y,_,_,_,_,_,_,_,_,_,I,E,h=>by
  simp only[eraseL,Option.some.injEq]at h
  subst h
  exact⟨_,I,E,Frozen.refl _⟩
 | .own a xs,_,_,_,_,H,σ,ρ,v,_,I,E,h=>by
  simp only[eraseL,Option.some.injEq]at h
  subst h
  have sl:=E.sl
  cases sl with
  | cons q t =>
   simp only[Slot1]at q
   obtain⟨e0,vs,ha,r⟩:=q
   obtain⟨o,I'⟩:=I.freezeL ha
   refine⟨_,I',E.freeze ha o,fun b u pu eb=>?_,fun b hb=>?_,fun b hb vs' eb=>?_⟩
   ·
    rw[upd_ne];exact eb
    rintro rfl
    rw[ha]at eb;cases eb;exact pu
   ·
    rw[upd_ne]
    rintro rfl
    exact hb (by simp[ownsL])
   ·
    have e:b=a:=by simpa[ownsL]using hb
    subst e
    rw[ha]at eb;cases eb
    exact⟨o,upd_same⟩
 | .bx none ls,_,_,_,Pr,H,σ,ρ,v,x,I,E,h=>by
  simp only[eraseL,Option.map_eq_some_iff]at h
  obtain⟨xs,h,rfl⟩:=h
  obtain⟨a,vs,rfl,ha,hl,E1⟩:=E.openT
  obtain⟨H',I',E',F⟩:=frzLs ls hl I E1 h
  have hxl:=eraseLs_len h
  obtain⟨s1,s2⟩:=Paired.unapp (by simp[hl,hxl]) E'.sl
  refine⟨H',I',(E'.drop (by simp[hl,hxl])).cons_d (.tup (ha.pres F.1) (reps_at s1)),F.1,fun b hb=>F.2.1 b ?_,fun b hb=>F.2.2 b ?_⟩
  ·
   simpa[ownsL,ownsLs_eq]using hb
  ·
   simpa[ownsL,ownsLs_eq]using hb
 | .bx (some a) ls,_,_,_,Pr,H,σ,ρ,v,x,I,E,h=>by
  simp only[eraseL,Option.map_eq_some_iff]at h
  obtain⟨xs,h,rfl⟩:=h
  obtain⟨vs,rfl,ha,hl,hn,hp,E1⟩:=E.openO
  obtain⟨H',I',E',F⟩:=frzLs ls hl I E1 h
  have hxl:=eraseLs_len h
  have hal:a∉owns ls:=fun z=>hn (by rw[owns_append];exact List.mem_append_left _ z)
  have haρ:a∉owns ρ:=fun z=>hn (by rw[owns_append];exact List.mem_append_right _ z)
  have ha':H' a=some (.lst vs):=(F.2.1 a hal).trans ha
  obtain⟨s1,s2⟩:=Paired.unapp (by simp[hl,hxl]) E'.sl
  have E2:=E'.drop (by simp[hl,hxl])
  have E3:REnv X.K Pr H' (some (.ref a)::σ) (.own a xs::ρ):=by
   refine⟨E2.sub,?_,fun b hb=>?_,.cons ?_ E2.sl⟩
   ·
    rw[owns_cons_own];exact List.nodup_cons.mpr ⟨haρ,E2.nd⟩
   ·
    rw[owns_cons_own]at hb
    rcases List.mem_cons.mp hb with z|z
    ·
     rw[z];exact hp
    ·
     exact E2.off b z
   ·
    unfold Slot1
    exact⟨rfl,vs,ha',reps_at s1⟩
  obtain⟨o,I2⟩:=I'.freezeL ha'
  refine⟨_,I2,E3.freeze ha' o,fun b u pu e=>?_,fun b hb=>?_,fun b hb vs' eb=>?_⟩
  ·
   rw[upd_ne];exact F.1 b u pu e
   rintro rfl
   rw[ha]at e;cases e;exact pu
  ·
   have hb':b≠a∧b∉owns ls:=by simpa[ownsL,ownsLs_eq,not_or]using hb
   rw[upd_ne hb'.1]
   exact F.2.1 b hb'.2
  ·
   by_cases hba:b=a
   ·
    subst hba
    rw[ha]at eb;cases eb
    exact⟨o,upd_same⟩
   ·
    have hb':b∈owns ls:=by
     rcases(by simpa[ownsL,ownsLs_eq]using hb:b=a∨b∈owns ls)with z|z
     ·
      exact absurd z hba
     ·
      exact z
    rw[upd_ne hba]
    exact F.2.2 b hb' vs' eb
theorem frzLs:∀(ls:List L){pins:List (Addr×Obj)}{σ0:St}{s:Shared}{Pr H:Hp}{σ:St}{ρ:Ev}{vs:List V}{xs:List D},vs.length=ls.length→Inv X pins σ0 H s→REnv X.K Pr H (vs.map some++σ) (ls++ρ)→eraseLs ls=some xs→∃H',Inv X pins σ0 H' s∧REnv X.K Pr H' (vs.map some++σ) (xs.map .d++ρ)∧Frozen H H' (owns ls)
 | [],_,_,_,_,_,_,_,vs,xs,hl,I,E,h=>by
  simp only[eraseLs,Option.some.injEq]at h
  subst h
  cases vs with
  |nil=>exact⟨_,I,E,Frozen.refl _⟩
  |cons _ _=>simp at hl
 | l::ls,_,_,_,Pr,H,σ,ρ,vs,xs,hl,I,E,h=>by
  simp only[eraseLs]at h
  split at h
  rotate_left
  ·
   cases h
  rename_i x ys h1 h2
  cases h
  cases vs with
  |nil=>simp at hl
  | cons v vs =>
   have hl':vs.length=ls.length:=by simpa using hl
   obtain⟨H1,I1,E1,F1⟩:=frzL l I E h1
   have E2:REnv X.K (butOwn H1 (ls++ρ)) H1 (vs.map some++σ) (ls++ρ):=(E1.drop (τ:=[some v]) (lam:=[.d x]) rfl).wide
   obtain⟨H2,I2,E3,F2⟩:=frzLs ls hl' I1 E2 h2
   have hyl:=eraseLs_len h2
   have E4:REnv X.K Pr H2 (some v::(vs.map some++σ)) (.d x::(ys.map .d++ρ)):=by
    have z:=REnv.step (τ:=[some v]) (lam:=[.d x]) (w:=[]) (μ:=[]) (σ':=vs.map some++σ) (ρ':=ys.map .d++ρ) E1 rfl E3 rfl
    exact z
   refine⟨H2,I2,E4,fun b u pu e=>F2.1 b u pu (F1.1 b u pu e),fun b hb=>?_,fun b hb vs' eb=>?_⟩
   ·
    rw[owns_cons]at hb
    rw[F2.2.1 b (fun z=>hb (List.mem_append_right _ z)),F1.2.1 b (fun z=>hb (List.mem_append_left _ z))]
   ·
    rw[owns_cons]at hb
    rcases List.mem_append.mp hb with z|z
    ·
     obtain⟨o,eo⟩:=F1.2.2 b z vs' eb
     exact⟨o,F2.1 b _ True.intro eo⟩
    ·
     have hn:b∉ownsL l:=fun z'=>by
      have nd:=E.nd
      rw[List.cons_append,owns_cons,owns_append]at nd
      exact(List.nodup_append.mp nd).2.2 b z' b (List.mem_append_left _ z) rfl
     exact F2.2.2 b z vs' ((F1.2.1 b hn).trans eb)
end
theorem EL.frz{pins:List (Addr×Obj)}{σ:St}{Pr:Hp}{post:D→Ev→Prop}{u:Value}{s':Shared}(h:EL X pins σ Pr (fun r ρ=>toD r fun x=>post x ρ) u s') :
  ∃v H' x ρ',Inv X pins σ H' s'∧RelV v u∧REnv X.K Pr H' (some v::σ) (.d x::ρ')∧post x ρ':=by
 obtain⟨v,H',r,ρ',I,rv,E,p⟩:=h
 cases r with
 |un=>exact p.elim
 |d x=>exact⟨v,H',x,ρ',I,rv,E,p⟩
 | own a xs =>
  obtain⟨H2,I2,E2,_⟩:=frzL (.own a xs) I E rfl
  exact⟨v,H2,.lst xs,ρ',I2,rv,E2,p⟩
 | bx a ls =>
  obtain⟨x,ex,p⟩:=toDB_is p
  obtain⟨H2,I2,E2,_⟩:=frzL (.bx a ls) I E ex
  exact⟨v,H2,x,ρ',I2,rv,E2,p⟩
 |dic a kvs=>exact p.elim
def wFrz(t:W L):W L:=fun ρ post=>t ρ fun r ρ1=>toD r fun x=>post (.d x) ρ1
theorem pl_frz{t:W L}(h:PL X e t):PL X e (wFrz t):=fun pins s σ H Pr ρ post I E ht =>
 thn (h pins s σ H Pr ρ _ I E ht) fun u s1 q=>by
  obtain⟨v,H',x,ρ',I',rv,E',p⟩:=EL.frz (post:=fun x ρ=>post (.d x) ρ) q
  exact⟨v,H',.d x,ρ',I',rv,E',p⟩
theorem REnv.head_d{K:PySem.W.Frag}{Pr H:Hp}{v:Option V}{σ:St}{x:D}{ρ:Ev}(E:REnv K Pr H (v::σ) (.d x::ρ)):∃w,v=some w∧Rep K H w x:=by
 have sl:=E.sl
 cases sl with
 |cons q t=>exact q
theorem REnv.tail{K:PySem.W.Frag}{Pr H:Hp}{v:Option V}{σ:St}{l:L}{ρ:Ev}(E:REnv K Pr H (v::σ) (l::ρ)):REnv K Pr H σ ρ:=REnv.drop (τ:=[v]) (lam:=[l]) E rfl
theorem two{pins:List (Addr×Obj)}{s:Shared}{σ:St}{H Pr:Hp}{ρ:Ev}{R:D→D→Ev→Prop}(ha:PL X a ta)(hb:PL X b tb)(I:Inv X pins σ H s)(E:REnv X.K Pr H σ ρ)
  (h:ta ρ fun x ρ1=>toD x fun dx=>tb ρ1 fun y ρ2=>toD y fun dy=>R dx dy ρ2) {α:Type} {Q:α→Shared→Prop} {f:Value→Value→Sem α}
  (hf:∀v u s2 x y H2 dx dy ρ2,Inv X pins σ H2 s2→RelV x v→RelV y u→REnv X.K Pr H2 (some y::some x::σ) (.d dy::.d dx::ρ2)→Rep X.K H2 x dx→Rep X.K H2 y dy→R dx dy ρ2→wpAny (model X.prog X.w) X.A (f v u) Q X.xe s2) :
  wpAny (model X.prog X.w) X.A (eval a X.env) (fun v s₁=>wpAny (model X.prog X.w) X.A (eval b X.env) (fun u s₂=>wpAny (model X.prog X.w) X.A (f v u) Q X.xe s₂) X.xe s₁) X.xe s:=by
 refine thn (ha pins s σ H Pr ρ _ I E h) fun v s1 q=>?_
 obtain⟨x,H1,dx,ρ1,I1,r1,E1,q1⟩:=EL.frz (post:=fun dx ρ1=>tb ρ1 fun y ρ2=>toD y fun dy=>R dx dy ρ2) q
 refine thn (hb pins s1 σ H1 _ ρ1 _ I1 E1.tail.wide q1) fun u s2 q=>?_
 obtain⟨y,H2,dy,ρ2,I2,r2,E2,q2⟩:=EL.frz (post:=fun dy ρ2=>R dx dy ρ2) q
 have E3:REnv X.K Pr H2 (some y::some x::σ) (.d dy::.d dx::ρ2):=REnv.step (τ:=[some x]) (lam:=[.d dx]) (w:=[some y]) (μ:=[.d dy]) E1 rfl E2 rfl
 obtain⟨_,e1,p1⟩:=E3.head_d
 obtain⟨_,e2,p2⟩:=E3.tail.head_d
 cases e1
 cases e2
 exact hf v u s2 x y H2 dx dy ρ2 I2 r1 r2 E3 p2 p1 q2
abbrev Op2:=D→D→(L→Prop)→Prop
def OpD(X:Cx)(f:Value→Value→Sem Value)(op:Op2):Prop :=
 ∀(pins:List (Addr×Obj))(s:Shared)(σ:St)(H Pr:Hp)(ρ:Ev)(x y:V)(v u:Value)(dx dy:D)(post:L→Prop),Inv X pins σ H s→RelV x v→RelV y u→REnv X.K Pr H σ ρ→Rep X.K H x dx→Rep X.K H y dy→op dx dy post →
  wpAny (model X.prog X.w) X.A (f v u) (fun w s'=>∃z H' r,Inv X pins σ H' s'∧RelV z w∧REnv X.K Pr H' (some z::σ) (r::ρ)∧post r) X.xe s
theorem OpD.of{f:Value→Value→Sem Value}{r:R2}{op:Op2}(h:OpR X f r)(q:∀σ H Pr ρ x y dx dy post,REnv X.K Pr H σ ρ→Rep X.K H x dx→Rep X.K H y dy→op dx dy post→r x y H fun z H'=>∃r,REnv X.K Pr H' (some z::σ) (r::ρ)∧post r):OpD X f op :=
 fun pins s σ H Pr ρ x y v u dx dy post I rx ry E px py ho=>thn (h pins s σ H x y v u _ I rx ry (q σ H Pr ρ x y dx dy post E px py ho)) fun w s' ⟨z,H',I',rz,r,E',p⟩=>⟨z,H',r,I',rz,E',p⟩
theorem OpD.imp{f:Value→Value→Sem Value}{o1 o2:Op2}(h1:OpD X f o1)(h:∀x y p,o2 x y p→o1 x y p):OpD X f o2 :=
 fun pins s σ H Pr ρ x y v u dx dy post I rx ry E px py ho=>h1 pins s σ H Pr ρ x y v u dx dy post I rx ry E px py (h _ _ _ ho)
def wBin(op:Op2)(ta tb:W L):W L:=fun ρ post=>ta ρ fun x ρ1=>toD x fun dx=>tb ρ1 fun y ρ2=>toD y fun dy=>op dx dy fun r=>post r ρ2
theorem pl_bin{op:Operator}{o:Op2}(ho:OpD X (binaryOp op) o)(ha:PL X a ta)(hb:PL X b tb):PL X (.BinOp a op b pos) (wBin o ta tb):=fun pins s σ H Pr ρ post I E h =>
 wpAny_BinOp (two (R:=fun dx dy ρ2=>o dx dy fun r=>post r ρ2) ha hb I E h fun v u s2 x y H2 dx dy ρ2 I2 r1 r2 E2 p1 p2 q =>
  thn (ho pins s2 σ H2 Pr ρ2 x y v u dx dy _ I2 r1 r2 E2.tail.tail p1 p2 q) fun w s3 ⟨z,H3,r,I3,rz,E3,p⟩=>⟨z,H3,r,ρ2,I3,rz,E3,p⟩)
theorem pl_cmp{op:CmpOp}{o:Op2}(ho:OpD X (compareOp op) o)(ha:PL X a ta)(hb:PL X b tb)(hm:behindInMarks op b=false):PL X (.Compare a [op] [b] pos) (wBin o ta tb):=fun pins s σ H Pr ρ post I E h =>
 wpAny_Compare1 (two (R:=fun dx dy ρ2=>o dx dy fun r=>post r ρ2) ha hb I E h fun v u s2 x y H2 dx dy ρ2 I2 r1 r2 E2 p1 p2 q =>
  thn (ho pins s2 σ H2 Pr ρ2 x y v u dx dy _ I2 r1 r2 E2.tail.tail p1 p2 q) fun w s3 ⟨z,H3,r,I3,rz,E3,p⟩=>⟨z,H3,r,ρ2,I3,rz,E3,p⟩) hm
def wC(x:D):W L:=fun ρ post=>post (.d x) ρ
theorem pl_int {i j pos}:PL X (.Constant (.int i) j pos) (wC (.int i)):=PL.of pe_int fun σ H Pr ρ post E h=>⟨_,_,E.cons_d (.int i),h⟩
theorem pl_bl {b j pos}:PL X (.Constant (.bool b) j pos) (wC (.bl b)):=PL.of pe_bl fun σ H Pr ρ post E h=>⟨_,_,E.cons_d (.bl b),h⟩
theorem pl_non {j pos}:PL X (.Constant .none j pos) (wC .non):=PL.of pe_non fun σ H Pr ρ post E h=>⟨_,_,E.cons_d .non,h⟩
def varW(o:Option L)(i:Nat)(ρ:Ev)(post:L→Ev→Prop):Prop:=match o with
 |some (.d x)=>post (.d x) ρ
 |some (.own _ xs)=>post (.d (.lst xs)) (ρ.set i (.d (.lst xs)))
 |some (.bx a ls)=>toDB a ls fun x=>post (.d x) (ρ.set i (.d x))
 |_=>False
def wVar(i:Nat):W L:=fun ρ post=>varW ρ[i]? i ρ post
theorem varW_d(x:D)(i:Nat)(ρ:Ev)(post:L→Ev→Prop):varW (some (.d x)) i ρ post=post (.d x) ρ:=(rfl)
theorem varW_own(a:Addr)(xs:List D)(i:Nat)(ρ:Ev)(post:L→Ev→Prop):varW (some (.own a xs)) i ρ post=post (.d (.lst xs)) (ρ.set i (.d (.lst xs))):=(rfl)
theorem varW_bx(a:Option Addr)(ls:List L)(i:Nat)(ρ:Ev)(post:L→Ev→Prop):varW (some (.bx a ls)) i ρ post=toDB a ls fun x=>post (.d x) (ρ.set i (.d x)):=(rfl)
theorem REnv.slot{K:PySem.W.Frag}{Pr H:Hp}{σ:St}{ρ:Ev}{i:Nat}{l:L}(E:REnv K Pr H σ ρ)(h:ρ[i]?=some l):∃s,σ[i]?=some s∧Slot1 K H s l:=Paired.get2 E.sl h
theorem pl_var(i:Nat){x:Str}{pos:Pos}(hN:X.N[i]?=some x:=by rfl)(hv:Vis X.env.scope x:=by first | exact Or.inl rfl | exact Or.inr (Or.inl rfl) | exact Or.inr (Or.inr rfl)) (hd:(x == ("__debug__" : Str))=false:=by decide)
  (hcd:(x == ("__classdict__" : Str))=false:=by decide):PL X (.Name x pos) (wVar i):=by
 intro pins s σ H Pr ρ post I E h
 unfold wVar varW at h
 cases q:ρ[i]? with
 |none=>rw[q]at h;exact h.elim
 | some l =>
  rw[q]at h
  obtain⟨sv,hs,sl⟩:=E.slot q
  cases l with
  |un=>exact h.elim
  |dic a kvs=>exact h.elim
  | d y =>
   obtain⟨v,rfl,r⟩:=sl
   exact thn (pe_var hN hv hd hcd pins s σ H (fun w H'=>w=v∧H'=H) I ⟨v,hs,rfl,rfl⟩) fun u s1 ⟨w,H1,I1,r1,e1,e2⟩=>by
    subst e1 e2
    exact⟨w,H1,_,ρ,I1,r1,E.cons_d r,h⟩
  | own a xs =>
   obtain⟨rfl,vs,ha,r⟩:=sl
   refine thn (pe_var hN hv hd hcd pins s σ H (fun w H'=>w=.ref a∧H'=H) I ⟨.ref a,hs,rfl,rfl⟩) fun u s1 ⟨w,H1,I1,r1,e1,e2⟩=>?_
   subst e1 e2
   obtain⟨o,I2⟩:=I1.freezeL ha
   have E2:=(E.out q).freeze ha o
   have hi:i<ρ.length:=(List.getElem?_eq_some_iff.mp q).1
   have E3:=E2.back (i:=i) (by simp[hi]) hs
   rw[List.set_set]at E3
   obtain⟨_,e,p⟩:=E2.head_d
   cases e
   exact⟨_,_,_,_,I2,r1,E3.cons_d p,h⟩
  | bx a ls =>
   obtain⟨y,ey,h⟩:=toDB_is h
   have hv':∃b,sv=some (.ref b):=by
    cases a with
    |none=>simp only[Slot1]at sl;obtain⟨b,_,e,_⟩:=sl;exact⟨b,e⟩
    |some b=>simp only[Slot1]at sl;exact⟨b,sl.1⟩
   obtain⟨b,rfl⟩:=hv'
   refine thn (pe_var hN hv hd hcd pins s σ H (fun w H'=>w=.ref b∧H'=H) I ⟨.ref b,hs,rfl,rfl⟩) fun u s1 ⟨w,H1,I1,r1,e1,e2⟩=>?_
   subst e1 e2
   obtain⟨H2,I2,E2,_⟩:=frzL (.bx a ls) I1 (E.outL q hs) ey
   have hi:i<ρ.length:=(List.getElem?_eq_some_iff.mp q).1
   have E3:=E2.back (i:=i) (by simp[hi]) hs
   rw[List.set_set]at E3
   obtain⟨_,e,p⟩:=E2.head_d
   cases e
   exact⟨_,_,_,_,I2,r1,E3.cons_d p,h⟩
def movW(o:Option L)(i:Nat)(ρ:Ev)(post:L→Ev→Prop):Prop:=match o with
 |some (.d x)=>post (.d x) ρ
 |some (.own a xs)=>post (.own a xs) (ρ.set i .un)
 |some (.bx a ls)=>post (.bx a ls) (ρ.set i .un)
 |_=>False
def wMove(i:Nat):W L:=fun ρ post=>movW ρ[i]? i ρ post
theorem movW_d(x:D)(i:Nat)(ρ:Ev)(post:L→Ev→Prop):movW (some (.d x)) i ρ post=post (.d x) ρ:=(rfl)
theorem movW_own(a:Addr)(xs:List D)(i:Nat)(ρ:Ev)(post:L→Ev→Prop):movW (some (.own a xs)) i ρ post=post (.own a xs) (ρ.set i .un):=(rfl)
theorem movW_bx(a:Option Addr)(ls:List L)(i:Nat)(ρ:Ev)(post:L→Ev→Prop):movW (some (.bx a ls)) i ρ post=post (.bx a ls) (ρ.set i .un):=(rfl)
theorem pl_move(i:Nat){x:Str}{pos:Pos}(hN:X.N[i]?=some x:=by rfl)(hv:Vis X.env.scope x:=by first | exact Or.inl rfl | exact Or.inr (Or.inl rfl) | exact Or.inr (Or.inr rfl)) (hd:(x == ("__debug__" : Str))=false:=by decide)
  (hcd:(x == ("__classdict__" : Str))=false:=by decide):PL X (.Name x pos) (wMove i):=by
 intro pins s σ H Pr ρ post I E h
 unfold wMove movW at h
 cases q:ρ[i]? with
 |none=>rw[q]at h;exact h.elim
 | some l =>
  rw[q]at h
  obtain⟨sv,hs,sl⟩:=E.slot q
  cases l with
  |un=>exact h.elim
  |dic a kvs=>exact h.elim
  | d y =>
   obtain⟨v,rfl,r⟩:=sl
   exact thn (pe_var hN hv hd hcd pins s σ H (fun w H'=>w=v∧H'=H) I ⟨v,hs,rfl,rfl⟩) fun u s1 ⟨w,H1,I1,r1,e1,e2⟩=>by
    subst e1 e2
    exact⟨w,H1,_,ρ,I1,r1,E.cons_d r,h⟩
  | own a xs =>
   obtain⟨rfl,vs,ha,r⟩:=sl
   refine thn (pe_var hN hv hd hcd pins s σ H (fun w H'=>w=.ref a∧H'=H) I ⟨.ref a,hs,rfl,rfl⟩) fun u s1 ⟨w,H1,I1,r1,e1,e2⟩=>?_
   subst e1 e2
   exact⟨_,_,_,_,I1,r1,E.out q,h⟩
  | bx a ls =>
   have hv':∃b,sv=some (.ref b):=by
    cases a with
    |none=>simp only[Slot1]at sl;obtain⟨b,_,e,_⟩:=sl;exact⟨b,e⟩
    |some b=>simp only[Slot1]at sl;exact⟨b,sl.1⟩
   obtain⟨b,rfl⟩:=hv'
   refine thn (pe_var hN hv hd hcd pins s σ H (fun w H'=>w=.ref b∧H'=H) I ⟨.ref b,hs,rfl,rfl⟩) fun u s1 ⟨w,H1,I1,r1,e1,e2⟩=>?_
   subst e1 e2
   exact⟨_,_,_,_,I1,r1,E.outL q hs,h⟩
def isBl:L→(Bool→Prop)→Prop
 |.d (.bl b),k=>k b
 |_,_=>False
def wTest(t:W L):W Bool:=fun ρ post=>t ρ fun r ρ1=>isBl r fun b=>post b ρ1
theorem isBl_is{r:L}{k:Bool→Prop}(h:isBl r k):∃b,r=.d (.bl b)∧k b:=by
 cases r with
 | d x=>cases x with
  |bl b=>exact⟨b,rfl,h⟩
  |_=>exact h.elim
 |_=>exact h.elim
theorem pb_val{t:W L}(h:PL X e t)(he:∀whole,isTrue e X.env whole=(do let v ← whole;standAt e.pos;holding [v] (truthy v)):=by intro _;rfl):PB X e (wTest t):=by
 intro pins s σ H Pr ρ post I E ht
 rw[he]
 refine wpAny_bind (thn (h pins s σ H Pr ρ _ I E ht) fun u s1 ⟨v,H1,r,ρ1,I1,rv,E1,p⟩=>wpAny_bind (wpAny_standAt (wpAny_holding ?_)))
 obtain⟨b,rfl,p⟩:=isBl_is p
 obtain⟨_,e1,p1⟩:=E1.head_d
 cases e1
 cases p1
 cases rv
 exact wpAny_truthy_bool ⟨H1,ρ1,I1,E1.tail,p⟩
end
section
variable{X:Cx}{e a b c:Expr}{rest:List Expr}{pos:Pos}{ta tb:W L}{tA tB:W Bool}
def PBw(X:Cx)(e:Expr)(t:W Bool):Prop :=
 ∀(whole:Sem Value)(pins:List (Addr×Obj))(s:Shared)(σ:St)(H Pr:Hp)(ρ:Ev)(post:Bool→Ev→Prop),Inv X pins σ H s→REnv X.K Pr H σ ρ→t ρ post→wpAny (model X.prog X.w) X.A (isTrue e X.env whole) (EB X pins σ Pr post) X.xe s
theorem PBw.pb{t:W Bool}(h:PBw X e t):PB X e t:=h _
def wAnd(t u:W Bool):W Bool:=fun ρ post=>t ρ fun c ρ1=>if c=true then u ρ1 post else post false ρ1
def wOr(t u:W Bool):W Bool:=fun ρ post=>t ρ fun c ρ1=>if c=true then post true ρ1 else u ρ1 post
def wNot(t:W Bool):W Bool:=fun ρ post=>t ρ fun c ρ1=>post (!c) ρ1
theorem pbw_and1(ha:PB X a tA):PBw X (.BoolOp .And [a] pos) tA:=by
 intro wh pins s σ H Pr ρ post I E h
 refine isTrue_and (thn (ha pins s σ H Pr ρ post I E h) fun c s1 e=>?_)
 cases c with
 |true=>exact isTrue_and_nil e
 |false=>exact e
theorem pbw_or1(ha:PB X a tA):PBw X (.BoolOp .Or [a] pos) tA:=by
 intro wh pins s σ H Pr ρ post I E h
 refine isTrue_or (thn (ha pins s σ H Pr ρ post I E h) fun c s1 e=>?_)
 cases c with
 |false=>exact isTrue_or_nil e
 |true=>exact e
theorem pbw_and(ha:PB X a tA)(hb:PBw X (.BoolOp .And (b::rest) pos) tB):PBw X (.BoolOp .And (a::b::rest) pos) (wAnd tA tB):=by
 intro wh pins s σ H Pr ρ post I E h
 refine isTrue_and (thn (ha pins s σ H Pr ρ _ I E h) fun c s1 ⟨H1,ρ1,I1,E1,q1⟩=>?_)
 cases c with
 |true=>exact hb wh pins s1 σ H1 Pr ρ1 post I1 E1 q1
 |false=>exact⟨H1,ρ1,I1,E1,q1⟩
theorem pbw_or(ha:PB X a tA)(hb:PBw X (.BoolOp .Or (b::rest) pos) tB):PBw X (.BoolOp .Or (a::b::rest) pos) (wOr tA tB):=by
 intro wh pins s σ H Pr ρ post I E h
 refine isTrue_or (thn (ha pins s σ H Pr ρ _ I E h) fun c s1 ⟨H1,ρ1,I1,E1,q1⟩=>?_)
 cases c with
 |true=>exact⟨H1,ρ1,I1,E1,q1⟩
 |false=>exact hb wh pins s1 σ H1 Pr ρ1 post I1 E1 q1
theorem pb_not(ha:PB X a tA):PB X (.UnaryOp .Not a pos) (wNot tA):=by
 intro pins s σ H Pr ρ post I E h
 exact isTrue_not (ha pins s σ H Pr ρ (fun c ρ1=>post (!c) ρ1) I E h)
theorem pbc{op:CmpOp}{o:Op2}(ho:OpD X (compareOp op) o)(ha:PL X a ta)(hb:PL X b tb)(hm:behindInMarks op b=false):PB X (.Compare a [op] [b] pos) (wTest (wBin o ta tb)):=by
 intro pins s σ H Pr ρ post I E h
 refine wpAny_isTrue_Compare1 (two (R:=fun dx dy ρ2=>o dx dy fun r=>isBl r fun b=>post b ρ2) ha hb I E h fun v u s2 x y H2 dx dy ρ2 I2 r1 r2 E2 p1 p2 q=>?_) hm
 refine thn (ho pins s2 σ H2 Pr ρ2 x y v u dx dy _ I2 r1 r2 E2.tail.tail p1 p2 q) fun w s3 ⟨z,H3,r,I3,rz,E3,p⟩=>?_
 obtain⟨b,rfl,p⟩:=isBl_is p
 obtain⟨_,e1,p1⟩:=E3.head_d
 cases e1
 cases p1
 cases rz
 exact wpAny_truthy_bool ⟨H3,ρ2,I3,E3.tail,p⟩
def wAndV(ta tb:W L):W L:=fun ρ post=>ta ρ fun r ρ1=>isBl r fun c=>if c=true then tb ρ1 post else post (.d (.bl false)) ρ1
theorem pl_one {op} {t:W L} (h:PL X a t):PL X (.BoolOp op [a] pos) t:=fun pins s σ H Pr ρ post I E hw=>BoolOp_one (h pins s σ H Pr ρ post I E hw)
theorem EL.bl{pins:List (Addr×Obj)}{σ:St}{Pr:Hp}{post:Bool→Ev→Prop}{u:Value}{s':Shared}(h:EL X pins σ Pr (fun r ρ=>isBl r fun b=>post b ρ) u s') :
  ∃H' b ρ',u=.bool b∧Inv X pins σ H' s'∧REnv X.K Pr H' σ ρ'∧post b ρ':=by
 obtain⟨v,H',r,ρ',I,rv,E,p⟩:=h
 obtain⟨b,rfl,p⟩:=isBl_is p
 obtain⟨_,e1,p1⟩:=E.head_d
 cases e1
 cases p1
 cases rv
 exact⟨H',b,ρ',rfl,I,E.tail,p⟩
theorem pl_and(ha:PL X a ta)(hb:PL X (.BoolOp .And (b::rest) pos) tb):PL X (.BoolOp .And (a::b::rest) pos) (wAndV ta tb):=by
 intro pins s σ H Pr ρ post I E h
 refine BoolOp_and (thn (ha pins s σ H Pr ρ _ I E h) fun v s1 q=>?_)
 obtain⟨H1,c,ρ1,rfl,I1,E1,q1⟩:=EL.bl (post:=fun c ρ1=>if c=true then tb ρ1 post else post (.d (.bl false)) ρ1) q
 refine wpAny_truthy_bool ?_
 cases c with
 |true=>exact hb pins s1 σ H1 Pr ρ1 post I1 E1 q1
 |false=>exact⟨.bl false,H1,_,ρ1,I1,rfl,E1.cons_d (.bl false),q1⟩
def wUn(op:D→(L→Prop)→Prop)(t:W L):W L:=fun ρ post=>t ρ fun x ρ1=>toD x fun dx=>op dx fun r=>post r ρ1
def opNeg:D→(L→Prop)→Prop
 |.int i,k=>k (.d (.int (-i)))
 |_,_=>False
theorem pl_neg(ha:PL X a ta):PL X (.UnaryOp .USub a pos) (wUn opNeg ta):=by
 intro pins s σ H Pr ρ post I E h
 refine UnaryOp_ (thn (ha pins s σ H Pr ρ _ I E h) fun v s1 q=>?_)
 obtain⟨x,H1,dx,ρ1,I1,r1,E1,q1⟩:=EL.frz (post:=fun dx ρ1=>opNeg dx fun r=>post r ρ1) q
 obtain⟨_,e1,p1⟩:=E1.head_d
 cases e1
 cases p1 with
 | int i =>
  exact thn (un_neg pins s1 σ H1 _ v (fun w H'=>w=.int (-i)∧H'=H1) I1 r1 ⟨i,rfl,rfl,rfl⟩) fun u s2 ⟨w,H2,I2,r2,e1,e2⟩=>by
   subst e1 e2
   exact⟨_,_,_,ρ1,I2,r2,E1.tail.cons_d (.int _),q1⟩
 |_=>exact q1.elim
variable{st:Stmt}{sts:List Stmt}{t u:W Fl}
def wNext:W Fl:=fun ρ post=>post .nx ρ
def wSeq(t u:W Fl):W Fl:=fun ρ post=>t ρ fun f ρ1=>match f with
 |.nx=>u ρ1 post
 |f=>post f ρ1
theorem pms_nil:PMs X [] wNext:=fun _ _ σ H Pr ρ post I E h=>wpAny_execs_nil ⟨σ,H,ρ,I,E,h⟩
theorem pms_cons(h1:PM X st t)(h2:PMs X sts u):PMs X (st::sts) (wSeq t u):=by
 intro pins s σ H Pr ρ post I E h
 refine wpAny_execs_cons (thn (h1 pins s σ H Pr ρ _ I E h) fun f s1 q=>?_)
 cases f with
 | next =>
  obtain⟨σ',H',ρ',I',E',q⟩:=q
  exact h2 pins s1 σ' H' Pr ρ' post I' E' q
 |ret v=>exact q
 |brk=>exact q
 |cont=>exact q
theorem pms_one(h1:PM X st t):PMs X [st] t:=by
 intro pins s σ H Pr ρ post I E h
 refine wpAny_execs_cons (thn (h1 pins s σ H Pr ρ _ I E h) fun f s1 q=>?_)
 cases f with
 |next=>exact wpAny_execs_nil q
 |ret v=>exact q
 |brk=>exact q
 |cont=>exact q
def wDrop(t:W L):W Fl:=fun ρ post=>t ρ fun _ ρ1=>post .nx ρ1
theorem pm_expr{te:W L}(he:PL X e te)(hs:swapsWith e none pos.line X.env=pure false:=by rfl):PM X (.Expr e pos) (wDrop te):=by
 intro pins s σ H Pr ρ post I E h
 exact wpAny_Expr_any (thn (he pins s σ H Pr ρ _ I E h) fun v s1 ⟨x,H1,r,ρ1,I1,r1,E1,q1⟩=>⟨σ,H1,ρ1,I1,E1.tail,q1⟩) I.quiet hs
def wRet(t:W L):W Fl:=fun ρ post=>t ρ fun r ρ1=>post (.rt r) ρ1
theorem pm_ret{te:W L}(he:PL X e te):PM X (.Return (some e) pos) (wRet te):=by
 intro pins s σ H Pr ρ post I E h
 exact wpAny_Return_some (thn (he pins s σ H Pr ρ _ I E h) fun v s1 ⟨x,H1,r,ρ1,I1,r1,E1,q1⟩=>⟨x,σ,H1,r,ρ1,σ,I1,r1,E1,q1⟩)
def wIf(c:W Bool)(t u:W Fl):W Fl:=fun ρ post=>c ρ fun b ρ1=>if b=true then t ρ1 post else u ρ1 post
theorem pm_if{sa sb:List Stmt}(hc:PB X c tA)(ha:PMs X sa t)(hb:PMs X sb u):PM X (.If c sa sb pos) (wIf tA t u):=by
 intro pins s σ H Pr ρ post I E h
 refine wpAny_If (thn (hc pins s σ H Pr ρ _ I E h) fun d s1 ⟨H1,ρ1,I1,E1,q1⟩=>?_)
 cases d with
 |true=>exact ha pins s1 σ H1 Pr ρ1 post I1 E1 q1
 |false=>exact hb pins s1 σ H1 Pr ρ1 post I1 E1 q1
theorem REnv.forget{K:PySem.W.Frag}{Pr H:Hp}{σ:St}{ρ:Ev}(E:REnv K Pr H σ ρ)(i:Nat)(v:Option V):REnv K Pr H (σ.set i v) (ρ.set i .un):=by
 have hsub:(owns (ρ.set i .un)).Sublist (owns ρ):=by
  have:∀(ρ:Ev)(i:Nat),(owns (ρ.set i .un)).Sublist (owns ρ):=by
   intro ρ
   induction ρ with
   |nil=>intro i;exact List.Sublist.refl _
   | cons l ρ ih =>
    intro i
    cases i with
    | zero =>
     show(owns ρ).Sublist (owns (l::ρ))
     rw[owns_cons];exact List.sublist_append_right _ _
    | succ i =>
     show(owns (l::ρ.set i .un)).Sublist (owns (l::ρ))
     rw[owns_cons,owns_cons]
     exact(List.Sublist.refl _).append (ih i)
  exact this ρ i
 exact⟨E.sub,E.nd.sublist hsub,fun a h=>E.off a (hsub.subset h),Paired.set2 True.intro i E.sl⟩
theorem REnv.store{K:PySem.W.Frag}{Pr H:Hp}{σ:St}{ρ:Ev}{v:Option V}{l:L}(E:REnv K Pr H (v::σ) (l::ρ)){i:Nat}(hi:i<σ.length):REnv K Pr H (σ.set i v) (ρ.set i l):=by
 have E1:=E.forget (i+1) v
 have E2:REnv K Pr H (v::σ.set i v) (l::ρ.set i .un):=E1
 have hl:=E.tail.len
 have E3:=E2.back (i:=i) (by rw[List.getElem?_set_self (by omega)]) (by rw[List.getElem?_set_self hi])
 rw[List.set_set]at E3
 exact E3
def wSet(i:Nat)(t:W L):W Fl:=fun ρ post=>t ρ fun r ρ1=>post .nx (ρ1.set i r)
theorem pm_set{i:Nat}{x:Str}{te:W L}{pos':Pos}(hN:X.N.Nodup)(hi:X.N[i]?=some x)(hx:Loc X.env.scope x)(he:PL X e te)(hs:swapsWith e (some (.Name x pos')) pos.line X.env=pure false:=by rfl)(hf:X.fn x=true∨X.env.scope.names.lookup x=some .local:=by first|exact .inl rfl|exact .inr rfl|assumption) :
  PM X (.Assign [.Name x pos'] e pos) (wSet i te):=by
 intro pins s σ H Pr ρ post I E h
 refine wpAny_Assign_Name (thn (he pins s σ H Pr ρ _ I E h) fun v s1 ⟨y,H1,r,ρ1,I1,r1,E1,q1⟩=>?_) hs
 exact store_ok I1 hN hi hx r1 (fun s2 I2=>⟨_,H1,_,I2,E1.store (by rw[I1.len];exact(List.getElem?_eq_some_iff.mp hi).1),q1⟩) hf
end
theorem owns_perm{a b:Ev}(h:a.Perm b):(owns a).Perm (owns b):=by
 induction h with
 |nil=>exact .refl _
 |cons x _ ih=>rw[owns_cons,owns_cons];exact ih.append_left _
 | swap x y l =>
  rw[owns_cons,owns_cons,owns_cons,owns_cons,← List.append_assoc,← List.append_assoc]
  exact List.Perm.append_right _ List.perm_append_comm
 |trans _ _ h1 h2=>exact h1.trans h2
theorem owns_sub{a b:Ev}(h:a.Sublist b):(owns a).Sublist (owns b):=by
 induction h with
 |slnil=>exact .refl _
 |cons x _ ih=>rw[owns_cons];exact ih.trans (List.sublist_append_right _ _)
 |cons_cons x _ ih=>rw[owns_cons,owns_cons];exact(List.Sublist.refl _).append ih
def tL(K:PySem.W.Frag)(t:W L):TE:=fun σ H Q=>∃Pr ρ post,REnv K Pr H σ ρ∧t ρ post∧∀v H' r ρ',REnv K Pr H' (some v::σ) (r::ρ')→post r ρ'→Q v H'
def tW(K:PySem.W.Frag)(t:W Fl):TS:=fun D σ H=>∃Pr ρ post,REnv K Pr H σ ρ∧t ρ post∧(∀σ' H' ρ',REnv K Pr H' σ' ρ'→post .nx ρ'→D.nx σ' H')∧(∀σ' H' ρ',REnv K Pr H' σ' ρ'→post .bk ρ'→D.bk σ' H')∧(∀σ' H' ρ',REnv K Pr H' σ' ρ'→post .ct ρ'→D.ct σ' H') ∧
 ∀v τ H' r ρ',REnv K Pr H' (some v::τ) (r::ρ')→post (.rt r) ρ'→D.rt v H'
def tWb(K:PySem.W.Frag)(t:W Bool):TT:=fun σ H Q=>∃Pr ρ post,REnv K Pr H σ ρ∧t ρ post∧∀b H' ρ',REnv K Pr H' σ ρ'→post b ρ'→Q b H'
section
variable{X:Cx}{e a b:Expr}{es:List Expr}{pos:Pos}{st:Stmt}{sts:List Stmt}{t u:W Fl}
theorem PL.pe{t:W L}(h:PL X e t):PE X e (tL X.K t):=fun pins s σ H Q I ⟨Pr,ρ,post,E,ht,q⟩ =>
 thn (h pins s σ H Pr ρ post I E ht) fun u s1 ⟨v,H1,r,ρ1,I1,rv,E1,p⟩=>⟨v,H1,I1,rv,q v H1 r ρ1 E1 p⟩
theorem PB.pt{t:W Bool}(h:PB X e t):PT X e (tWb X.K t):=fun pins s σ H Q I ⟨Pr,ρ,post,E,ht,q⟩ =>
 thn (h pins s σ H Pr ρ post I E ht) fun b s1 ⟨H1,ρ1,I1,E1,p⟩=>⟨H1,I1,q b H1 ρ1 E1 p⟩
theorem PMs.pss(h:PMs X sts t):PSs X sts (tW X.K t):=fun pins s σ H D I ⟨Pr,ρ,post,E,ht,q1,q2,q3,q4⟩ =>
 thn (h pins s σ H Pr ρ post I E ht) fun f s1 q=>by
  cases f with
  |next=>obtain⟨σ',H',ρ',I',E',p⟩:=q;exact⟨σ',H',I',q1 σ' H' ρ' E' p⟩
  |brk=>obtain⟨σ',H',ρ',I',E',p⟩:=q;exact⟨σ',H',I',q2 σ' H' ρ' E' p⟩
  |cont=>obtain⟨σ',H',ρ',I',E',p⟩:=q;exact⟨σ',H',I',q3 σ' H' ρ' E' p⟩
  |ret u=>obtain⟨v,σ',H',r,ρ',τ,I',rv,E',p⟩:=q;exact⟨v,σ',H',I',rv,q4 v τ H' r ρ' E' p⟩
def endsOf(K:PySem.W.Frag)(Pr:Hp)(post:Fl→Ev→Prop):Ends where
 nx:=fun σ' H'=>∃ρ',REnv K Pr H' σ' ρ'∧post .nx ρ'
 rt:=fun v H'=>∃τ r ρ',REnv K Pr H' (some v::τ) (r::ρ')∧post (.rt r) ρ'
 bk:=fun σ' H'=>∃ρ',REnv K Pr H' σ' ρ'∧post .bk ρ'
 ct:=fun σ' H'=>∃ρ',REnv K Pr H' σ' ρ'∧post .ct ρ'
theorem PM.of{ts:TS}(h:PS X st ts)(q:∀σ H Pr ρ post,σ.length=X.N.length→REnv X.K Pr H σ ρ→t ρ post→ts (endsOf X.K Pr post) σ H):PM X st t:=fun pins s σ H Pr ρ post I E ht =>
 thn (h pins s σ H _ I (q σ H Pr ρ post I.len E ht)) fun f s1 q=>by
  cases f with
  |next=>obtain⟨σ',H',I',ρ',E',p⟩:=q;exact⟨σ',H',ρ',I',E',p⟩
  |brk=>obtain⟨σ',H',I',ρ',E',p⟩:=q;exact⟨σ',H',ρ',I',E',p⟩
  |cont=>obtain⟨σ',H',I',ρ',E',p⟩:=q;exact⟨σ',H',ρ',I',E',p⟩
  |ret u=>obtain⟨v,σ',H',I',rv,τ,r,ρ',E',p⟩:=q;exact⟨v,σ',H',r,ρ',τ,I',rv,E',p⟩
theorem REnv.narrow{K:PySem.W.Frag}{Pr H1 H:Hp}{σ1 σ:St}{ρ1 ρ:Ev}(E1:REnv K Pr H1 σ1 ρ1)(E:REnv K (butOwn H1 ρ1) H σ ρ):REnv K Pr H σ ρ:=by
 refine⟨fun b o e=>E.sub b o ?_,E.nd,fun a ha=>?_,E.sl⟩
 ·
  unfold butOwn
  rw[if_neg,E1.sub b o e]
  intro hm
  have z:=E1.off b hm
  rw[e]at z
  cases z
 ·
  have z:=E.off a ha
  unfold butOwn at z
  by_cases hm:a∈owns ρ1
  ·
   exact E1.off a hm
  ·
   rw[if_neg hm]at z
   cases q:Pr a with
   |none=>rfl
   |some o=>rw[E1.sub a o q]at z;cases z
def aNil:W (List L):=fun ρ post=>post [] ρ
def aVal(t:W L)(r:W (List L)):W (List L):=fun ρ post=>t ρ fun x ρ1=>r ρ1 fun xs ρ2=>post (x::xs) ρ2
def aVar(i:Nat)(r:W (List L)):W (List L):=fun ρ post=>match ρ[i]? with
 |some (.own _ _)=>r ρ fun xs ρ2=>post (.un::xs) ρ2
 |_=>False
theorem pal_nil:PAL X [] [] aNil:=fun _ pins s σ H Pr ρ post I E h=>Calls.spliced_nil ⟨[],H,[],ρ,I,.nil,rfl,rfl,E,fun k i e=>by simp at e,h⟩
theorem pal_val{bs:List (Option Nat)}{r:W (List L)}{t:W L}(ha:PL X e t)(hr:PAL X es bs r)(hs:starEach (e::es) X.env=(false,eval e X.env)::starEach es X.env:=by rfl):PAL X (e::es) (none::bs) (aVal t r):=by
 intro pos pins s σ H Pr ρ post I E h
 rw[hs]
 show wpAny _ _ (spliced ((false,eval e X.env)::backTo pos (starEach es X.env))) _ _ s
 refine Calls.spliced_cons (thn (ha pins s σ H Pr ρ _ I E h) fun u s1 ⟨x,H1,l,ρ1,I1,r1,E1,q1⟩=>?_)
 refine thn (hr pos pins s1 σ H1 _ ρ1 _ I1 E1.tail.wide q1) fun us s2 ⟨vs,H2,ls,ρ2,I2,r2,hl,hb,E2,hv,q2⟩=>?_
 have E3:REnv X.K Pr H2 (vs.map some++(some x::σ)) (ls++(l::ρ2)):=REnv.step (τ:=[some x]) (lam:=[l]) E1 rfl E2 (by simp[hl])
 have E4:REnv X.K Pr H2 (some x::(vs.map some++σ)) (l::(ls++ρ2)):=by
  have pm:(owns (ls++(l::ρ2))).Perm (owns (l::(ls++ρ2))):=owns_perm List.perm_middle
  have s1:=Paired.unapp (by simp[hl]) E3.sl
  obtain⟨s1,s2⟩:=s1
  cases s2 with
  |cons q t=>exact⟨E3.sub,pm.nodup_iff.mp E3.nd,fun a h=>E3.off a (pm.mem_iff.mpr h),.cons q (Paired.app s1 t)⟩
 refine⟨x::vs,H2,l::ls,ρ2,I2,.cons r1 r2,by simp[hl],by simp[hb],E4,fun k i e=>?_,q2⟩
 cases k with
 |zero=>simp at e
 |succ k=>simpa using hv k i (by simpa using e)
theorem pal_var(i:Nat){x:Str}{p:Pos}{bs:List (Option Nat)}{r:W (List L)}(hr:PAL X es bs r)(hN:X.N[i]?=some x:=by rfl)(hv:Vis X.env.scope x:=by first | exact Or.inl rfl | exact Or.inr (Or.inl rfl) | exact Or.inr (Or.inr rfl)) (hd:(x == ("__debug__" : Str))=false:=by decide)
  (hcd:(x == ("__classdict__" : Str))=false:=by decide) (hs:starEach (.Name x p::es) X.env=(false,eval (.Name x p) X.env)::starEach es X.env:=by rfl):PAL X (.Name x p::es) (some i::bs) (aVar i r):=by
 intro pos pins s σ H Pr ρ post I E h
 unfold aVar at h
 cases q:ρ[i]? with
 |none=>rw[q]at h;exact h.elim
 | some l =>
  rw[q]at h
  cases l with
  |un=>exact h.elim
  |d y=>exact h.elim
  |bx _ _=>exact h.elim
  |dic _ _=>exact h.elim
  | own a xs =>
   obtain⟨sv,hsl,sl⟩:=E.slot q
   obtain⟨rfl,_⟩:=sl
   rw[hs]
   show wpAny _ _ (spliced ((false,eval (.Name x p) X.env)::backTo pos (starEach es X.env))) _ _ s
   refine Calls.spliced_cons (thn (pe_var hN hv hd hcd pins s σ H (fun w H'=>w=.ref a∧H'=H) I ⟨.ref a,hsl,rfl,rfl⟩) fun u s1 ⟨w,H1,I1,r1,e1,e2⟩=>?_)
   subst e1 e2
   refine thn (hr pos pins s1 σ H1 Pr ρ _ I1 E h) fun us s2 ⟨vs,H2,ls,ρ2,I2,r2,hl,hb,E2,hv,q2⟩=>?_
   refine⟨.ref a::vs,H2,.un::ls,ρ2,I2,.cons r1 r2,by simp[hl],by simp[hb],E2.cons_un,fun k j e=>?_,q2⟩
   cases k with
   |zero=>simp at e;subst e;exact⟨rfl,.ref a,rfl,hsl⟩
   |succ k=>simpa using hv k j (by simpa using e)
def toDs:List L→(List D→Prop)→Prop
 |[],k=>k []
 |.d x::r,k=>toDs r fun xs=>k (x::xs)
 |_::_,_=>False
theorem toDs_is:∀{ls:List L}{k:List D→Prop},toDs ls k→∃xs,ls=xs.map .d∧k xs
 |[],_,h=>⟨[],rfl,h⟩
 | .d x::r,k,h=>by
  obtain⟨xs,e,q⟩:=toDs_is (ls:=r) h
  exact⟨x::xs,by rw[e];rfl,q⟩
 |.un::_,_,h=>h.elim
 |.own _ _::_,_,h=>h.elim
theorem reps_of{K:PySem.W.Frag}{Pr H:Hp}{σ:St}{ρ:Ev}:∀{vs:List V}{xs:List D},vs.length=xs.length→REnv K Pr H (vs.map some++σ) (xs.map .d++ρ)→Reps K H vs xs
 |[],[],_,_=>.nil
 | v::vs,x::xs,hl,E=>by
  obtain⟨w,e,r⟩:=REnv.head_d (v:=some v) (x:=x) E
  cases e
  exact .cons r (reps_of (by simpa using hl) (REnv.tail (v:=some v) (l:=.d x) E))
 |[],_::_,hl,_=>by simp at hl
 |_::_,[],hl,_=>by simp at hl
def wTup(t:W (List L)):W L:=fun ρ post=>t ρ fun ls ρ1=>toDs ls fun xs=>xs.length≤sizeLine∧post (.d (.tup xs)) ρ1
def wLst(t:W (List L)):W L:=fun ρ post=>t ρ fun ls ρ1=>toDs ls fun xs=>xs.length≤sizeLine∧∀a,post (.own a xs) ρ1
theorem pl_tup {x1} {bs:List (Option Nat)} {t:W (List L)} (h:PAL X es bs t):PL X (.Tuple es x1 pos) (wTup t):=by
 intro pins s σ H Pr ρ post I E hq
 refine wpAny_Tuple_spliced (thn (h pos pins s σ H Pr ρ _ I E hq) fun us s1 ⟨vs,H1,ls,ρ1,I1,r,hl,hb,E1,hv,q⟩=>?_)
 obtain⟨xs,rfl,z,q⟩:=toDs_is q
 have hlen:vs.length=xs.length:=by simpa using hl
 refine⟨by rw[← r.length,hlen];exact z,?_⟩
 have hf:H1 s1.heap.objs.size=none:=I1.hok.fresh (Nat.le_refl _)
 refine⟨.ref s1.heap.objs.size,upd H1 s1.heap.objs.size (.tup vs),_,ρ1,I1.laid (t':=s1.toks) (fun b u e=>Heap.get?_push_of_some _ e) (Nat.le_refl _) ?_,rfl,(E1.drop (by simp[hlen])).cons_tup hf (reps_of hlen E1),q⟩
 exact⟨by rw[hlen];exact z,us,r,⟨_,Heap.get?_push_size _ rfl,rfl,_,rfl⟩⟩
theorem pl_lst{bs:List (Option Nat)}{t:W (List L)}(h:PAL X es bs t):PL X (.List es pos) (wLst t):=by
 intro pins s σ H Pr ρ post I E hq
 refine wpAny_List_spliced (thn (h pos pins s σ H Pr ρ _ I E hq) fun us s1 ⟨vs,H1,ls,ρ1,I1,r,hl,hb,E1,hv,q⟩=>?_)
 obtain⟨xs,rfl,z,q⟩:=toDs_is q
 have hlen:vs.length=xs.length:=by simpa using hl
 refine⟨by rw[← r.length,hlen];exact z,?_⟩
 have hf:H1 s1.heap.objs.size=none:=I1.hok.fresh (Nat.le_refl _)
 refine⟨.ref s1.heap.objs.size,upd H1 s1.heap.objs.size (.lst vs),_,ρ1,I1.laid (t':=s1.toks) (fun b u e=>Heap.get?_push_of_some _ e) (Nat.le_refl _) ?_,rfl,(E1.drop (by simp[hlen])).cons_own hf (reps_of hlen E1),q _⟩
 exact⟨by rw[hlen];exact z,us,0,r,Heap.get?_push_size _ rfl⟩
abbrev FS:=List L→(L→List L→Prop)→Prop
def spF(K:PySem.W.Frag)(n:Nat)(fs:FS):Sp:=fun vs H Q _=>vs.length=n∧∃Pr ls post,REnv K Pr H (vs.map some) ls∧fs ls post∧∀v H' r ls',REnv K Pr H' (some v::vs.map some) (r::ls')→post r ls'→Q v H'
theorem REnv.swap{K:PySem.W.Frag}{Pr H:Hp}{σ τ:St}{ρ lam:Ev}(hl:τ.length=lam.length)(E:REnv K Pr H (τ++σ) (lam++ρ)):REnv K Pr H (σ++τ) (ρ++lam):=by
 have pm:(owns (lam++ρ)).Perm (owns (ρ++lam)):=owns_perm List.perm_append_comm
 obtain⟨s1,s2⟩:=Paired.unapp hl E.sl
 exact⟨E.sub,pm.nodup_iff.mp E.nd,fun a h=>E.off a (pm.mem_iff.mpr h),Paired.app s2 s1⟩
theorem callee{K:PySem.W.Frag}{Pr H H':Hp}{σ τ:St}{ρ ls ls':Ev}{v:Option V}{r:L}(hl:τ.length=ls.length)(E:REnv K Pr H (τ++σ) (ls++ρ))(E':REnv K (butOwn H ls) H' (v::τ) (r::ls')):REnv K Pr H' (v::(τ++σ)) (r::(ls'++ρ)):=by
 have hρ:σ.length=ρ.length:=(E.drop hl).len
 have z:=REnv.step (τ:=σ) (σ:=τ) (lam:=ρ) (ρ:=ls) (w:=[v]) (μ:=[r]) (E.swap hl) hρ E' rfl
 have hl':τ.length=ls'.length:=by have:=E'.len;simpa using this
 obtain⟨s1,s2⟩:=Paired.unapp (a:=[v]) (b:=[r]) rfl z.sl
 obtain⟨s2,s3⟩:=Paired.unapp hρ s2
 have pm:(owns ([r]++(ρ++ls'))).Perm (owns (r::(ls'++ρ))):=owns_perm (List.Perm.cons r (List.perm_append_comm (l₁:=ρ) (l₂:=ls')))
 exact⟨z.sub,pm.nodup_iff.mp z.nd,fun a h=>z.off a (pm.mem_iff.mpr h),Paired.app s1 (Paired.app s3 s2)⟩
def wCall(fs:FS)(t:W (List L)):W L:=fun ρ post=>t ρ fun ls ρ1=>fs ls fun r _=>post r ρ1
def wCallB(fs:FS)(k i:Nat)(t:W (List L)):W L:=fun ρ post=>t ρ fun ls ρ1=>match ρ1[i]? with
 |some (.own a xs)=>fs (ls.set k (.own a xs)) fun r ls'=>∃ys,ls'[k]?=some (.own a ys)∧post r (ρ1.set i (.own a ys))
 |_=>False
section
variable{CX:CXT}{k n:Nat}{f:Addr}{fd:FuncData}{ps:List Str}{fs:FS}{E:XK}{x:Str}{p:Pos}{bs:List (Option Nat)}{t:W (List L)}
theorem REnv.drop1{K:PySem.W.Frag}{Pr H:Hp}{σ τ:St}{ρ lam:Ev}{v:Option V}{r:L}(hl:τ.length=lam.length)(E:REnv K Pr H (v::(τ++σ)) (r::(lam++ρ))):REnv K Pr H (v::σ) (r::ρ):=by
 obtain⟨s1,s2⟩:=Paired.unapp (a:=[v]) (b:=[r]) rfl E.sl
 obtain⟨s2,s3⟩:=Paired.unapp hl s2
 have sb:(owns (r::ρ)).Sublist (owns (r::(lam++ρ))):=owns_sub (List.Sublist.cons_cons r (List.sublist_append_right _ _))
 exact⟨E.sub,E.nd.sublist sb,fun a h=>E.off a (sb.subset h),Paired.app s1 s3⟩
theorem pl_call(F:FnOk X.prog X.w X.K X.mg X.base CX k f fd ps (spF X.K n fs))(hr:Room k X.A)(hg:Gl X x)(hm:X.mg x=some (.ref f))(hk:PySem.W.keepIn X.K (.ref f)=true)(hb:Binds X.K fd ps [])(hx:Passes CX X E)
  (ha:PAL X (e::es) bs t) (hn:bs.length=n) (hdb:(x == ("__debug__" : Str))=false:=by decide) (he:starEach (e::es) X.env=(false,eval e X.env)::starEach es X.env:=by rfl) (hpl:(backTo pos (starEach es X.env)).any (·.1)=false:=by rfl) :
  PL X (.Call (.Name x p) (e::es) [] pos) (wCall fs t):=by
 intro pins s σ H Pr ρ post I E0 h
 refine wpAny_Call_Name_kw (ld_glob I hg hm ?_ hdb)
 refine PySem.W.callWith_K (h₀:=X.base) I.ok.mod.kin hk (thn (ha pos pins s σ H Pr ρ _ I E0 h) fun us s1 ⟨vs,H1,ls,ρ1,I1,r,hl,hbl,E1,hv,q⟩=>⟨I1.kIn,?_⟩) he hpl
 have hl':(vs.map some).length=ls.length:=by simp[hl]
 refine thn (run_fn (Q:=fun v H'=>∃r ρ',REnv X.K Pr H' (some v::σ) (r::ρ')∧post r ρ') F hr hb .nil hx I1 r ?_) fun u s2 ⟨v,H2,I2,rv,r,ρ',E2,p⟩=>⟨v,H2,r,ρ',I2,rv,E2,p⟩
 rw[List.append_nil]
 refine⟨hbl.trans hn,butOwn H1 ls,ls,_,(E1.left hl').wide,q,fun v H' r ls' E2 p=>⟨r,ρ1,?_,p⟩⟩
 have z:=callee hl' E1 E2
 have hl2:(vs.map some).length=ls'.length:=by have:=E2.len;simpa using this
 exact z.drop1 hl2
theorem pl_callB(F:FnOk X.prog X.w X.K X.mg X.base CX k f fd ps (spF X.K n fs))(hr:Room k X.A)(hg:Gl X x)(hm:X.mg x=some (.ref f))(hk:PySem.W.keepIn X.K (.ref f)=true)(hb:Binds X.K fd ps [])(hx:Passes CX X E)
  (j i:Nat) (ha:PAL X (e::es) bs t) (hj:bs[j]?=some (some i)) (hn:bs.length=n) (hdb:(x == ("__debug__" : Str))=false:=by decide) (he:starEach (e::es) X.env=(false,eval e X.env)::starEach es X.env:=by rfl) (hpl:(backTo pos (starEach es X.env)).any (·.1)=false:=by rfl) :
  PL X (.Call (.Name x p) (e::es) [] pos) (wCallB fs j i t):=by
 intro pins s σ H Pr ρ post I E0 h
 refine wpAny_Call_Name_kw (ld_glob I hg hm ?_ hdb)
 refine PySem.W.callWith_K (h₀:=X.base) I.ok.mod.kin hk (thn (ha pos pins s σ H Pr ρ _ I E0 h) fun us s1 ⟨vs,H1,ls,ρ1,I1,r,hl,hbl,E1,hv,q⟩=>⟨I1.kIn,?_⟩) he hpl
 have hl':(vs.map some).length=ls.length:=by simp[hl]
 refine thn (run_fn (Q:=fun v H'=>∃r ρ',REnv X.K Pr H' (some v::σ) (r::ρ')∧post r ρ') F hr hb .nil hx I1 r ?_) fun u s2 ⟨v,H2,I2,rv,r,ρ',E2,p⟩=>⟨v,H2,r,ρ',I2,rv,E2,p⟩
 rw[List.append_nil]
 dsimp only at q
 cases qi:ρ1[i]? with
 |none=>rw[qi]at q;exact q.elim
 | some l =>
  rw[qi]at q
  cases l with
  |un=>exact q.elim
  |d y=>exact q.elim
  |bx _ _=>exact q.elim
  |dic _ _=>exact q.elim
  | own a xs =>
   obtain⟨hun,w,hw,hσ⟩:=hv j i hj
   obtain⟨sv,hs2,rfl,_⟩:=(E1.drop hl').slot qi
   rw[hσ]at hs2
   cases hs2
   have hjl:j<ls.length:=(List.getElem?_eq_some_iff.mp hun).1
   have hjv:j<vs.length:=by omega
   have hil:i<ρ1.length:=(List.getElem?_eq_some_iff.mp qi).1
   have E2:=E1.out (i:=ls.length+i) (a:=a) (xs:=xs) (by rw[List.getElem?_append_right (by omega)];simpa using qi)
   rw[List.set_append_right _ _ (by omega),Nat.add_sub_cancel_left]at E2
   have E3:=E2.back (i:=j) (by rw[List.getElem?_append_left hjl];exact hun) (by rw[List.getElem?_append_left (by simp;omega)];simp[hw])
   rw[List.set_append_left _ _ hjl]at E3
   have hl3:(vs.map some).length=(ls.set j (.own a xs)).length:=by simp[hl]
   refine⟨hbl.trans hn,butOwn H1 (ls.set j (.own a xs)),_,_,(E3.left hl3).wide,q,fun v H' r ls' E4 p=>?_⟩
   obtain⟨ys,hys,p⟩:=p
   refine⟨r,ρ1.set i (.own a ys),?_,p⟩
   have z:=callee hl3 E3 E4
   have hl4:(vs.map some).length=ls'.length:=by have:=E4.len;simpa using this
   have hjl':j<ls'.length:=by simp at hl4;omega
   have z1:=z.out (i:=1+j) (a:=a) (xs:=ys) (by rw[Nat.add_comm];simp only[List.getElem?_cons_succ];rw[List.getElem?_append_left hjl'];exact hys)
   rw[Nat.add_comm 1 j,List.set_cons_succ,List.set_append_left _ _ hjl']at z1
   have z2:=z1.back (i:=(1+ls'.length)+i) (by
    rw[Nat.add_comm 1,Nat.add_right_comm,List.getElem?_cons_succ,List.getElem?_append_right (by simp)]
    simp[hil]) (by
    rw[Nat.add_comm 1,Nat.add_right_comm,List.getElem?_cons_succ,List.getElem?_append_right (by simp at hl4 ⊢;omega)]
    simp at hl4 ⊢
    rw[← hl4,Nat.add_sub_cancel_left]
    exact hσ)
   rw[Nat.add_comm 1,Nat.add_right_comm,List.set_cons_succ,List.set_append_right _ _ (by simp)]at z2
   simp only[List.length_set,Nat.add_sub_cancel_left,List.set_set]at z2
   exact z2.drop1 (by simp at hl4 ⊢;exact hl4)
end
end
def Back(ρ:Ev):List L→List L→Prop:=Paired fun l l'=>match l with
 |.own a _=>(∃ys,l'=.own a ys∧L.own a ys∈ρ)∨l'=.un
 |.bx _ _=>l'=.un
 |.dic _ _=>l'=.un
 |l=>l'=l
def okEnd(ls:List L)(post:L→List L→Prop):Fl→Ev→Prop:=fun f ρ=>match f with
 |.rt r=>∃ls',Back ρ ls ls'∧post r ls'
 |.nx=>∃ls',Back ρ ls ls'∧post (.d .non) ls'
 |_=>False
theorem Back.owns{ρ:Ev}:∀{ls ls':List L},Back ρ ls ls'→(owns ls').Sublist (owns ls)
 |_,_,.nil=>.refl _
 | l::ls,l'::ls',.cons h t=>by
  have ih:=Back.owns t
  rw[owns_cons,owns_cons]
  cases l with
  | own a xs =>
   rcases h with⟨ys,rfl,_⟩|rfl
   ·
    exact(List.Sublist.refl _).append ih
   ·
    exact ih.trans (List.sublist_append_right _ _)
  |un=>have e:l'=.un:=h;subst e;exact(List.Sublist.refl _).append ih
  |d x=>have e:l'=.d x:=h;subst e;exact(List.Sublist.refl _).append ih
  |bx k ms=>have e:l'=.un:=h;subst e;exact ih.trans (List.sublist_append_right _ _)
  |dic k ms=>have e:l'=.un:=h;subst e;exact ih.trans (List.sublist_append_right _ _)
theorem Back.sub{ρ:Ev}:∀{ls ls':List L},Back ρ ls ls'→∀a∈L2.owns ls',a∈L2.owns ρ
 |_,_,.nil=>fun a ha=>by simp[L2.owns]at ha
 | l::ls,l'::ls',.cons h t=>fun a ha=>by
  have ih:=Back.sub t
  rw[owns_cons]at ha
  rcases List.mem_append.mp ha with z|z
  ·
   cases l with
   | own b xs =>
    rcases h with⟨ys,rfl,hm⟩|rfl
    ·
     have e:a=b:=by simpa[ownsL]using z
     subst e
     exact own_mem hm
    ·
     simp[ownsL]at z
   |un=>have e:l'=.un:=h;subst e;simp[ownsL]at z
   |d x=>have e:l'=.d x:=h;subst e;simp[ownsL]at z
   |bx k ms=>have e:l'=.un:=h;subst e;simp[ownsL]at z
   |dic k ms=>have e:l'=.un:=h;subst e;simp[ownsL]at z
  ·
   exact ih a z
theorem back_env{K:PySem.W.Frag}{Pr H H':Hp}{σ τ:St}{ls ls' ρ:Ev}{v:Option V}{r:L}(E:REnv K Pr H σ ls)(E':REnv K (butOwn H ls) H' (v::τ) (r::ρ))(B:Back ρ ls ls'):REnv K Pr H' (v::σ) (r::ls'):=by
 have E1:=E.narrow E'
 have p:Pres H H':=pres_of E E'.sub
 have sub:=B.sub
 have nd1:(owns ls').Nodup:=E.nd.sublist B.owns
 refine⟨E1.sub,?_,fun a ha=>?_,?_⟩
 ·
  have nd:=E'.nd
  rw[owns_cons]at nd ⊢
  obtain⟨n1,n2,n3⟩:=List.nodup_append.mp nd
  exact List.nodup_append.mpr ⟨n1,nd1,fun a ha b hb=>n3 a ha b (sub b hb)⟩
 ·
  rw[owns_cons]at ha
  refine E1.off a ?_
  rw[owns_cons]
  rcases List.mem_append.mp ha with z|z
  ·
   exact List.mem_append_left _ z
  ·
   exact List.mem_append_right _ (sub a z)
 ·
  have s1:=E'.sl
  cases s1 with
  | cons q t =>
   refine .cons q ?_
   have sl:=E.sl
   clear E E' E1 nd1 sub
   induction B generalizing σ with
   |nil=>cases sl;exact .nil
   | cons h u ih =>
    rename_i l l' _ _
    cases sl with
    | cons s0 s2 =>
     refine .cons ?_ (ih s2)
     cases l with
     | own a xs =>
      rcases h with⟨ys,rfl,hm⟩|rfl
      ·
       obtain⟨e,_⟩:=s0
       obtain⟨_,_,_,z⟩:=Paired.mem2 t hm
       exact⟨e,z⟩
      ·
       unfold Slot1;exact True.intro
     |un=>have e:l'=.un:=h;subst e;unfold Slot1;exact True.intro
     |bx k ms=>have e:l'=.un:=h;subst e;unfold Slot1;exact True.intro
     |dic k ms=>have e:l'=.un:=h;subst e;unfold Slot1;exact True.intro
     | d x =>
      have e:l'=.d x:=h
      subst e
      obtain⟨w,e,r⟩:=s0
      exact⟨w,e,r.pres p⟩
section
variable{P:Program}{w:World}{K:PySem.W.Frag}{mg:Str→Option Value}{base:Heap}
theorem REnv.uns{K:PySem.W.Frag}{Pr H:Hp}{σ:St}{ρ:Ev}(E:REnv K Pr H σ ρ):∀n,REnv K Pr H (σ++List.replicate n none) (ρ++List.replicate n .un):=fun n=>by
 have e:owns (ρ++List.replicate n .un)=owns ρ:=by
  rw[owns_append]
  have:owns (List.replicate n L.un)=[]:=by
   induction n with
   |zero=>rfl
   |succ n ih=>rw[List.replicate_succ,owns_cons_un];exact ih
  rw[this,List.append_nil]
 refine⟨E.sub,by rw[e];exact E.nd,fun a h=>E.off a (by rw[e]at h;exact h),Paired.app E.sl ?_⟩
 induction n with
 |zero=>exact .nil
 | succ n ih =>
  rw[List.replicate_succ,List.replicate_succ]
  refine .cons True.intro (ih ?_)
  have:owns (List.replicate n L.un)=[]:=by
   clear ih e
   induction n with
   |zero=>rfl
   |succ n ih=>rw[List.replicate_succ,owns_cons_un];exact ih
  rw[owns_append,this,List.append_nil]
theorem fn_ok{x qual:Str}{st:Stmt}{f:Addr}{fd:FuncData}{N ps:List Str}{k:Nat}{fs:FS}(F:Fun K x qual st f fd)(S:FnScope N ps (defScope st))(t:W Fl)
  (hbody:∀(cdv:Value)(A:Around)(outer:List Env)(s:Shared)(H:Hp)(E:XK),Room k (A.deeper (envOfC qual (defScope st) s.heap.objs.size f cdv))→PMs (cxOf CX0 P w K mg base N qual (defScope st) f cdv A outer s H E).nox (defBody st) t)
  (h:∀ls post,ls.length=ps.length→fs ls post→t (ls++List.replicate (N.length-ps.length) .un) (okEnd ls post)):FnOk P w K mg base CX0 (k+1) f fd ps (spF K ps.length fs):=by
 refine F.ok S (fun vs H Q E q=>q.1) (fun cdv A outer s H vs Q E hr q=>?_)
 obtain⟨hl,Pr,ls,post,E0,hf,q⟩:=q
 refine⟨_,(hbody cdv A outer s H E hr).pss,butOwn H ls,ls++List.replicate (N.length-ps.length) .un,okEnd ls post,?_,h ls post (by rw[← hl];have:=E0.len;simpa using this.symm) hf,fun σ' H' ρ' E' p=>?_,fun _ _ _ _ p=>p.elim,fun _ _ _ _ p=>p.elim,fun v τ H' r ρ' E' p=>?_⟩
 ·
  unfold start
  rw[hl]
  exact E0.wide.uns _
 ·
  obtain⟨ls',B,p⟩:=p
  exact q .non H' (.d .non) ls' (back_env E0 (E'.cons_d .non) B) p
 ·
  obtain⟨ls',B,p⟩:=p
  exact q v H' r ls' (back_env E0 E' B) p
end
theorem back0{ρ:Ev}:Back ρ [] []:=.nil
theorem back_d{ρ:Ev}{x:D}{a b:List L}(t:Back ρ a b):Back ρ (.d x::a) (.d x::b):=.cons rfl t
theorem back_own{ρ:Ev}{p:Addr}{xs ys:List D}{a b:List L}(h:L.own p ys∈ρ)(t:Back ρ a b):Back ρ (.own p xs::a) (.own p ys::b):=.cons (.inl ⟨ys,rfl,h⟩) t
section
variable{X:Cx}{e a b c tg:Expr}{es:List Expr}{pos:Pos}{tA:W Bool}{t u:W Fl}
def wWhile(c:W Bool)(b:W Fl):W Fl:=fun ρ post=>∃J:Nat→Ev→Prop,(∃n,J n ρ)∧∀n ρ,J n ρ→c ρ fun t ρ1=>if t=true then b ρ1 fun f ρ2=>(match f with
 |.nx=>∃m,m<n∧J m ρ2
 |.ct=>∃m,m<n∧J m ρ2
 |.bk=>post .nx ρ2
 |.rt r=>post (.rt r) ρ2)else post .nx ρ1
theorem pm_while{body:List Stmt}(hp:PassesOwn (model X.prog X.w) X.A X.env X.xe)(hc:PB X c tA)(hb:PMs X body t):PM X (.While c body [] pos) (wWhile tA t):=by
 refine PM.of (ps_while hp hc.pt hb.pss) fun σ H Pr ρ post hlen E h=>?_
 obtain⟨J,⟨n0,j0⟩,turn⟩:=h
 refine⟨fun n σ H=>∃ρ,REnv X.K Pr H σ ρ∧J n ρ,⟨n0,ρ,E,j0⟩,fun n σ1 H1 ⟨ρ1,E1,j1⟩=>⟨Pr,ρ1,_,E1,turn n ρ1 j1,fun b H2 ρ2 E2 q=>?_⟩⟩
 cases b with
 |false=>exact⟨ρ2,E2,q⟩
 | true =>
  refine⟨fun σ' H'=>∃ρ' m,REnv X.K Pr H' σ' ρ'∧m<n∧J m ρ',fun σ' H' ⟨ρ',m,E',hm,j⟩=>⟨m,hm,ρ',E',j⟩,Pr,ρ2,_,E2,q,fun σ' H' ρ' E' ⟨m,hm,j⟩=>⟨ρ',m,E',hm,j⟩,fun σ' H' ρ' E' p=>⟨ρ',E',p⟩,fun σ' H' ρ' E' ⟨m,hm,j⟩=>⟨ρ',m,E',hm,j⟩,fun v τ H' r ρ' E' p=>⟨τ,r,ρ',E',p⟩⟩
abbrev Tg:=D→Ev→(Ev→Prop)→Prop
def PT1(X:Cx)(tg:Expr)(g:Tg):Prop:=∃gg:TG,PG X tg gg∧∀v σ H Pr ρ x k,σ.length=X.N.length→REnv X.K Pr H σ ρ→Rep X.K H v x→g x ρ k→gg v σ H fun σ' H'=>H'=H∧σ'.length=X.N.length∧∃ρ',REnv X.K Pr H σ' ρ'∧k ρ'
def tgName(i:Nat):Tg:=fun x ρ k=>k (ρ.set i (.d x))
theorem tg_name{i:Nat}{x:Str}(hN:X.N.Nodup)(hi:X.N[i]?=some x)(hx:Loc X.env.scope x)(hf:X.fn x=true∨X.env.scope.names.lookup x=some .local:=by first|exact .inl rfl|exact .inr rfl|assumption):PT1 X (.Name x pos) (tgName i) :=
 ⟨_,pg_name hN hi hx hf,fun v σ H Pr ρ x k hl E r h=>⟨rfl,by simpa using hl,_,(E.cons_d r).store (by rw[hl];exact(List.getElem?_eq_some_iff.mp hi).1),h⟩⟩
def tgNames:List Nat→List D→Ev→(Ev→Prop)→Prop
 |[],[],ρ,k=>k ρ
 |i::is,x::xs,ρ,k=>tgNames is xs (ρ.set i (.d x)) k
 |_,_,_,_=>False
def PTs(X:Cx)(es:List Expr)(is:List Nat):Prop:=∃gg:TGs,PGs X es gg∧es.length=is.length∧∀vs σ H Pr ρ xs k,σ.length=X.N.length→REnv X.K Pr H σ ρ→Reps X.K H vs xs→tgNames is xs ρ k→gg vs σ H fun σ' H'=>H'=H∧σ'.length=X.N.length∧∃ρ',REnv X.K Pr H σ' ρ'∧k ρ'
theorem tgs_nil:PTs X [] []:=⟨_,pgs_nil,rfl,fun vs σ H Pr ρ xs k hl E r h=>by
 cases r with
 |nil=>exact⟨rfl,rfl,hl,ρ,E,h⟩
 |cons _ _=>exact h.elim⟩
theorem tgs_cons{i:Nat}{is:List Nat}{x:Str}(hN:X.N.Nodup)(hi:X.N[i]?=some x)(hx:Loc X.env.scope x)(hr:PTs X es is)(hf:X.fn x=true∨X.env.scope.names.lookup x=some .local:=by first|exact .inl rfl|exact .inr rfl|assumption)
  (hs:(assignEach (.Name x pos::es) X.env).map (·.2)=assign (.Name x pos) X.env::(assignEach es X.env).map (·.2):=by rfl):PTs X (.Name x pos::es) (i::is):=by
 obtain⟨gg,hg,hlen,q⟩:=hr
 refine⟨_,pgs_cons (pg_name hN hi hx hf) hg hs,by simp[hlen],fun vs σ H Pr ρ xs k hl E r h=>?_⟩
 cases r with
 |nil=>exact h.elim
 | cons r0 t =>
  refine⟨_,_,rfl,?_⟩
  exact q _ _ H Pr _ _ k (by simpa using hl) ((E.cons_d r0).store (by rw[hl];exact(List.getElem?_eq_some_iff.mp hi).1)) t h
def tgTup(is:List Nat):Tg:=fun x ρ k=>match x with
 |.tup xs=>tgNames is xs ρ k
 |_=>False
theorem tgNames_len:∀{is:List Nat}{xs:List D}{ρ:Ev}{k:Ev→Prop},tgNames is xs ρ k→xs.length=is.length
 |[],[],_,_,_=>rfl
 |_::is,_::xs,_,_,h=>by simp[tgNames_len (is:=is) (xs:=xs) h]
 |[],_::_,_,_,h=>h.elim
 |_::_,[],_,_,h=>h.elim
theorem tg_tup{is:List Nat}{k:Nat}(hc:X.calm=true)(h:PTs X es is)(hn:(assignEach es X.env).length=is.length:=by rfl)(hst:(assignEach es X.env).findIdx? (·.1)=none:=by rfl):PT1 X (.Tuple es k pos) (tgTup is):=by
 obtain⟨gg,hg,hlen,q⟩:=h
 refine⟨_,pg_tup hc hg hn hst,fun v σ H Pr ρ x k hl E r h=>?_⟩
 cases r with
 |tup hs rs=>exact⟨_,_,rfl,hs,by rw[rs.length];exact tgNames_len h,q _ σ H Pr ρ _ k hl E rs h⟩
 |_=>exact h.elim
def wForL(g:Tg)(b:W Fl):List D→W Fl
 |[]=>fun ρ post=>post .nx ρ
 | x::xs=>fun ρ post=>g x ρ fun ρ1=>b ρ1 fun f ρ2=>match f with
  |.nx=>wForL g b xs ρ2 post
  |.ct=>wForL g b xs ρ2 post
  |.bk=>post .nx ρ2
  |.rt r=>post (.rt r) ρ2
def itemsOf:D→(List D→Prop)→Prop
 |.lst xs,k=>k xs
 |.tup xs,k=>k xs
 |_,_=>False
def Grown(H H':Hp):Prop:=H'=H∨∃p o,H p=none∧H'=upd H p o
theorem REnv.grown{K:PySem.W.Frag}{Pr H H':Hp}{σ:St}{ρ:Ev}(E:REnv K Pr H σ ρ)(g:Grown H H'):REnv K Pr H' σ ρ:=by
 rcases g with rfl|⟨p,o,h,rfl⟩
 ·
  exact E
 ·
  exact E.new h
def Gives(K:PySem.W.Frag)(H:Hp)(J:It)(xs:List D):Prop:=∀H',Pres H H' →
 (∀i x,xs[i]?=some x→J.go i H'∧∀v H2,J.yld i H' v H2→Grown H' H2∧Rep K H2 v x)∧J.stop xs.length H'
def EI(X:Cx)(pins:List (Addr×Obj))(σ:St)(tg:Expr)(Pr:Hp)(post:List D→Ev→Prop)(itv:Value)(s2:Shared):Prop :=
 ∃(it:Addr)(fp:List Addr)(tn:Nat→Heap→Prop)(J:It)(H':Hp)(xs:List D)(ρ':Ev),itv=.ref it∧Inv X pins σ H' s2∧Turn X.prog X.w X.K tg J fp it tn∧tn 0 s2.heap∧(∀b∈fp,FpOk X pins H' b)∧REnv X.K Pr H' σ ρ'∧Gives X.K H' J xs∧post xs ρ'
def PIL(X:Cx)(tg iter:Expr)(w:W (List D)):Prop :=
 ∀(pins:List (Addr×Obj))(s:Shared)(σ:St)(H Pr:Hp)(ρ:Ev)(post:List D→Ev→Prop),Inv X pins σ H s→REnv X.K Pr H σ ρ→w ρ post →
  wpAny (model X.prog X.w) X.A (eval iter X.env) (fun v s1=>wpAny (model X.prog X.w) X.A (pyIter v) (EI X pins σ tg Pr post) X.xe s1) X.xe s
def wSrc(t:W L):W (List D):=fun ρ post=>t ρ fun r ρ1=>toD r fun x=>itemsOf x fun xs=>post xs ρ1
theorem gives_list{K:PySem.W.Frag}{H:Hp}{a:Addr}{vs:List V}{xs:List D}(h:SqZ K H a vs)(r:Reps K H vs xs):Gives K H (Itl K a) xs:=fun H' p=>by
 have h':=(h.pres p).l
 refine⟨fun i x e=>?_,⟨vs,h',by rw[r.length];exact Nat.le_refl _⟩⟩
 obtain⟨v,ev,rv⟩:=r.get e
 refine⟨⟨vs,v,h',ev⟩,fun w H2 ⟨e1,e2⟩=>?_⟩
 have e3:=e2 vs h'
 rw[ev]at e3
 cases e3
 subst e1
 exact⟨.inl rfl,rv.pres p⟩
theorem gives_tup{K:PySem.W.Frag}{H:Hp}{a:Addr}{vs:List V}{xs:List D}(h:SqT K H a vs)(r:Reps K H vs xs):Gives K H (Itt K a) xs:=fun H' p=>by
 have h':=h.pres p
 refine⟨fun i x e=>?_,⟨vs,h',by rw[r.length];exact Nat.le_refl _⟩⟩
 obtain⟨v,ev,rv⟩:=r.get e
 refine⟨⟨vs,v,h',ev⟩,fun w H2 ⟨e1,e2⟩=>?_⟩
 have e3:=e2 vs h'
 rw[ev]at e3
 cases e3
 subst e1
 exact⟨.inl rfl,rv.pres p⟩
theorem pil_seq{t:W L}(h:PL X e t):PIL X tg e (wSrc t):=by
 intro pins s σ H Pr ρ post I E ht
 refine thn (h pins s σ H Pr ρ _ I E ht) fun u s1 q=>?_
 obtain⟨v,H1,x,ρ1,I1,r1,E1,q2⟩:=EL.frz (post:=fun x ρ1=>itemsOf x fun xs=>post xs ρ1) q
 obtain⟨_,e1,p⟩:=E1.head_d
 cases e1
 cases p with
 | lst hz rs =>
  cases r1
  obtain⟨its,rv,pl,hz'⟩:=I1.list hz.l
  refine wpAny_pyIter_list pl.isList ?_
  refine⟨s1.heap.objs.size,[s1.heap.objs.size],_,_,H1,_,ρ1,rfl,I1.kept (t':=s1.toks) fun b o e=>Heap.get?_push_of_some _ e,turn_list _ _,⟨_,Heap.get?_push_size _ rfl,rfl,rfl⟩,fun b hb=>?_,E1.tail,gives_list hz rs,q2⟩
  have e:b=s1.heap.objs.size:=by simpa using hb
  subst e
  exact I1.fpOk (Nat.le_refl _) (I1.hok.fresh (Nat.le_refl _))
 | tup hz rs =>
  cases r1
  obtain⟨its,rv,pl,hz'⟩:=I1.tuple hz
  refine wpAny_pyIter_tuple (show s1.heap.IsTuple _ its.toArray from pl) ?_
  refine⟨s1.heap.objs.size,[s1.heap.objs.size],_,_,H1,_,ρ1,rfl,I1.kept (t':=s1.toks) fun b o e=>Heap.get?_push_of_some _ e,turn_tuple _ _,⟨_,Heap.get?_push_size _ rfl,rfl,rfl⟩,fun b hb=>?_,E1.tail,gives_tup hz rs,q2⟩
  have e:b=s1.heap.objs.size:=by simpa using hb
  subst e
  exact I1.fpOk (Nat.le_refl _) (I1.hok.fresh (Nat.le_refl _))
 |_=>exact q2.elim
def rngD(lo:Int)(n:Nat):List D:=(List.range n).map fun (i:Nat)=>.int (lo+(i:Int))
theorem gives_rng{K:PySem.W.Frag}{H:Hp}(lo:Int)(n:Nat):Gives K H (Itr lo n) (rngD lo n):=fun H' p=>by
 refine⟨fun i x e=>?_,?_⟩
 ·
  have hi:i<n:=by
   have:=(List.getElem?_eq_some_iff.mp e).1
   simpa[rngD]using this
  refine⟨hi,fun v H2 ⟨e1,e2⟩=>?_⟩
  subst e1 e2
  have:x=.int (lo+(i:Int)):=by
   unfold rngD at e
   rw[List.getElem?_map,List.getElem?_range hi]at e
   simpa using e.symm
  subst this
  exact⟨.inl rfl,.int _⟩
 ·
  show n≤(rngD lo n).length
  simp[rngD]
def toInt:L→(Int→Prop)→Prop
 |.d (.int i),k=>k i
 |_,_=>False
theorem toInt_is{r:L}{k:Int→Prop}(h:toInt r k):∃i,r=.d (.int i)∧k i:=by
 cases r with
 | d x=>cases x with
  |int i=>exact⟨i,rfl,h⟩
  |_=>exact h.elim
 |_=>exact h.elim
def smallI(j:Int):Prop:=-(2^62)≤j∧j<2^62
def wRng1(t:W L):W (List D):=fun ρ post=>t ρ fun r ρ1=>toInt r fun j=>smallI j∧post (rngD 0 j.toNat) ρ1
def wRng2(t u:W L):W (List D):=fun ρ post=>t ρ fun r ρ1=>toInt r fun i=>u ρ1 fun r ρ2=>toInt r fun j=>smallI i∧smallI j∧post (rngD i (j-i).toNat) ρ2
theorem pil_rng1{t:W L}{p pos:Pos} (hg:Gl X "range") (hm:X.mg "range"=none) (ha:PL X a t) (hs:starEach [a] X.env=[(false,eval a X.env)]:=by rfl):PIL X tg (.Call (.Name "range" p) [a] [] pos) (wRng1 t):=by
 intro pins s σ H Pr ρ post I E h
 refine thn (pi_range1 (tg:=tg) hg hm (pa_cons ha.pe pa_nil hs) hs pins s σ H (fun J H1=>∃ρ1 n,J=Itr 0 n∧REnv X.K Pr H1 σ ρ1∧post (rngD 0 n) ρ1) I ?_) fun v s1 q=>thn q fun itv s2 ⟨it,fp,tn,J,H',e,I',T,t0,hf,ρ1,n,eJ,E1,q⟩=>?_
 ·
  refine⟨Pr,ρ,_,E,h,fun v H' r ρ' E' p=>?_⟩
  obtain⟨j,rfl,hj,p⟩:=toInt_is p
  obtain⟨_,e1,p1⟩:=E'.head_d
  cases e1
  cases p1
  exact⟨j,rfl,hj.1,hj.2,ρ',_,rfl,E'.tail,p⟩
 ·
  subst eJ
  exact⟨it,fp,tn,_,H',_,ρ1,e,I',T,t0,hf,E1,gives_rng 0 n,q⟩
theorem pil_rng2{t u:W L}{p pos:Pos} (hg:Gl X "range") (hm:X.mg "range"=none) (ha:PL X a t) (hb:PL X b u) (hs:starEach [a,b] X.env=[(false,eval a X.env),(false,eval b X.env)]:=by rfl) (hs2:starEach [b] X.env=[(false,eval b X.env)]:=by rfl):PIL X tg (.Call (.Name "range" p) [a,b] [] pos) (wRng2 t u):=by
 intro pins s σ H Pr ρ post I E h
 refine thn (pi_range2 (tg:=tg) hg hm (pa_cons ha.pe (pa_cons hb.pe pa_nil hs2) (hs.trans (by rw[hs2]))) hs hs2 pins s σ H (fun J H1=>∃ρ1 lo n,J=Itr lo n∧REnv X.K Pr H1 σ ρ1∧post (rngD lo n) ρ1) I ?_) fun v s1 q=>thn q fun itv s2 ⟨it,fp,tn,J,H',e,I',T,t0,hf,ρ1,lo,n,eJ,E1,q⟩=>?_
 ·
  refine⟨Pr,ρ,_,E,h,fun v H' r ρ' E' p=>?_⟩
  obtain⟨i,rfl,p⟩:=toInt_is p
  obtain⟨_,e1,p1⟩:=E'.head_d
  cases e1
  cases p1
  refine⟨Pr,ρ',_,E'.tail,p,fun v H2 r ρ2 E2 p=>?_⟩
  obtain⟨j,rfl,hi,hj,p⟩:=toInt_is p
  obtain⟨_,e1,p1⟩:=E2.head_d
  cases e1
  cases p1
  exact⟨i,j,rfl,⟨hi.1,hi.2,hj.1,hj.2⟩,ρ2,_,_,rfl,E2.tail,p⟩
 ·
  subst eJ
  exact⟨it,fp,tn,_,H',_,ρ1,e,I',T,t0,hf,E1,gives_rng lo n,q⟩
def wFor(s:W (List D))(g:Tg)(b:W Fl):W Fl:=fun ρ post=>s ρ fun xs ρ1=>wForL g b xs ρ1 post
theorem pm_for{iter:Expr}{body:List Stmt}{w:W (List D)}{g:Tg}(hp:PassesOwn (model X.prog X.w) X.A X.env X.xe)(hc:X.calm=true)(hi:PIL X tg iter w)(hg:PT1 X tg g)(hb:PMs X body t)
  (hs:∀x,foldedSetIterable iter X.env x=pure x:=by intro _;rfl):PM X (.For tg iter body [] pos) (wFor w g t):=by
 intro pins s σ H Pr ρ post I E h
 obtain⟨gg,hg,hgg⟩:=hg
 refine wpAny_For (thn (hi pins s σ H Pr ρ _ I E h) fun v s1 h1=>thn h1 fun itv s2 h2=>?_) hs
 obtain⟨it,fp,tn,J,H2,xs,ρ2,e,I2,T,st2,f2,E2,G,w0⟩:=h2
 subst e
 have stat:∀{H':Hp},(∀b∈fp,H' b=none)→∀b∈fp,FpOk X pins H' b:=fun hn b hb=>⟨hn b hb,(f2 b hb).2⟩
 refine codeAny_forLoop_any (fun n s'=>∃i σ' H' ρ',n+i=xs.length∧Inv X pins σ' H' s'∧tn i s'.heap∧(∀b∈fp,H' b=none)∧REnv X.K (butOwn H2 ρ2) H' σ' ρ'∧wForL g t (xs.drop i) ρ' post) ?_ xs.length ⟨0,σ,H2,ρ2,by omega,I2,st2,fun b hb=>(f2 b hb).1,E2.wide,by simpa using w0⟩
 rintro n s3 ⟨i,σ3,H3,ρ3,hn,I3,st3,fr3,E3,w3⟩
 obtain⟨go,stop⟩:=G H3 (pres_of E2 E3.sub)
 by_cases hlt:i<xs.length
 ·
  obtain⟨hgo,hy⟩:=go i xs[i] (List.getElem?_eq_getElem hlt)
  rw[List.drop_eq_getElem_cons hlt]at w3
  refine wpAny_passesOwn hp (thn (T.item X rfl rfl rfl hc i pins s3 σ3 H3 X.xe I3 (stat fr3) st3 hgo) fun r s4 ⟨u,hr,h4⟩=>?_)
  subst hr
  refine wpAny_passesOwn hp (thn h4 fun _ s5 ⟨x,H5,I5,r5,y5,st5,fr5⟩=>?_)
  obtain⟨gr,rx⟩:=hy x H5 y5
  have I5':=I5.pinned (stat fr5) (T.obj _ _ st5)
  have E5:=E3.grown gr
  refine wpAny_passesOwn hp (thn (hg _ s5 σ3 H5 x u _ I5' r5 (hgg x σ3 H5 _ ρ3 xs[i] _ I5.len E5 rx w3)) fun _ s6 ⟨σ6,H6,I6,e6,hl6,ρ6,E6,q6⟩=>?_)
  subst e6
  refine wpAny_passesOwn hp (thn (hb _ s6 σ6 _ _ ρ6 _ I6 E6 q6) fun f s7 q7=>?_)
  have again:∀{σ7:St}{H7:Hp}{ρ7:Ev},Inv X (pins++pinsAt fp s5.heap) σ7 H7 s7→REnv X.K (butOwn H2 ρ2) H7 σ7 ρ7→wForL g t (xs.drop (i+1)) ρ7 post →
    ∃m,m<n∧∃i σ' H' ρ',m+i=xs.length∧Inv X pins σ' H' s7∧tn i s7.heap∧(∀b∈fp,H' b=none)∧REnv X.K (butOwn H2 ρ2) H' σ' ρ'∧wForL g t (xs.drop i) ρ' post:=fun {σ7 H7 ρ7} I7 E7 n7=>by
   refine⟨n-1,by omega,i+1,σ7,H7,ρ7,by omega,I7.unpinned,T.keep _ _ _ st5 fun b hb o e=>(I7.pin (b,o) (List.mem_append_right _ (List.mem_append_right _ (mem_pinsAt hb e)))).1,fun b hb=>?_,E7,n7⟩
   obtain⟨o,e,d⟩:=T.obj _ _ st5 b hb
   exact(I7.pin (b,o) (List.mem_append_right _ (List.mem_append_right _ (mem_pinsAt hb e)))).2.1
  cases f with
  |next=>obtain⟨σ7,H7,ρ7,I7,E7,n7⟩:=q7;exact again I7 E7 n7
  |cont=>obtain⟨σ7,H7,ρ7,I7,E7,n7⟩:=q7;exact again I7 E7 n7
  |brk=>obtain⟨σ7,H7,ρ7,I7,E7,q7⟩:=q7;exact⟨σ7,H7,ρ7,I7.unpinned,E2.narrow E7,q7⟩
  |ret v=>obtain⟨x7,σ7,H7,r,ρ7,τ,I7,r7,E7,q7⟩:=q7;exact⟨x7,σ7,H7,r,ρ7,τ,I7.unpinned,r7,E2.narrow E7,q7⟩
 ·
  have e:i=xs.length:=by omega
  subst e
  refine wpAny_passesOwn hp (thn (T.done X rfl rfl rfl hc xs.length pins s3 σ3 H3 X.xe I3 (stat fr3) st3 stop) fun r s4 ⟨hr,I4⟩=>?_)
  subst hr
  rw[List.drop_length]at w3
  exact wpAny_execs_nil ⟨σ3,H3,ρ3,I4,E2.narrow E3,w3⟩
end
section
variable{X:Cx}{e a b c:Expr}{pos:Pos}{ta tb:W L}
def bitsOk(i:Int):Prop:=i.natAbs<2^1000000
def opAdd:Op2:=fun x y k=>match x,y with
 |.int i,.int j=>k (.d (.int (i+j)))
 |.str i,.str j=>i.length+j.length≤sizeLine∧k (.d (.str (i++j)))
 |.lst xs,.lst ys=>xs.length+ys.length≤sizeLine∧∀a,k (.own a (xs++ys))
 |_,_=>False
def opSub:Op2:=fun x y k=>match x,y with
 |.int i,.int j=>k (.d (.int (i-j)))
 |_,_=>False
def opDiv:Op2:=fun x y k=>match x,y with
 |.int i,.int j=>j≠0∧j.natAbs<2^9000∧k (.d (.int (i.fdiv j)))
 |_,_=>False
def opMod:Op2:=fun x y k=>match x,y with
 |.int i,.int j=>j≠0∧k (.d (.int (i.fmod j)))
 |_,_=>False
def opPow:Op2:=fun x y k=>match x,y with
 |.int i,.int j=>0≤j∧j≤1000000∧i.natAbs<2^64∧k (.d (.int (i^j.toNat)))
 |_,_=>False
def opLt:Op2:=fun x y k=>match x,y with
 |.int i,.int j=>k (.d (.bl (decide (i<j))))
 |_,_=>False
def opLe:Op2:=fun x y k=>match x,y with
 |.int i,.int j=>k (.d (.bl (decide (i≤j))))
 |_,_=>False
def opGt:Op2:=fun x y k=>match x,y with
 |.int i,.int j=>k (.d (.bl (decide (j<i))))
 |_,_=>False
def opGe:Op2:=fun x y k=>match x,y with
 |.int i,.int j=>k (.d (.bl (decide (j≤i))))
 |_,_=>False
theorem bitsOk_ok{i j:Int}(h1:bitsOk i)(h2:bitsOk j):IntMulOk i j:=IntMulOk.of_le (PySem.intBits_le_iff.mpr h1) (PySem.intBits_le_iff.mpr h2) (by decide)
theorem opr_mul:OpR X (binaryOp .Mult) (rI (fun i j=>bitsOk i∧bitsOk j) fun i j=>.int (i*j)):=opI fun _ _ _ _ _ _ _ hc q=>mul_int q (bitsOk_ok hc.1 hc.2)
theorem opr_div:OpR X (binaryOp .FloorDiv) (rI (fun i j=>j≠0∧j.natAbs<2^9000) fun i j=>.int (i.fdiv j)):=opI fun i j _ _ _ _ _ hc q=>floordiv_int hc.1 q (.inl (PyProof.noPylong_of_log2 ((Nat.log2_lt (by have:=hc.1;omega)).mpr hc.2)))
theorem opr_cat:OpR X (binaryOp .Add) (fun x y H Q=>∃l b xs zs,x=.ref l∧y=.ref b∧SqL X.K H l xs∧SqL X.K H b zs∧xs.length+zs.length≤sizeLine∧∀p,H p=none→Q (.ref p) (upd H p (.lst (xs++zs)))):=by
 intro pins s σ H x y v u Q I rx ry h
 obtain⟨l,b,xs,zs,rfl,rfl,hH,hB,hz,q⟩:=h
 cases rx
 cases ry
 obtain⟨its,r,⟨o,n,e,c,d,f⟩,z⟩:=I.list hH
 obtain⟨its2,r2,⟨o2,n2,e2,c2,d2,f2⟩,z2⟩:=I.list hB
 obtain⟨cl,dd,dt,sl⟩:=o
 obtain⟨cl2,dd2,dt2,sl2⟩:=o2
 simp only at c f c2 f2
 subst c f c2 f2
 have hl:=r.length
 have hl2:=r2.length
 refine concat_meets ⟨_,e,rfl⟩ ⟨_,e2,rfl⟩ noFill_list_add seq_list_add PySem.F.slot_list_add PySem.F.entry_list_add (PySem.F.args_list_add_2 _ _) (list_addW l b its.toArray its2.toArray n n2 dd dd2 sl sl2 (by rw[List.size_toArray,List.size_toArray];omega)) ⟨e,e2,?_⟩
 have ea:its.toArray++its2.toArray=(its++its2).toArray:=by simp
 rw[ea]
 exact⟨.ref _,_,I.lnew (t':=s.toks) (r.append r2) (by rw[List.length_append];omega),rfl,q _ I.fresh⟩
theorem opAdd_is{x y:D}{k:L→Prop}(h:opAdd x y k):(∃i j,x=.int i∧y=.int j∧k (.d (.int (i+j))))∨(∃i j,x=.str i∧y=.str j∧i.length+j.length≤sizeLine∧k (.d (.str (i++j))))∨∃xs ys,x=.lst xs∧y=.lst ys∧xs.length+ys.length≤sizeLine∧∀a,k (.own a (xs++ys)):=by
 unfold opAdd at h
 split at h
 ·
  exact .inl ⟨_,_,rfl,rfl,h⟩
 ·
  exact .inr (.inl ⟨_,_,rfl,rfl,h⟩)
 ·
  exact .inr (.inr ⟨_,_,rfl,rfl,h⟩)
 ·
  exact h.elim
theorem od_addI:OpD X (binaryOp .Add) (fun x y k=>∃i j,x=.int i∧y=.int j∧k (.d (.int (i+j)))):=OpD.of op_add fun σ H Pr ρ x y dx dy post E px py ⟨i,j,e1,e2,h⟩=>by subst e1 e2;cases px;cases py;exact⟨i,j,rfl,rfl,_,E.cons_d (.int _),h⟩
theorem od_addS:OpD X (binaryOp .Add) (fun x y k=>∃i j,x=.str i∧y=.str j∧i.length+j.length≤sizeLine∧k (.d (.str (i++j)))):=OpD.of op_add_str fun σ H Pr ρ x y dx dy post E px py ⟨i,j,e1,e2,z,h⟩=>by subst e1 e2;cases px;cases py;exact⟨i,j,rfl,rfl,z,_,E.cons_d (.str _),h⟩
theorem od_addL:OpD X (binaryOp .Add) (fun x y k=>∃xs ys,x=.lst xs∧y=.lst ys∧xs.length+ys.length≤sizeLine∧∀a,k (.own a (xs++ys))):=OpD.of opr_cat fun σ H Pr ρ x y dx dy post E px py ⟨xs,ys,e1,e2,z,h⟩=>by
 subst e1 e2
 cases px with
 | lst h1 r1 =>
  cases py with
  |lst h2 r2=>exact⟨_,_,_,_,rfl,rfl,h1.l,h2.l,by rw[r1.length,r2.length];exact z,fun p hp=>⟨_,E.cons_own hp (r1.append r2),h p⟩⟩
theorem od_add:OpD X (binaryOp .Add) opAdd:=by
 intro pins s σ H Pr ρ x y v u dx dy post I rx ry E px py ho
 rcases opAdd_is ho with h|h|h
 ·
  exact od_addI pins s σ H Pr ρ x y v u dx dy post I rx ry E px py h
 ·
  exact od_addS pins s σ H Pr ρ x y v u dx dy post I rx ry E px py h
 ·
  exact od_addL pins s σ H Pr ρ x y v u dx dy post I rx ry E px py h
theorem od_int{f:Value→Value→Sem Value}{C:Int→Int→Prop}{g:Int→Int→V}{gd:Int→Int→D}(h:OpR X f (rI C g))(hg:∀K H i j,Rep K H (g i j) (gd i j)) :
  OpD X f (fun x y k=>∃i j,x=.int i∧y=.int j∧C i j∧k (.d (gd i j))) :=
 OpD.of h fun σ H Pr ρ x y dx dy post E px py ⟨i,j,e1,e2,z,h⟩=>by subst e1 e2;cases px;cases py;exact⟨i,j,rfl,rfl,z,_,E.cons_d (hg _ _ _ _),h⟩
theorem od_int0{f:Value→Value→Sem Value}{g:Int→Int→V}{gd:Int→Int→D}(h:OpR X f (rI0 g))(hg:∀K H i j,Rep K H (g i j) (gd i j)) :
  OpD X f (fun x y k=>∃i j,x=.int i∧y=.int j∧k (.d (gd i j))) :=
 OpD.of h fun σ H Pr ρ x y dx dy post E px py ⟨i,j,e1,e2,h⟩=>by subst e1 e2;cases px;cases py;exact⟨i,j,rfl,rfl,_,E.cons_d (hg _ _ _ _),h⟩
theorem od_sub:OpD X (binaryOp .Sub) opSub:=(od_int0 op_sub (gd:=fun i j=>.int (i-j)) fun _ _ _ _=>.int _).imp fun x y k h=>by
 unfold opSub at h
 split at h
 ·
  exact⟨_,_,rfl,rfl,h⟩
 ·
  exact h.elim
theorem od_mul:OpD X (binaryOp .Mult) (fun x y k=>∃i j,x=.int i∧y=.int j∧(bitsOk i∧bitsOk j)∧k (.d (.int (i*j)))):=od_int opr_mul (gd:=fun i j=>.int (i*j)) fun _ _ _ _=>.int _
def opMulI:Op2:=fun x y k=>match x,y with
 |.int i,.int j=>bitsOk i∧bitsOk j∧k (.d (.int (i*j)))
 |_,_=>False
theorem od_mulI:OpD X (binaryOp .Mult) opMulI:=od_mul.imp fun x y k h=>by
 unfold opMulI at h
 split at h
 ·
  exact⟨_,_,rfl,rfl,⟨h.1,h.2.1⟩,h.2.2⟩
 ·
  exact h.elim
theorem od_div:OpD X (binaryOp .FloorDiv) opDiv:=(od_int opr_div (gd:=fun i j=>.int (i.fdiv j)) fun _ _ _ _=>.int _).imp fun x y k h=>by
 unfold opDiv at h
 split at h
 ·
  exact⟨_,_,rfl,rfl,⟨h.1,h.2.1⟩,h.2.2⟩
 ·
  exact h.elim
theorem od_mod:OpD X (binaryOp .Mod) opMod:=(od_int op_modN (gd:=fun i j=>.int (i.fmod j)) fun _ _ _ _=>.int _).imp fun x y k h=>by
 unfold opMod at h
 split at h
 ·
  exact⟨_,_,rfl,rfl,h.1,h.2⟩
 ·
  exact h.elim
theorem od_pow:OpD X (binaryOp .Pow) opPow:=(od_int op_pow (gd:=fun i j=>.int (i^j.toNat)) fun _ _ _ _=>.int _).imp fun x y k h=>by
 unfold opPow at h
 split at h
 ·
  exact⟨_,_,rfl,rfl,⟨h.1,h.2.1,h.2.2.1⟩,h.2.2.2⟩
 ·
  exact h.elim
theorem od_lt:OpD X (compareOp .Lt) opLt:=(od_int0 op_lt (gd:=fun i j=>.bl (decide (i<j))) fun _ _ _ _=>.bl _).imp fun x y k h=>by
 unfold opLt at h
 split at h
 ·
  exact⟨_,_,rfl,rfl,h⟩
 ·
  exact h.elim
theorem od_gt:OpD X (compareOp .Gt) opGt:=(od_int0 op_gt (gd:=fun i j=>.bl (decide (j<i))) fun _ _ _ _=>.bl _).imp fun x y k h=>by
 unfold opGt at h
 split at h
 ·
  exact⟨_,_,rfl,rfl,h⟩
 ·
  exact h.elim
theorem od_ge:OpD X (compareOp .GtE) opGe:=(od_int0 op_ge (gd:=fun i j=>.bl (decide (j≤i))) fun _ _ _ _=>.bl _).imp fun x y k h=>by
 unfold opGe at h
 split at h
 ·
  exact⟨_,_,rfl,rfl,h⟩
 ·
  exact h.elim
mutual
def toP:D→PyData
 |.non=>.none
 |.bl b=>.bool b
 |.int i=>.int i
 |.str x=>.str x
 |.tup xs=>.tuple (toPs xs)
 |.lst xs=>.list (toPs xs)
 |.dct _=>.dict []
 |.exc _ _ _=>.dict []
 |.fn _ _=>.dict []
def toPs:List D→List PyData
 |[]=>[]
 |x::xs=>toP x::toPs xs
end
def eqD(x y:D):Bool:=PyData.eqv (toP x) (toP y)
def shapeD(x:D):Prop:=SeqAt.shaped (toP x)=true
def opEq:Op2:=fun x y k=>shapeD x∧shapeD y∧k (.d (.bl (eqD x y)))
def opNe:Op2:=fun x y k=>shapeD x∧shapeD y∧k (.d (.bl (!eqD x y)))
mutual
theorem reads_of{pins:List (Addr×Obj)}{σ:St}{H:Hp}{s:Shared}(I:Inv X pins σ H s):∀(d:D)(x:V)(u:Value),RelV x u→Rep X.K H x d→(toP d).canLay0=true→∃as,Reads s.heap u (toP d) as
 |.non,_,_,rv,r,_=>by cases r;cases rv;exact⟨_,.none⟩
 |.bl b,_,_,rv,r,_=>by cases r;cases rv;exact⟨_,.bool b⟩
 |.int i,_,_,rv,r,_=>by cases r;obtain⟨t,rfl⟩:=rv;exact⟨_,.int i t⟩
 |.str z,_,_,rv,r,_=>by cases r;obtain⟨t,rfl⟩:=rv;exact⟨_,.str z t⟩
 | .tup xs,_,_,rv,r,hc=>by
  cases r with
  | tup h rs =>
   cases rv
   obtain⟨its,vs,⟨o,e,c,n,d⟩,_⟩:=I.tuple h
   obtain⟨as,ra⟩:=readsAll_of I xs _ _ vs rs hc
   exact⟨_,.tuple (xs:=toPs xs) e c d (by simpa using ra)⟩
 | .lst xs,_,_,rv,r,hc=>by
  cases r with
  | lst h rs =>
   cases rv
   obtain⟨its,vs,⟨o,n,e,c,_,d⟩,_⟩:=I.list h.l
   obtain⟨as,ra⟩:=readsAll_of I xs _ _ vs rs hc
   exact⟨_,.list (xs:=toPs xs) e c d (by simpa using ra)⟩
 |.dct _,_,_,_,_,hc=>nomatch hc
 |.exc _ _ _,_,_,_,_,hc=>nomatch hc
 |.fn _ _,_,_,_,_,hc=>nomatch hc
theorem readsAll_of{pins:List (Addr×Obj)}{σ:St}{H:Hp}{s:Shared}(I:Inv X pins σ H s):∀(ds:List D)(vs:List V)(us:List Value),Vals vs us→Reps X.K H vs ds→PyData.canLayAll0 (toPs ds)=true→∃as,ReadsAll s.heap us (toPs ds) as
 |[],_,_,rv,r,_=>by cases r;cases rv;exact⟨_,.nil⟩
 | d::ds,_,_,rv,r,hc=>by
  have hc':(toP d).canLay0=true∧PyData.canLayAll0 (toPs ds)=true:=by simpa[toPs,PyData.canLayAll0]using hc
  cases r with
  | cons r0 rs =>
   cases rv with
   | cons v0 vs =>
    obtain⟨as,ra⟩:=reads_of I d _ _ v0 r0 hc'.1
    obtain⟨bs,rb⟩:=readsAll_of I ds _ _ vs rs hc'.2
    exact⟨_,.cons ra rb⟩
end
theorem od_eq(hu:X.A.units+64<cLine):OpD X (compareOp .Eq) opEq:=by
 intro pins s σ H Pr ρ x y v u dx dy post I rx ry E px py ⟨h1,h2,ho⟩
 obtain⟨as,ra⟩:=reads_of I dx x v rx px (SeqAt.canLay_of_shaped h1)
 obtain⟨bs,rb⟩:=reads_of I dy y u ry py (SeqAt.canLay_of_shaped h2)
 exact eq_dataH ra rb h1 h2 hu ⟨.bl _,H,_,I,rfl,E.cons_d (.bl _),ho⟩
theorem od_ne(hu:X.A.units+64<cLine):OpD X (compareOp .NotEq) opNe:=by
 intro pins s σ H Pr ρ x y v u dx dy post I rx ry E px py ⟨h1,h2,ho⟩
 obtain⟨as,ra⟩:=reads_of I dx x v rx px (SeqAt.canLay_of_shaped h1)
 obtain⟨bs,rb⟩:=reads_of I dy y u ry py (SeqAt.canLay_of_shaped h2)
 exact ne_dataH ra rb h1 h2 hu ⟨.bl _,H,_,I,rfl,E.cons_d (.bl _),ho⟩
def opIx:Op2:=fun x y k=>match x,y with
 |.lst xs,.int i=>∃v,atI xs i=some v∧k (.d v)
 |.tup xs,.int i=>∃v,atI xs i=some v∧k (.d v)
 |.str z,.int i=>z.length≤sizeLine∧∃c,atI z.cps.toList i=some c∧k (.d (.str ⟨#[c]⟩))
 |_,_=>False
theorem atI_rep{K:PySem.W.Frag}{H:Hp}{vs:List V}{xs:List D}(r:Reps K H vs xs){i:Int}{x:D}(h:atI xs i=some x):∃v,atI vs i=some v∧Rep K H v x:=by
 unfold atI at h ⊢
 rw[r.length]
 cases q:ixN xs.length i with
 |none=>rw[q]at h;cases h
 | some j =>
  rw[q]at h
  exact r.get h
theorem opIx_is{x y:D}{k:L→Prop}(h:opIx x y k):∃i,y=.int i∧((∃xs,x=.lst xs∧∃v,atI xs i=some v∧k (.d v))∨(∃xs,x=.tup xs∧∃v,atI xs i=some v∧k (.d v))∨∃z,x=.str z∧z.length≤sizeLine∧∃c,atI z.cps.toList i=some c∧k (.d (.str ⟨#[c]⟩))):=by
 unfold opIx at h
 split at h
 ·
  exact⟨_,rfl,.inl ⟨_,rfl,h⟩⟩
 ·
  exact⟨_,rfl,.inr (.inl ⟨_,rfl,h⟩)⟩
 ·
  exact⟨_,rfl,.inr (.inr ⟨_,rfl,h⟩)⟩
 ·
  exact h.elim
theorem pl_ix(ha:PL X a ta)(hb:PL X b tb)(hs:PlainIx b):PL X (.Subscript a b pos) (wBin opIx ta tb):=by
 intro pins s σ H Pr ρ post I E h
 refine Subscript_ (two (R:=fun dx dy ρ2=>opIx dx dy fun r=>post r ρ2) ha hb I E h fun v u s2 x y H2 dx dy ρ2 I2 r1 r2 E2 p1 p2 q=>?_)
 have fin:∀(Q:VK),(∀z H',Q z H'→∃r,REnv X.K Pr H' (some z::σ) (r::ρ2)∧post r ρ2)→∀w s',EP X pins σ Q w s'→EL X pins σ Pr post w s':=fun Q hQ w s' ⟨z,H',I',rz,q⟩=>by
  obtain⟨r,E',p⟩:=hQ z H' q
  exact⟨z,H',r,ρ2,I',rz,E',p⟩
 have Eσ:=E2.tail.tail
 obtain⟨i,rfl,⟨xs,rfl,z,hz',q⟩|⟨xs,rfl,z,hz',q⟩|⟨z,rfl,hz,c,hc,q⟩⟩:=opIx_is q
 ·
  cases p2
  cases p1 with
  | lst hz rs =>
   obtain⟨w,hw,rw⟩:=atI_rep rs hz'
   exact thn (ix_list a b pins s2 σ H2 _ _ v u (fun z H'=>z=w∧H'=H2) I2 r1 r2 ⟨_,_,i,w,rfl,rfl,hz.l,hw,rfl,rfl⟩ (hs _ _)) (fin _ fun z H' ⟨e1,e2⟩=>by subst e1 e2;exact⟨_,Eσ.cons_d rw,q⟩)
 ·
  cases p2
  cases p1 with
  | tup hz rs =>
   obtain⟨w,hw,rw⟩:=atI_rep rs hz'
   exact thn (ix_tup a b pins s2 σ H2 _ _ v u (fun z H'=>z=w∧H'=H2) I2 r1 r2 ⟨_,_,i,w,rfl,rfl,hz,hw,rfl,rfl⟩ (hs _ _)) (fin _ fun z H' ⟨e1,e2⟩=>by subst e1 e2;exact⟨_,Eσ.cons_d rw,q⟩)
 ·
  cases p2
  cases p1
  exact thn (ix_str a b pins s2 σ H2 _ _ v u (fun z H'=>z=.str ⟨#[c]⟩∧H'=H2) I2 r1 r2 ⟨z,i,c,rfl,rfl,hz,hc,rfl,rfl⟩ (hs _ _)) (fin _ fun z H' ⟨e1,e2⟩=>by subst e1 e2;exact⟨_,Eσ.cons_d (.str _),q⟩)
end
section
variable{X:Cx}{e a b c:Expr}{es:List Expr}{pos p:Pos}{ta:W L}{x:Str}{bs:List (Option Nat)}{t:W (List L)}{id T:String}
abbrev OpN:=List D→(L→Prop)→Prop
def CallD(X:Cx)(f:Value)(op:OpN):Prop :=
 ∀(pins:List (Addr×Obj))(s:Shared)(σ:St)(H Pr:Hp)(ρ:Ev)(vs:List V)(us:List Value)(ds:List D)(post:L→Prop),Inv X pins σ H s→Vals vs us→REnv X.K Pr H σ ρ→Reps X.K H vs ds→op ds post →
  wpAny (model X.prog X.w) X.A (call f us) (fun w s'=>∃z H' r,Inv X pins σ H' s'∧RelV z w∧REnv X.K Pr H' (some z::σ) (r::ρ)∧post r) X.xe s
theorem CallD.of{f:Value}{r:List V→Hp→VK→Prop}{op:OpN}(h:CallR X f r)(q:∀σ H Pr ρ vs ds post,REnv X.K Pr H σ ρ→Reps X.K H vs ds→op ds post→r vs H fun z H'=>∃r,REnv X.K Pr H' (some z::σ) (r::ρ)∧post r):CallD X f op :=
 fun pins s σ H Pr ρ vs us ds post I rv E ps ho=>thn (h pins s σ H vs us _ I rv (q σ H Pr ρ vs ds post E ps ho)) fun w s' ⟨z,H',I',rz,r,E',p⟩=>⟨z,H',r,I',rz,E',p⟩
def wCallD(op:OpN)(t:W (List L)):W L:=fun ρ post=>t ρ fun ls ρ1=>toDs ls fun ds=>op ds fun r=>post r ρ1
theorem pl_callD(hc:CallD X (.builtin id) op)(hg:Gl X x)(hm:X.mg x=none)(hv:bootBuiltins x=some (.builtin id))(ha:PAL X (e::es) bs t) (hn:x≠"__name__":=by decide) (hdb:(x == ("__debug__" : Str))=false:=by decide)
  (he:starEach (e::es) X.env=(false,eval e X.env)::starEach es X.env:=by rfl) (hpl:(backTo pos (starEach es X.env)).any (·.1)=false:=by rfl):PL X (.Call (.Name x p) (e::es) [] pos) (wCallD op t):=by
 intro pins s σ H Pr ρ post I E h
 refine wpAny_Call_Name_kw (ld_blt I hg hm hv ?_ hn hdb)
 refine PyProof.Rows.callWith_builtin1 (thn (ha pos pins s σ H Pr ρ _ I E h) fun us s1 ⟨vs,H1,ls,ρ1,I1,r1,hl,hb,E1,_,q1⟩=>?_) he hpl
 obtain⟨ds,rfl,q2⟩:=toDs_is q1
 have hlen:vs.length=ds.length:=by simpa using hl
 exact thn (hc pins s1 σ H1 Pr ρ1 vs us ds _ I1 r1 (E1.drop (by simp[hlen])) (reps_of hlen E1) q2) fun w s2 ⟨z,H2,r,I2,rz,E2,q⟩=>⟨z,H2,r,ρ1,I2,rz,E2,q⟩
theorem pl_callTD(hc:CallD X (.type T) op)(hg:Gl X x)(hm:X.mg x=none)(hv:bootBuiltins x=some (.type T))(ha:PAL X (e::es) bs t) (hn:x≠"__name__":=by decide) (hdb:(x == ("__debug__" : Str))=false:=by decide)
  (he:starEach (e::es) X.env=(false,eval e X.env)::starEach es X.env:=by rfl) (hpl:(backTo pos (starEach es X.env)).any (·.1)=false:=by rfl):PL X (.Call (.Name x p) (e::es) [] pos) (wCallD op t):=by
 intro pins s σ H Pr ρ post I E h
 refine wpAny_Call_Name_kw (ld_blt I hg hm hv ?_ hn hdb)
 refine PyProof.Rows.callWith_type1 (thn (ha pos pins s σ H Pr ρ _ I E h) fun us s1 ⟨vs,H1,ls,ρ1,I1,r1,hl,hb,E1,_,q1⟩=>?_) he hpl
 obtain⟨ds,rfl,q2⟩:=toDs_is q1
 have hlen:vs.length=ds.length:=by simpa using hl
 exact thn (hc pins s1 σ H1 Pr ρ1 vs us ds _ I1 r1 (E1.drop (by simp[hlen])) (reps_of hlen E1) q2) fun w s2 ⟨z,H2,r,I2,rz,E2,q⟩=>⟨z,H2,r,ρ1,I2,rz,E2,q⟩
def opLen:OpN:=fun ds k=>match ds with
 |[.lst xs]=>k (.d (.int xs.length))
 |[.tup xs]=>k (.d (.int xs.length))
 |[.str x]=>x.length≤sizeLine∧k (.d (.int x.length))
 |_=>False
theorem reps1{K:PySem.W.Frag}{H:Hp}{vs:List V}{d:D}(r:Reps K H vs [d]):∃v,vs=[v]∧Rep K H v d:=by
 cases r with
 |cons h t=>cases t;exact⟨_,rfl,h⟩
theorem reps2{K:PySem.W.Frag}{H:Hp}{vs:List V}{d d':D}(r:Reps K H vs [d,d']):∃v w,vs=[v,w]∧Rep K H v d∧Rep K H w d':=by
 cases r with
 | cons h t=>cases t with
  |cons h' t=>cases t;exact⟨_,_,rfl,h,h'⟩
theorem cd_len:CallD X (.builtin "len") opLen:=CallD.of (call_len_seq.or call_len_str) fun σ H Pr ρ vs ds post E ps h=>by
 unfold opLen at h
 split at h
 ·
  obtain⟨v,rfl,r⟩:=reps1 ps
  cases r with
  |lst hz rs=>exact .inl ⟨_,_,rfl,.inl hz.l,_,E.cons_d (.int _),by rw[rs.length];exact h⟩
 ·
  obtain⟨v,rfl,r⟩:=reps1 ps
  cases r with
  |tup hz rs=>exact .inl ⟨_,_,rfl,.inr hz,_,E.cons_d (.int _),by rw[rs.length];exact h⟩
 ·
  obtain⟨v,rfl,r⟩:=reps1 ps
  cases r with
  |str z=>exact .inr ⟨_,rfl,h.1,_,E.cons_d (.int _),h.2⟩
 ·
  exact h.elim
def opAbs:OpN:=fun ds k=>match ds with
 |[.int i]=>k (.d (.int (if i<0 then -i else i)))
 |_=>False
theorem cd_abs:CallD X (.builtin "abs") opAbs:=CallD.of call_abs fun σ H Pr ρ vs ds post E ps h=>by
 unfold opAbs at h
 split at h
 ·
  obtain⟨v,rfl,r⟩:=reps1 ps
  cases r with
  |int i=>exact⟨_,rfl,_,E.cons_d (.int _),h⟩
 ·
  exact h.elim
def opMax:OpN:=fun ds k=>match ds with
 |[.int i,.int j]=>k (.d (.int (if j > i then j else i)))
 |_=>False
def opMin:OpN:=fun ds k=>match ds with
 |[.int i,.int j]=>k (.d (.int (if j<i then j else i)))
 |_=>False
theorem cd_max(hc:X.calm=true):CallD X (.builtin "max") opMax:=CallD.of (call_max2 hc) fun σ H Pr ρ vs ds post E ps h=>by
 unfold opMax at h
 split at h
 ·
  obtain⟨v,w,rfl,r,r'⟩:=reps2 ps
  cases r with
  | int i=>cases r' with
   |int j=>exact⟨_,_,rfl,_,E.cons_d (.int _),h⟩
 ·
  exact h.elim
theorem cd_min(hc:X.calm=true):CallD X (.builtin "min") opMin:=CallD.of (call_min2 hc) fun σ H Pr ρ vs ds post E ps h=>by
 unfold opMin at h
 split at h
 ·
  obtain⟨v,w,rfl,r,r'⟩:=reps2 ps
  cases r with
  | int i=>cases r' with
   |int j=>exact⟨_,_,rfl,_,E.cons_d (.int _),h⟩
 ·
  exact h.elim
def opInt:OpN:=fun ds k=>match ds with
 |[.int i]=>k (.d (.int i))
 |[.bl b]=>k (.d (.int (if b then 1 else 0)))
 |_=>False
theorem cd_int:CallD X (.type "int") opInt:=CallD.of call_int1 fun σ H Pr ρ vs ds post E ps h=>by
 unfold opInt at h
 split at h
 ·
  obtain⟨v,rfl,r⟩:=reps1 ps
  cases r with
  |int i=>exact .inl ⟨_,rfl,_,E.cons_d (.int _),h⟩
 ·
  obtain⟨v,rfl,r⟩:=reps1 ps
  cases r with
  |bl i=>exact .inr ⟨_,rfl,_,E.cons_d (.int _),h⟩
 ·
  exact h.elim
def opList:OpN:=fun ds k=>match ds with
 |[.lst xs]=>∀a,k (.own a xs)
 |[.tup xs]=>∀a,k (.own a xs)
 |_=>False
theorem cd_list:CallD X (.type "list") opList:=CallD.of call_list_of fun σ H Pr ρ vs ds post E ps h=>by
 unfold opList at h
 split at h
 ·
  obtain⟨v,rfl,r⟩:=reps1 ps
  cases r with
  |lst hz rs=>exact⟨_,_,rfl,.inl hz.l,fun l hl=>⟨_,E.cons_own hl rs,h l⟩⟩
 ·
  obtain⟨v,rfl,r⟩:=reps1 ps
  cases r with
  |tup hz rs=>exact⟨_,_,rfl,.inr hz,fun l hl=>⟨_,E.cons_own hl rs,h l⟩⟩
 ·
  exact h.elim
def tyD:D→Value
 |.non=>.type "NoneType"
 |.bl _=>.type "bool"
 |.int _=>.type "int"
 |.str _=>.type "str"
 |.tup _=>.type "tuple"
 |.lst _=>.type "list"
 |.dct _=>.type "dict"
 |.exc _ _ _=>.none
 |.fn _ _=>.type "function"
def TyD(K:PySem.W.Frag)(d:D)(t:Value):Prop:=match d with
 |.exc c _ _=>∃C,t=.ref C∧excStd K c C=true
 |d=>t=tyD d
theorem exc_inst{pins:List (Addr×Obj)}{σ:St}{H:Hp}{s:Shared}{a:Addr}{o:Obj}{u:HO}{C:Addr}{ns:List Str}{vs:List V}(I:Inv X pins σ H s)(h:H a=some (.frz o u))(hc:o.cls=.ref C)(hn:PySem.W.notCls o=true)(hf:XF H o.dict ns vs):∃od,PySem.W.InstAt s.heap a o C od∧∀d,o.dict=some d→∃q,od=some q∧s.heap.get? d=some q:=by
 have e:=(show s.heap.get? a=some o∧_ from I.hok a _ h).1
 rcases hf with⟨_,_,z⟩|⟨d,od,z,h2,_⟩
 ·
  exact⟨none,⟨e,hc,hn,by rw[z];trivial⟩,fun d q=>by rw[z]at q;cases q⟩
 ·
  have e2:=(show s.heap.get? d=some od∧_ from I.hok d _ h2).1
  exact⟨some od,⟨e,hc,hn,by rw[z];exact e2⟩,fun d' q=>by rw[z]at q;cases q;exact⟨od,rfl,e2⟩⟩
theorem isinst_D{pins:List (Addr×Obj)}{σ:St}{H:Hp}{s:Shared}{x:V}{u c:Value}{d:D}{b:Bool}{Q:Value→Shared→Prop}{A:Around}{E:Value→Shared→Prop}(I:Inv X pins σ H s)(rx:RelV x u)(r:Rep X.K H x d)(e:∀t,TyD X.K d t→PySem.W.kitOne X.K t c=some b)(h:∀tk,Q (.bool b) {s with toks:=tk}) :
  wpAny (model X.prog X.w) A (call (.builtin "isinstance") [u,c]) Q E s:=by
 cases r with
 |non=>cases rx;exact PySem.W.kia_one PySem.W.kitx_none I.kIn True.intro (e _ rfl) (fun z=>nomatch z) h
 |bl y=>cases rx;exact PySem.W.kia_one PySem.W.kitx_bool I.kIn True.intro (e _ rfl) (fun z=>nomatch z) h
 |int i=>obtain⟨t,rfl⟩:=rx;exact PySem.W.kia_one PySem.W.kitx_int I.kIn True.intro (e _ rfl) (fun z=>nomatch z) h
 |str y=>obtain⟨t,rfl⟩:=rx;exact PySem.W.kia_one PySem.W.kitx_str I.kIn True.intro (e _ rfl) (fun z=>nomatch z) h
 | lst hz rs =>
  cases rx
  obtain⟨its,_,⟨o,n,e1,c1,_,_⟩,_⟩:=I.list hz.l
  exact PySem.W.kia_one PySem.W.kitx_list I.kIn ⟨o,e1,c1⟩ (e _ rfl) (fun z=>nomatch z) h
 | tup hz rs =>
  cases rx
  obtain⟨its,_,⟨o,e1,c1,_⟩,_⟩:=I.tuple hz
  exact PySem.W.kia_one PySem.W.kitx_tuple I.kIn ⟨o,e1,c1⟩ (e _ rfl) (fun z=>nomatch z) h
 | @dct a o kvs hz =>
  cases rx
  obtain⟨_,_,_,vs,_,o',es,ep,h1,h2,_⟩:=(show ObjOk X.prog X.w H s.heap a (.frz o (.dK kvs))from I.hok a _ hz)
  exact PySem.W.kia_one PySem.W.kitx_dict I.kIn ⟨o',h1,h2.1⟩ (e _ rfl) (fun z=>nomatch z) h
 | @exc a o u cc C ns vs ds h1 hv hc hn hs hq hf rs =>
  cases rx
  obtain⟨od,Ia,_⟩:=exc_inst I h1 hc hn hf
  obtain⟨LL,cd,S⟩:=excStd_is hs
  exact PySem.W.kia_one (kitx_exc S) I.kIn ⟨_,_,Ia⟩ (e _ ⟨C,rfl,hs⟩) (fun z=>nomatch z) h
 | fn hl hf hq hc hz hd hv hm r =>
  cases rx
  exact PySem.W.kia_one kitx_fn I.kIn ⟨_,(I.hok _ _ hf).1,rfl⟩ (e _ rfl) (fun z=>nomatch z) h
def isTy(T:String):D→Bool
 |.non=>T == "NoneType"
 |.bl _=>T == "bool" ||T == "int"
 |.int _=>T == "int"
 |.str _=>T == "str"
 |.tup _=>T == "tuple"
 |.lst _=>T == "list"
 |.dct _=>T == "dict"
 |.exc _ _ _=>(["ValueError","Exception","BaseException","object"]:List String).contains T
 |.fn _ _=>T == "function"
def opIsT(T:String):D→(L→Prop)→Prop:=fun d k=>k (.d (.bl (isTy T d)))
theorem pl_isT{T:String}{y:Str}{py:Pos}(hT:∀ K d t,TyD K d t→PySem.W.kitOne K t (.type T)=some (isTy T d)) (hg:Gl X "isinstance") (hm:X.mg "isinstance"=none) (hy:Gl X y) (hmy:X.mg y=none) (hby:bootBuiltins y=some (.type T)) (ha:PL X a ta)
  (hny:y≠"__name__":=by decide) (hdy:(y == ("__debug__" : Str))=false:=by decide)
  (h1:starEach [a,.Name y py] X.env=(false,eval a X.env)::starEach [.Name y py] X.env:=by rfl) (h2:starEach [.Name y py] X.env=[(false,eval (.Name y py) X.env)]:=by rfl) (hpl:(backTo pos (starEach [.Name y py] X.env)).any (·.1)=false:=by rfl) :
  PL X (.Call (.Name "isinstance" p) [a,.Name y py] [] pos) (wUn (opIsT T) ta):=by
 have cr:CallR X (.builtin "isinstance") (fun xs H Q=>∃ x d,xs=[x,.ty T]∧Rep X.K H x d∧Q (.bl (isTy T d)) H):=by
  intro pins s σ H xs us Q I rv h
  obtain⟨x,d,rfl,r,q⟩:=h
  obtain⟨u,w,rfl,r1,r2⟩:=vals2 rv
  cases r2
  exact isinst_D I r1 r (hT _ d) fun tk=>⟨.bl _,H,I.tok _,rfl,q⟩
 refine PL.of (pe_callB cr hg hm (by decide +kernel) (pa_cons (pl_frz ha).pe (pa_cons (pe_bltn hy hmy hby (v:=.ty T) rfl hny hdy) pa_nil h2) h1) (he:=h1) (hpl:=hpl)) fun σ H Pr ρ post E h=>?_
 refine⟨Pr,ρ,fun r ρ1=>match r with
  |.d x=>opIsT T x fun r=>post r ρ1
  |_=>False,E,h,fun v H' r ρ' E' p=>?_⟩
 cases r with
 | d x =>
  obtain⟨_,e1,p1⟩:=E'.head_d
  cases e1
  exact⟨_,x,rfl,p1,_,ρ',E'.tail.cons_d (.bl _),p⟩
 |_=>exact p.elim
end
section
variable{X:Cx}{e a b:Expr}{pos p apos cpos:Pos}{tb te:W L}{x:Str}
theorem REnv.updOwn{K:PySem.W.Frag}{Pr H:Hp}{σ:St}{ρ:Ev}{i:Nat}{l:Addr}{xs ys:List D}{vs:List V}(E:REnv K Pr H σ ρ)(q:ρ[i]?=some (.own l xs))(r:Reps K H vs ys):REnv K Pr (upd H l (.lst vs)) σ (ρ.set i (.own l ys)):=by
 obtain⟨sv,hs,rfl,_⟩:=E.slot q
 have hi:i<ρ.length:=(List.getElem?_eq_some_iff.mp q).1
 have E1:=(E.out q).write r
 have E2:=E1.back (i:=i) (by simp[hi]) hs
 rw[List.set_set]at E2
 exact E2
theorem REnv.ownAt{K:PySem.W.Frag}{Pr H:Hp}{σ:St}{ρ:Ev}{i:Nat}{l:Addr}{xs:List D}(E:REnv K Pr H σ ρ)(q:ρ[i]?=some (.own l xs)):σ[i]?=some (some (.ref l))∧∃vs,H l=some (.lst vs)∧Reps K H vs xs:=by
 obtain⟨sv,hs,rfl,r⟩:=E.slot q
 exact⟨hs,r⟩
def ownV(i:Nat)(ρ:Ev)(k:Addr→List D→Prop):Prop:=match ρ[i]? with
 |some (.own a xs)=>k a xs
 |_=>False
theorem ownV_is{i:Nat}{ρ:Ev}{k:Addr→List D→Prop}(h:ownV i ρ k):∃a xs,ρ[i]?=some (.own a xs)∧k a xs:=by
 unfold ownV at h
 cases q:ρ[i]? with
 |none=>rw[q]at h;exact h.elim
 | some l =>
  rw[q]at h
  cases l with
  |own a xs=>exact⟨a,xs,rfl,h⟩
  |un=>exact h.elim
  |d x=>exact h.elim
  |bx _ _=>exact h.elim
  |dic _ _=>exact h.elim
def wApp(i:Nat)(te:W L):W L:=fun ρ post=>ownV i ρ fun _ _=>te ρ fun r ρ1=>toD r fun y=>ownV i ρ1 fun a xs=>xs.length<sizeLine∧post (.d .non) (ρ1.set i (.own a (xs++[y])))
theorem pl_append(i:Nat)(he:PL X e te)(hN:X.N[i]?=some x:=by rfl)(hv:Vis X.env.scope x:=by first | exact Or.inl rfl | exact Or.inr (Or.inl rfl) | exact Or.inr (Or.inr rfl)) (hd:(x == ("__debug__" : Str))=false:=by decide)
  (hcd:(x == ("__classdict__" : Str))=false:=by decide) (hs1:starEach [e] X.env=[(false,eval e X.env)]:=by rfl) (hbase:attributeBase (.Name x p) "append" X.env (eval (.Name x p) X.env)=eval (.Name x p) X.env:=by rfl)
  (hfew:((backTo cpos (starEach [e] X.env)).all (fun x=>!x.1) && (backToKw cpos (keywordEach [] X.env)).all (fun x=>x.1.isSome)
   && decide (([e]).length+([]:List Keyword).length+(if([]:List Keyword).isEmpty then 0 else 1)<30))=true:=by rfl)
  (hline:(apos.endLine == cpos.line)=true:=by rfl) (hplain:(backTo cpos (starEach ([]:List Expr) X.env)).any (·.1)=false:=by rfl) :
  PL X (.Call (.Attribute (.Name x p) "append" apos) [e] [] cpos) (wApp i te):=by
 refine PL.of (pe_bm PySem.F.plainAttrs_list PySem.F.slot_list_append PySem.F.type_list_append mt_append (pe_var hN hv hd hcd) (pa_cons (pl_frz he).pe pa_nil hs1) (hbase:=hbase) (hfew:=hfew) (hline:=hline) (hs:=hs1) (hplain:=hplain)) fun σ H Pr ρ post E h=>?_
 obtain⟨l,xs0,q0,h⟩:=ownV_is h
 obtain⟨hσ,vs0,hl0,_⟩:=E.ownAt q0
 refine⟨.ref l,hσ,.inl ⟨rfl,vs0,SqL.of hl0⟩,Pr,ρ,fun r ρ1=>match r with
  |.d y=>ownV i ρ1 fun a xs=>xs.length<sizeLine∧post (.d .non) (ρ1.set i (.own a (xs++[y])))
  |_=>False,E,h,fun v H' r ρ' E' pp=>?_⟩
 cases r with
 | d y =>
  obtain⟨l',xs,q,hlen,pp⟩:=ownV_is pp
  obtain⟨hσ',vs,hl,r⟩:=E'.tail.ownAt q
  rw[hσ]at hσ'
  cases hσ'
  obtain⟨_,e1,p1⟩:=E'.head_d
  cases e1
  exact⟨l,vs,v,rfl,rfl,hl,by rw[r.length];exact hlen,_,_,(E'.tail.updOwn q (r.append (.cons p1 .nil))).cons_d .non,pp⟩
 |_=>exact pp.elim
def wIxV(i:Nat)(tb:W L):W L:=fun ρ post=>ownV i ρ fun _ _=>tb ρ fun r ρ1=>toInt r fun j=>ownV i ρ1 fun _ xs=>∃y,atI xs j=some y∧post (.d y) ρ1
theorem pl_ixV(i:Nat)(hb:PL X b tb)(hs:PlainIx b)(hN:X.N[i]?=some x:=by rfl)(hv:Vis X.env.scope x:=by first | exact Or.inl rfl | exact Or.inr (Or.inl rfl) | exact Or.inr (Or.inr rfl)) (hd:(x == ("__debug__" : Str))=false:=by decide)
  (hcd:(x == ("__classdict__" : Str))=false:=by decide):PL X (.Subscript (.Name x p) b pos) (wIxV i tb):=by
 refine PL.of (pe_ix ix_list (pe_var hN hv hd hcd) hb.pe hs) fun σ H Pr ρ post E h=>?_
 obtain⟨l,xs0,q0,h⟩:=ownV_is h
 obtain⟨hσ,vs0,hl0,_⟩:=E.ownAt q0
 refine⟨.ref l,hσ,Pr,ρ,_,E,h,fun v H' r ρ' E' pp=>?_⟩
 obtain⟨j,rfl,pp⟩:=toInt_is pp
 obtain⟨l',xs,q,y,hy,pp⟩:=ownV_is pp
 obtain⟨hσ',vs,hl,r⟩:=E'.tail.ownAt q
 rw[hσ]at hσ'
 cases hσ'
 obtain⟨_,e1,p1⟩:=E'.head_d
 cases e1
 cases p1
 obtain⟨w,hw,rw⟩:=atI_rep r hy
 exact⟨l,vs,j,w,rfl,rfl,SqL.of hl,hw,_,ρ',E'.tail.cons_d rw,pp⟩
def wSetV(i:Nat)(tb te:W L):W Fl:=fun ρ post=>te ρ fun r ρ1=>toD r fun y=>ownV i ρ1 fun _ _=>tb ρ1 fun r ρ2=>toInt r fun j=>ownV i ρ2 fun a xs=>∃k,ixN xs.length j=some k∧post .nx (ρ2.set i (.own a (xs.set k y)))
theorem pm_setV(i:Nat){b:Expr}{ps:Pos}(hb:PL X b tb)(he:PL X e te)(hN:X.N[i]?=some x:=by rfl)(hv:Vis X.env.scope x:=by first | exact Or.inl rfl | exact Or.inr (Or.inl rfl) | exact Or.inr (Or.inr rfl)) (hd:(x == ("__debug__" : Str))=false:=by decide)
  (hcd:(x == ("__classdict__" : Str))=false:=by decide)
  (ha:∀v,assign (.Subscript (.Name x p) b ps) X.env v=(do
   let ov ← holding [v] (eval (.Name x p) X.env)
   let iv ← holding [v,ov] (eval b X.env)
   standAt ps
   holding [v,ov,iv] (setItem ov iv v)
   release [v,ov,iv] []):=by intro _;rfl)
  (hs:swapsWithSole [.Subscript (.Name x p) b ps] e pos.line X.env=pure false:=by rfl) (hw:swappedStores [.Subscript (.Name x p) b ps] e X.env=pure none:=by rfl)
  (h1:(assignEach [.Subscript (.Name x p) b ps] X.env).map (·.2)=[assign (.Subscript (.Name x p) b ps) X.env]:=by rfl):PM X (.Assign [.Subscript (.Name x p) b ps] e pos) (wSetV i tb te):=by
 refine PM.of (ps_asg (pl_frz he).pe (pg_sub (pe_var hN hv hd hcd) hb.pe set_list ha) hs hw h1) fun σ H Pr ρ post hlen E h=>?_
 refine⟨Pr,ρ,fun r ρ1=>match r with
  |.d y=>ownV i ρ1 fun _ _=>tb ρ1 fun r ρ2=>toInt r fun j=>ownV i ρ2 fun a xs=>∃k,ixN xs.length j=some k∧post .nx (ρ2.set i (.own a (xs.set k y)))
  |_=>False,E,h,fun v H' r ρ' E' pp=>?_⟩
 cases r with
 | d y =>
  obtain⟨l,xs0,q0,pp⟩:=ownV_is pp
  obtain⟨hσ,vs0,hl0,_⟩:=E'.tail.ownAt q0
  refine⟨.ref l,hσ,butOwn H' ρ',ρ',_,E'.tail.wide,pp,fun w H2 r2 ρ2 E2 pp=>?_⟩
  obtain⟨j,rfl,pp⟩:=toInt_is pp
  obtain⟨l',xs,q,k,hk,pp⟩:=ownV_is pp
  obtain⟨_,e1,p1⟩:=E2.head_d
  cases e1
  cases p1
  have E3:REnv X.K Pr H2 (some (.int j)::some v::σ) (.d (.int j)::.d y::ρ2):=REnv.step (τ:=[some v]) (lam:=[.d y]) (w:=[some (.int j)]) (μ:=[.d (.int j)]) E' rfl E2 rfl
  obtain⟨_,e1,p1⟩:=E3.tail.head_d
  cases e1
  obtain⟨hσ',vs,hl,r⟩:=E3.tail.tail.ownAt q
  rw[hσ]at hσ'
  cases hσ'
  refine⟨l,vs,j,k,rfl,rfl,hl,by rw[r.length];exact hk,_,E3.tail.tail.updOwn q (r.set p1 k),pp⟩
 |_=>exact pp.elim
def wPart:Option (W L)→Ev→(Option Int→Ev→Prop)→Prop
 |none=>fun ρ k=>k none ρ
 |some t=>fun ρ k=>t ρ fun r ρ1=>toInt r fun i=>k (some i) ρ1
def cutD{α:Type}(xs:List α)(lo hi:Option Int):List α:=(xs.drop (HT.sIx xs.length 0 lo)).take (HT.sIx xs.length xs.length hi-HT.sIx xs.length 0 lo)
end
def unsAt:List Nat→Ev→Ev
 |[],ρ=>ρ
 |j::r,ρ=>(unsAt r ρ).set j .un
def capsOf(fi:List Nat)(ρ:Ev):Ev:=fi.map fun j=>(ρ[j]?).getD .un
def capSt(fi:List Nat)(σ:St):St:=fi.map fun j=>(σ[j]?).getD none
def putAll:List Nat→Ev→Ev→Ev
 |j::r,c::cs,ρ=>putAll r cs (ρ.set j c)
 |_,_,ρ=>ρ
theorem unsAt_len:∀(fi:List Nat)(ρ:Ev),(unsAt fi ρ).length=ρ.length
 |[],_=>rfl
 |j::r,ρ=>by unfold unsAt;rw[List.length_set,unsAt_len r ρ]
theorem unsAt_get:∀(fi:List Nat)(ρ:Ev)(j:Nat),j∉fi→(unsAt fi ρ)[j]?=ρ[j]?
 |[],_,_,_=>rfl
 | i::r,ρ,j,h=>by
  unfold unsAt
  rw[List.getElem?_set_ne (fun e=>h (by simp[e])),unsAt_get r ρ j fun e=>h (List.mem_cons_of_mem _ e)]
theorem unsAt_un:∀(fi:List Nat)(ρ:Ev)(j:Nat),j∈fi→j<ρ.length→(unsAt fi ρ)[j]?=some .un
 | i::r,ρ,j,h,hl=>by
  unfold unsAt
  by_cases e:i=j
  ·
   subst e
   rw[List.getElem?_set_self (by rw[unsAt_len];exact hl)]
  ·
   rw[List.getElem?_set_ne e]
   exact unsAt_un r ρ j ((List.mem_cons.mp h).resolve_left fun z=>e z.symm) hl
section
variable{K:PySem.W.Frag}{Pr H:Hp}{σ:St}{ρ:Ev}
theorem REnv.takeAt(E:REnv K Pr H σ ρ){i:Nat}{l:L}{s:Option V}(h:ρ[i]?=some l)(hs:σ[i]?=some s):REnv K Pr H (s::σ) (l::ρ.set i .un):=E.outL h hs
theorem REnv.takes(E:REnv K Pr H σ ρ):∀(fi:List Nat),fi.Nodup→(∀j∈fi,j<ρ.length)→REnv K Pr H (capSt fi σ++σ) (capsOf fi ρ++unsAt fi ρ)
 |[],_,_=>E
 | j::r,nd,hl=>by
  have ih:=E.takes r (List.nodup_cons.mp nd).2 fun i hi=>hl i (List.mem_cons_of_mem _ hi)
  have hj:j<ρ.length:=hl j List.mem_cons_self
  have hjs:j<σ.length:=by rw[E.len];exact hj
  have e1:(capsOf r ρ++unsAt r ρ)[r.length+j]?=some ρ[j]:=by
   rw[List.getElem?_append_right (by simp[capsOf])]
   simp only[capsOf,List.length_map,Nat.add_sub_cancel_left]
   rw[unsAt_get r ρ j (List.nodup_cons.mp nd).1]
   exact List.getElem?_eq_getElem hj
  have e2:(capSt r σ++σ)[r.length+j]?=some σ[j]:=by
   rw[List.getElem?_append_right (by simp[capSt])]
   simp only[capSt,List.length_map,Nat.add_sub_cancel_left]
   exact List.getElem?_eq_getElem hjs
  have z:=ih.takeAt e1 e2
  rw[List.set_append_right _ _ (by simp[capsOf])]at z
  simp only[capsOf,List.length_map,Nat.add_sub_cancel_left]at z
  have c1:capSt (j::r) σ=σ[j]::capSt r σ:=by simp[capSt,hjs]
  have c2:capsOf (j::r) ρ=ρ[j]::capsOf r ρ:=by simp[capsOf,hj]
  rw[c1,c2]
  exact z
theorem REnv.backs:∀(fi:List Nat){cs ρ:Ev},fi.Nodup→cs.length=fi.length→(∀j∈fi,ρ[j]?=some .un)→(∀j∈fi,j<σ.length)→REnv K Pr H (capSt fi σ++σ) (cs++ρ)→REnv K Pr H σ (putAll fi cs ρ)
 |[],[],ρ,_,_,_,_,E=>E
 | j::r,c::cs,ρ,nd,hl,hu,hs,E=>by
  have hjs:j<σ.length:=hs j List.mem_cons_self
  have hj:=hu j List.mem_cons_self
  have c1:capSt (j::r) σ=σ[j]::capSt r σ:=by simp[capSt,hjs]
  rw[c1]at E
  have hlr:cs.length=r.length:=by simpa using hl
  have z:=REnv.back (σ:=capSt r σ++σ) (ρ:=cs++ρ) (l:=c) E (i:=r.length+j) (by
   rw[List.getElem?_append_right (by omega),hlr,Nat.add_sub_cancel_left];exact hj) (by
   rw[List.getElem?_append_right (by simp[capSt])]
   simp only[capSt,List.length_map,Nat.add_sub_cancel_left]
   exact List.getElem?_eq_getElem hjs)
  rw[List.set_append_right _ _ (by omega),hlr,Nat.add_sub_cancel_left]at z
  exact REnv.backs r (List.nodup_cons.mp nd).2 hlr (fun i hi=>by
   rw[List.getElem?_set_ne (fun e=>(List.nodup_cons.mp nd).1 (by rw[e];exact hi))];exact hu i (List.mem_cons_of_mem _ hi)) (fun i hi=>hs i (List.mem_cons_of_mem _ hi)) z
 |[],_::_,_,_,hl,_,_,_=>by simp at hl
 |_::_,[],_,_,hl,_,_,_=>by simp at hl
end
def clOf(cells:List (Str×Addr)):List (Str×NameKind)→List (Str×Addr)→List (Str×Addr)
 |[],acc=>acc
 |(n,k)::r,acc=>clOf cells r (if k == .free then(match cells.lookup n with|some c=>(n,c)::acc|none=>acc)else acc)
theorem closure_eq{env:Env}:∀(names:List (Str×NameKind))(acc:List (Str×Addr)),(∀x∈names,x.2=.free→∃c,env.cells.lookup x.1=some c) →
  (forIn names acc fun (x:Str×NameKind) (cs:List (Str×Addr))=>(if x.2 == .free then do let c ← cellOf env x.1;pure (ForInStep.yield ((x.1,c)::cs))else pure (ForInStep.yield cs):Sem (ForInStep (List (Str×Addr)))))=pure (clOf env.cells names acc)
 |[],acc,_=>rfl
 | (n,k)::r,acc,h=>by
  rw[List.forIn_cons]
  by_cases hk:(k == NameKind.free)=true
  ·
   obtain⟨c,hc⟩:=h (n,k) List.mem_cons_self (by simpa using hk)
   have e:cellOf env n=pure c:=by unfold cellOf;rw[show env.cells.lookup n=some c from hc]
   simp only[hk,if_true,e,pure_bind,clOf,hc]
   exact closure_eq r _ fun x hx=>h x (List.mem_cons_of_mem _ hx)
  ·
   simp only[hk,clOf,if_false,pure_bind]
   exact closure_eq r _ fun x hx=>h x (List.mem_cons_of_mem _ hx)
theorem closureFor_cl{scope:Scope}{env:Env}(h:∀x∈scope.names,x.2=.free→∃c,env.cells.lookup x.1=some c):closureFor scope env=pure (clOf env.cells scope.names []):=by
 have:=closure_eq (env:=env) scope.names [] h
 unfold closureFor
 simp only[bind_pure_comp]at this ⊢
 rw[this]
 rfl
theorem clOf_sub{cells:List (Str×Addr)}:∀(names:List (Str×NameKind))(acc:List (Str×Addr)),(∀x c,acc.lookup x=some c→cells.lookup x=some c)→∀x c,(clOf cells names acc).lookup x=some c→cells.lookup x=some c
 |[],acc,h,x,c,e=>h x c e
 | (n,k)::r,acc,h,x,c,e=>by
  unfold clOf at e
  refine clOf_sub r _ (fun y d ey=>?_) x c e
  split at ey
  ·
   split at ey
   ·
    rename_i q
    rw[List.lookup_cons]at ey
    split at ey
    ·
     rename_i e2
     have:y=n:=by simpa using e2
     cases ey
     rw[this];exact q
    ·
     exact h y d ey
   ·
    exact h y d ey
  ·
   exact h y d ey
theorem lookup_some_cons{n:Str}{c:Addr}{acc:List (Str×Addr)}{x:Str}(h:∃d,acc.lookup x=some d):∃d,((n,c)::acc).lookup x=some d:=by
 rw[List.lookup_cons]
 split
 ·
  exact⟨_,rfl⟩
 ·
  exact h
theorem clOf_has{cells:List (Str×Addr)}:∀(names:List (Str×NameKind))(acc:List (Str×Addr))(x:Str),((∃d,acc.lookup x=some d)∨((x,NameKind.free)∈names∧∃c,cells.lookup x=some c))→∃d,(clOf cells names acc).lookup x=some d
 | [],acc,x,h=>by
  rcases h with h|⟨h,_⟩
  ·
   exact h
  ·
   simp at h
 | (n,k)::r,acc,x,h=>by
  unfold clOf
  refine clOf_has r _ x ?_
  rcases h with h|⟨hm,c,hc⟩
  ·
   left
   split
   ·
    split
    ·
     exact lookup_some_cons h
    ·
     exact h
   ·
    exact h
  ·
   rcases List.mem_cons.mp hm with e|hm
   ·
    cases e
    left
    simp only[hc,beq_self_eq_true,if_true]
    exact⟨c,by simp[List.lookup_cons]⟩
   ·
    exact .inr ⟨hm,c,hc⟩
def cxComp(X:Cx)(scope:Scope)(cl:List (Str×Addr))(Nb:List Str)(s₀:Shared)(H₀:Hp)(fp:List Addr):Cx :=
 {X with N:=Nb,s₀:=s₀,H₀:=H₀,env:=compEnvC scope cl s₀.heap.objs.size X.env,outer:=X.stack,stack:=X.stack,ex:=fp,fn:=fun _=>false,pn:=[],xe:=fun _ _=>False}
theorem paired_iff{α β:Type}{F:α→β→Prop}:∀{a:List α}{b:List β},Paired F a b↔a.length=b.length∧∀p∈a.zip b,F p.1 p.2
 |[],[]=>⟨fun _=>⟨rfl,fun _ h=>by simp at h⟩,fun _=>.nil⟩
 |[],_::_=>⟨(fun h=>nomatch h),fun h=>by simp at h⟩
 |_::_,[]=>⟨(fun h=>nomatch h),fun h=>by simp at h⟩
 | x::a,y::b=>by
  constructor
  ·
   intro h
   cases h with
   | cons r t =>
    obtain⟨h1,h2⟩:=paired_iff.mp t
    exact⟨by simp[h1],fun p hp=>by
     rw[List.zip_cons_cons]at hp
     rcases List.mem_cons.mp hp with rfl|hp
     ·
      exact r
     ·
      exact h2 p hp⟩
  ·
   rintro⟨hl,h⟩
   exact .cons (h (x,y) (by simp)) (paired_iff.mpr ⟨by simpa using hl,fun p hp=>h p (by rw[List.zip_cons_cons];exact List.mem_cons_of_mem _ hp)⟩)
theorem owns_zip:∀{σ:St}{ρ:Ev},σ.length=ρ.length→(σ.zip ρ).map (·.2)=ρ
 |[],[],_=>rfl
 | _::σ,l::ρ,h=>by
  have ih:=owns_zip (σ:=σ) (ρ:=ρ) (by simpa using h)
  rw[List.zip_cons_cons,List.map_cons,ih]
 |[],_::_,h=>by simp at h
 |_::_,[],h=>by simp at h
theorem REnv.rearr{K:PySem.W.Frag}{Pr H:Hp}{σ σ2:St}{ρ ρ2:Ev}(E:REnv K Pr H σ ρ)(hl:σ2.length=ρ2.length)(extra:List (Option V×L))(h:(σ.zip ρ).Perm (σ2.zip ρ2++extra)):REnv K Pr H σ2 ρ2:=by
 have pm:(owns ρ).Perm (owns ρ2++owns (extra.map (·.2))):=by
  have q:=owns_perm (h.map (·.2))
  rw[List.map_append,owns_zip E.len,owns_zip hl,owns_append]at q
  exact q
 refine⟨E.sub,(List.nodup_append.mp (pm.nodup_iff.mp E.nd)).1,fun a ha=>E.off a (pm.mem_iff.mpr (List.mem_append_left _ ha)),paired_iff.mpr ⟨hl,fun p hp=>?_⟩⟩
 exact(paired_iff.mp E.sl).2 p (h.mem_iff.mpr (List.mem_append_left _ hp))
theorem capSt_app{fi:List Nat}{σ τ:St}(h:∀j∈fi,j<σ.length):capSt fi (σ++τ)=capSt fi σ:=by
 unfold capSt
 refine List.map_congr_left fun j hj=>?_
 rw[List.getElem?_append_left (h j hj)]
theorem capsOf_app{fi:List Nat}{σ τ:Ev}(h:∀j∈fi,j<σ.length):capsOf fi (σ++τ)=capsOf fi σ:=by
 unfold capsOf
 refine List.map_congr_left fun j hj=>?_
 rw[List.getElem?_append_left (h j hj)]
theorem unsAt_app{τ:Ev}:∀{fi:List Nat}{ρ:Ev},(∀j∈fi,j<ρ.length)→unsAt fi (ρ++τ)=unsAt fi ρ++τ
 |[],_,_=>rfl
 | j::r,ρ,h=>by
  unfold unsAt
  rw[unsAt_app fun i hi=>h i (List.mem_cons_of_mem _ hi),List.set_append_left _ _ (by rw[unsAt_len];exact h j List.mem_cons_self)]
theorem putAll_app{τ:Ev}:∀{fi:List Nat}{cs ρ:Ev},(∀j∈fi,j<ρ.length)→putAll fi cs (ρ++τ)=putAll fi cs ρ++τ
 |[],[],_,_=>rfl
 |[],_::_,_,_=>rfl
 |_::_,[],_,_=>rfl
 | j::r,c::cs,ρ,h=>by
  unfold putAll
  rw[List.set_append_left _ _ (h j List.mem_cons_self)]
  exact putAll_app fun i hi=>by rw[List.length_set];exact h i (List.mem_cons_of_mem _ hi)
theorem lookup_relabel_free {env:Env}:∀{names:List (Str×NameKind)} {x:Str},names.lookup x=some .free →
  (names.map fun (n,k)=>if (k == NameKind.free && env.scope.kind == .function && env.kindOf n == some .cell) then (n,NameKind.cell) else (n,k)).lookup x=some .cell ∨
  (names.map fun (n,k)=>if (k == NameKind.free && env.scope.kind == .function && env.kindOf n == some .cell) then (n,NameKind.cell) else (n,k)).lookup x=some .free
 | [],_,h=>by simp at h
 | (n,k)::r,x,h=>by
  have ih:=@lookup_relabel_free env r x
  rw [List.map_cons]
  cases hx:x == n with
  | true =>
   simp only [List.lookup_cons,hx] at h
   cases h
   dsimp only
   by_cases hc:(NameKind.free == NameKind.free && env.scope.kind == .function && env.kindOf n == some .cell)=true
   ·
    left;rw [if_pos hc];simp [List.lookup_cons,hx]
   ·
    right;rw [if_neg hc];simp [List.lookup_cons,hx]
  | false =>
   simp only [List.lookup_cons,hx] at h
   dsimp only
   by_cases hc:(k == NameKind.free && env.scope.kind == .function && env.kindOf n == some .cell)=true
   ·
    rw [if_pos hc];simp only [List.lookup_cons,hx];exact ih h
   ·
    rw [if_neg hc];simp only [List.lookup_cons,hx];exact ih h
theorem relabel_mem {env:Env}:∀{names:List (Str×NameKind)} {x:Str} {k:NameKind},(∀y∈names,y.2≠.cell)→(k=.cell∨k=.free) →
  (names.map fun (n,k)=>if (k == NameKind.free && env.scope.kind == .function && env.kindOf n == some .cell) then (n,NameKind.cell) else (n,k)).lookup x=some k→(x,NameKind.free)∈names
 | [],_,_,_,_,h=>by simp at h
 | (n,k0)::r,x,k,hc,hk,h=>by
  rw [List.map_cons] at h
  dsimp only at h
  by_cases q:(k0 == NameKind.free && env.scope.kind == .function && env.kindOf n == some .cell)=true
  ·
   rw [if_pos q,List.lookup_cons] at h
   have e0:k0=.free:=by
    have:=(Bool.and_eq_true_iff.mp (Bool.and_eq_true_iff.mp q).1).1
    simpa using this
   split at h
   ·
    rename_i e
    have:x=n:=by simpa using e
    subst this e0
    exact List.mem_cons_self
   ·
    exact List.mem_cons_of_mem _ (relabel_mem (fun y hy=>hc y (List.mem_cons_of_mem _ hy)) hk h)
  ·
   rw [if_neg q,List.lookup_cons] at h
   split at h
   ·
    rename_i e
    have:x=n:=by simpa using e
    subst this
    have e1:k0=k:=by simpa using h
    subst e1
    rcases hk with z|z
    ·
     exact absurd z (hc (x,k0) List.mem_cons_self)
    ·
     subst z;exact List.mem_cons_self
   ·
    exact List.mem_cons_of_mem _ (relabel_mem (fun y hy=>hc y (List.mem_cons_of_mem _ hy)) hk h)
section
variable{prog:Program}{w:World}{A:Around}{R:Result→Shared→Prop}
theorem comp_loop{elt target iter:Expr}{ifs:List Expr}{scope:Scope}{pos:Pos}{it acc:Value}{env:Env}(I:Nat→Shared→Prop)
  (turn:∀n s,I n s→wpAny (model prog w) A (pyNext it) (fun r s₁=>match r with
   |none=>R (.ok .next) s₁
   | some v=>wpAny (model prog w) A (letOwnedTupleGo target it v) (fun _ s₀=>wpAny (model prog w) A (assign target env v) (fun _ s₂ =>
     wpAny (model prog w) A (forIn ifs true fun c r=>if r=true then do let ok ← isTrue c env (eval c env);pure (ForInStep.yield ok)else pure (ForInStep.yield r)) (fun ok s₃ =>
      if ok=true then wpAny (model prog w) A (eval elt env) (fun x s₄ =>
       wpAny (model prog w) A (call (.builtin "list.append") [acc,x]) (fun _ s₅=>∃ m,m < n∧I m s₅) (fun _ _=>False) s₄) (fun _ _=>False) s₃
      else ∃m,m<n∧I m s₃) (fun _ _=>False) s₂) (fun _ _=>False) s₀) (fun _ _=>False) s₁) (fun _ _=>False) s)
  (n:Nat) {s:Shared} (h:I n s) :
  codeAny (model prog w) A (.compLoop (.ListComp elt [⟨target,iter,ifs,0⟩] scope pos) 0 it acc env) R s:=by
 refine codeAny_loop rfl I (fun n s hI=>?_) n h
 show wpAny _ A ((compTurn (.ListComp elt [⟨target,iter,ifs,0⟩] scope pos) 0 it acc env).onRaise (fun x=>do noteFrame x env;theTreesLotGoes x)) _ _ s
 refine wpAny_noted ?_
 rw[compTurn_list]
 have fe:∀{α:Type}{t:Sem α}{Q:α→Shared→Prop}{E:Value→Shared→Prop}{s:Shared},wpAny (model prog w) A t Q (fun _ _=>False) s→wpAny (model prog w) A t Q E s:=fun h=>wpAny_mono h (fun _ _ q=>q) fun _ _ z=>z.elim
 refine wpAny_bind (wpAny_standAt (wpAny_bind (wpAny_mono (turn n s hI) (fun r s₁ h₁=>?_) fun _ _ h'=>h'.elim)))
 cases r with
 |none=>exact wpAny_pure h₁
 | some v =>
  refine wpAny_bind (wpAny_mono h₁ (fun _ s₀ h₀=>?_) fun _ _ z=>z.elim)
  refine wpAny_bind (wpAny_mono h₀ (fun _ s₂ h₂=>wpAny_bind (wpAny_mono h₂ (fun ok s₃ h₃=>?_) fun _ _ h'=>h'.elim)) fun _ _ h'=>h'.elim)
  cases ok with
  |false=>exact wpAny_pure ⟨rfl,h₃⟩
  | true =>
   exact wpAny_bind (wpAny_bind (wpAny_mono h₃ (fun x s₄ h₄=>wpAny_bind (wpAny_mono h₄ (fun _ s₅ h₅=>wpAny_pure (wpAny_pure ⟨rfl,h₅⟩)) fun _ _ h'=>h'.elim)) fun _ _ h'=>h'.elim))
end
def PTc(X:Cx)(tg:Expr)(n:Nat)(g:Tg):Prop:=∃gg:TG,PG X tg gg∧∀v σ H Pr ρ x k,σ.length=X.N.length→REnv X.K Pr H σ ρ→Rep X.K H v x→g x ρ k→gg v σ H fun σ' H'=>H'=H∧σ'.drop n=σ.drop n∧∃ρ',REnv X.K Pr H σ' ρ'∧k ρ'
theorem tc_name{X:Cx}{i n:Nat}{x:Str}{pos:Pos}(hn:i<n)(hN:X.N.Nodup)(hi:X.N[i]?=some x)(hx:Loc X.env.scope x)(hf:X.fn x=true∨X.env.scope.names.lookup x=some .local:=by first|exact .inl rfl|exact .inr rfl|assumption):PTc X (.Name x pos) n (tgName i) :=
 ⟨_,pg_name hN hi hx hf,fun v σ H Pr ρ x k hl E r h=>⟨rfl,by rw[List.drop_set_of_lt hn],_,(E.cons_d r).store (by rw[hl];exact(List.getElem?_eq_some_iff.mp hi).1),h⟩⟩
def PIf(X:Cx)(ifs:List Expr)(t:W Bool):Prop :=
 ∀(pins:List (Addr×Obj))(s:Shared)(σ:St)(H Pr:Hp)(ρ:Ev)(post:Bool→Ev→Prop),Inv X pins σ H s→REnv X.K Pr H σ ρ→t ρ post →
  wpAny (model X.prog X.w) X.A (forIn ifs true fun c r=>if r=true then do let ok ← isTrue c X.env (eval c X.env);pure (ForInStep.yield ok)else pure (ForInStep.yield r)) (EB X pins σ Pr post) X.xe s
def wTrue:W Bool:=fun ρ post=>post true ρ
theorem pif_nil{X:Cx}:PIf X [] wTrue:=fun pins s σ H Pr ρ post I E h=>wpAny_tests_nil ⟨H,ρ,I,E,h⟩
theorem pif_one{X:Cx}{c:Expr}{t:W Bool}(h:PB X c t):PIf X [c] t:=fun pins s σ H Pr ρ post I E ht=>wpAny_tests_one (h pins s σ H Pr ρ post I E ht)
def compL(g:Tg)(ti:W Bool)(te:W L):List D→Ev→List D→(List D→Ev→Prop)→Prop
 |[],ρ,acc,k=>k acc ρ
 |x::xs,ρ,acc,k=>g x ρ fun ρ1=>ti ρ1 fun b ρ2=>if b=true then te ρ2 fun r ρ3=>toD r fun y=>compL g ti te xs ρ3 (acc++[y]) k else compL g ti te xs ρ2 acc k
def wComp(n:Nat)(fi:List Nat)(src:W (List D))(g:Tg)(ti:W Bool)(te:W L):W L:=fun ρ post=>src ρ fun xs ρ1=>xs.length≤sizeLine ∧
 compL g ti te xs (List.replicate n .un++capsOf fi ρ1) [] fun ys ρb=>∀a,post (.own a ys) (putAll fi (ρb.drop n) (unsAt fi ρ1))
section
variable{X:Cx}
theorem comp_core {elt tg iter:Expr} {ifs:List Expr} {scope sc:Scope} {pos:Pos} {N Nt Nf:List Str} {fi:List Nat} {src:W (List D)} {g:Tg} {ti:W Bool} {te:W L}
  (hsc:X.env.scope=sc) (hXN:X.N=N) (hc:X.calm=true) (hi:PIL X tg iter src)
  (hkind:scope.kind=.function) (hnames:∀x∈scope.names,x.2=.local→scope.names.lookup x.1=some .local) (hcell:∀y∈scope.names,y.2≠.cell)
  (hfr:∀x∈scope.names,x.2=.free→sc.names.lookup x.1=some .cell∨sc.names.lookup x.1=some .free)
  (hnd:fi.Nodup) (hNf:Nf.map some=fi.map (fun j=>N[j]?)) (hNk:∀x∈Nf,scope.names.lookup x=some .free) (hfl:∀j∈fi,j <N.length)
  (hg:∀cl s₀ H₀ fp,PTc (cxComp X scope cl (Nt++Nf) s₀ H₀ fp) tg Nt.length g) (hti:∀cl s₀ H₀ fp,PIf (cxComp X scope cl (Nt++Nf) s₀ H₀ fp) ifs ti) (hte:∀cl s₀ H₀ fp,PL (cxComp X scope cl (Nt++Nf) s₀ H₀ fp) elt te)
  {pins:List (Addr×Obj)} {s:Shared} {σ:St} {H Pr:Hp} {ρ:Ev} {post:L→Ev→Prop} {use:Option (Value→Sem Unit)} {Q:Value→Shared→Prop} (I:Inv X pins σ H s) (E:REnv X.K Pr H σ ρ) (h:wComp Nt.length fi src g ti te ρ post)
  (hRR:∀D C s7 H6 acc ρ'' m,Inv X pins σ H6 s7→s7.heap.Ns C m→H6 C=none→C≠X.env.locals→X.s₀.heap.objs.size≤C→(∀x c,X.env.cells.lookup x=some c→c≠C)→(∀p∈X.pn++pins,p.1≠C)→REnv X.K Pr H6 (some (.ref D)::σ) (.own D acc::ρ'')→post (.own D acc) ρ'' →
   compPost (model X.prog X.w) X.A X.xe use Q (.ref D) C (.ok .next) s7)
  (hs:∀x,foldedSetIterable iter X.env x=pure x):wpAny (model X.prog X.w) X.A (comprehension (.ListComp elt [⟨tg,iter,ifs,0⟩] scope pos) scope X.env (firstIterPos [⟨tg,iter,ifs,0⟩] pos) (newList []) false (eval iter X.env) use) Q X.xe s:=by
 have hcells:∀x∈scope.names,x.2=.free→∃c,X.env.cells.lookup x.1=some c:=fun x hx hk=>I.ok.has x.1 (by
  show X.env.scope.names.lookup x.1=_∨X.env.scope.names.lookup x.1=_
  rw [hsc];exact hfr x hx hk)
 have hsub:=clOf_sub (cells:=X.env.cells) scope.names [] (fun x c e=>by simp at e)
 refine wpAny_comprehension_free (use:=use) rfl hs (closureFor_cl hcells) hkind hnames (thn (hi pins s σ H Pr ρ _ I E h) fun v s1 h1=>thn h1 fun itv s2 h2=>?_)
 obtain ⟨it,fp,tn,J,H2,xs,ρ2,e,I2,T,st2,f2,E2,G,hlen,w0⟩:=h2
 subst e
 refine wpAny_newObj_type (T:="list") ?_
 generalize hD:s2.heap.objs.size=D
 have fD:H2 D=none:=by rw [← hD];exact I2.fresh
 have I3:Inv X pins σ (upd H2 D (.lst [])) { s2 with heap:=s2.heap.push { cls:=.type "list",dict:=none,data:=.seq ([]:List Value).toArray } }:=by
  have:=Inv.lnew (ys:=[]) (its:=[]) (t':=s2.toks) I2 .nil (Nat.zero_le _)
  rw [hD] at this
  exact this
 have E3:=E2.cons_own (p:=D) (vs:=[]) (xs:=[]) fD .nil
 have sz3:(s2.heap.push { cls:=.type "list",dict:=none,data:=.seq ([]:List Value).toArray }).objs.size=D+1:=by rw [Heap.size_push,hD]
 generalize hs3:({ s2 with heap:=s2.heap.push { cls:=.type "list",dict:=none,data:=.seq ([]:List Value).toArray } }:Shared)=s3 at I3
 have hs3h:s3.heap=s2.heap.push { cls:=.type "list",dict:=none,data:=.seq ([]:List Value).toArray }:=by rw [← hs3]
 have fpD:∀b∈fp,b≠D:=fun b hb=>by
  obtain ⟨o,e,_⟩:=T.obj 0 _ st2 b hb
  rw [← hD];exact Nat.ne_of_lt (Heap.lt_size e)
 have old3:∀b o,s2.heap.get? b=some o→s3.heap.get? b=some o:=fun b o e=>by rw [hs3h];exact Heap.get?_push_of_some _ e
 refine wpAny_newFunctionEnv (around:=some X.env) hcell (by intro y hy;simp at hy) (fun h4 hns4 hsb4=>?_) hkind
 have hns4':h4.Ns s3.heap.objs.size (fun _=>none):=by
  have:(fun x=>(([]:List (Str×Value)).reverse.lookup x))=fun _=>(none:Option Value):=by funext x;rfl
  rw [this] at hns4
  exact hns4
 have old4:∀b o,s3.heap.get? b=some o→h4.get? b=some o:=fun b o e=>by
  rw [hsb4.2 b (Nat.ne_of_lt (Heap.lt_size e))];exact Heap.get?_push_of_some _ e
 have hσl:σ.length=N.length:=by rw [← hXN];exact I.len
 have hρ2:σ.length=ρ2.length:=E2.len
 have hjσ:∀j∈fi,j <σ.length:=fun j hj=>by rw [hσl];exact hfl j hj
 have hjρ:∀j∈fi,j <ρ2.length:=fun j hj=>by rw [← hρ2];exact hjσ j hj
 have hfpl:∀b∈fp,b <s3.heap.objs.size:=fun b hb=>by
  obtain ⟨o,e,_⟩:=T.obj 0 _ st2 b hb
  exact Heap.lt_size (old3 b o e)
 have hlNf:Nf.length=fi.length:=by have:=congrArg List.length hNf;simpa using this
 have Bok:(cxComp X scope (clOf X.env.cells scope.names []) (Nt++Nf) s3 (upd H2 D (.lst [])) fp).Ok:=by
  refine ⟨I3.ok.mod,hkind,I.ok.glob,I.ok.blt,Nat.le_refl _,fun x y c e1 e2=>I.ok.inj x y c (hsub x c e1) (hsub y c e2),fun x hx=>?_,fun x c hf _=>(Bool.false_ne_true hf).elim,I.ok.hd,I.ok.frames,.inl rfl,fun b hb=>⟨Nat.ne_of_lt (hfpl b hb),fun x c e=>(f2 b hb).2.2.2.2.1 x c (hsub x c e)⟩,I3.bs,Nat.le_trans I.ok.bsz I3.sz,fun b o e hb=>?_,fun b hb hm=>?_,I3.stack,I3.stkFree,I3.tbs⟩
  ·
   have hm:(x,NameKind.free)∈scope.names:=by
    rcases hx with hx|hx
    ·
     exact relabel_mem (env:=X.env) hcell (.inl rfl) hx
    ·
     exact relabel_mem (env:=X.env) hcell (.inr rfl) hx
   exact clOf_has scope.names [] x (.inr ⟨hm,hcells _ hm rfl⟩)
  ·
   rcases (f2 b hb).2.2.2.1 with z|z
   ·
    exact I.ok.noex b o e z
   ·
    exact absurd (Nat.lt_of_lt_of_le (Heap.lt_size (I.ok.bs b o e).1) z) (Nat.lt_irrefl _)
  ·
   rcases List.mem_cons.mp (I3.stkSub b hm) with z|z
   ·
    exact (f2 b hb).2.1 z
   ·
    exact (f2 b hb).2.2.1 z
 have I4:Inv (cxComp X scope (clOf X.env.cells scope.names []) (Nt++Nf) s3 (upd H2 D (.lst [])) fp) [] (List.replicate Nt.length none++capSt fi σ) (upd H2 D (.lst [])) { s3 with heap:=h4,toks:=s3.toks+([]:List (Str×Value)).length }:=by
  refine ⟨Bok,rfl,I3.bare,Un.kept old4,⟨_,hns4',fun i x v e1 e2 e3=>?_⟩,fun x c e=>?_,I3.fresh,fun x c e=>(I3.freeC x c (hsub x c e)).imp id fun z=>⟨rfl,z.2⟩,fun p hp=>absurd (show p∈([]:List (Addr×Obj)) from hp) (by simp),I3.hok.kept old4,?_⟩
  ·
   have e1:(Nt++Nf)[i]?=some x:=e1
   have hi':Nt.length≤i:=by
    by_cases q:i <Nt.length
    ·
     rw [List.getElem?_append_left (by simpa using q),List.getElem?_replicate] at e2
     split at e2<;>cases e2
    ·
     omega
   rw [List.getElem?_append_right hi'] at e1
   rw [List.getElem?_append_right (by simpa using hi')] at e2
   simp only [List.length_replicate] at e2
   generalize i - Nt.length=k at e1 e2
   have hk:k <fi.length:=by
    have:=(List.getElem?_eq_some_iff.mp e1).1
    omega
   have e4:(Nf.map some)[k]?=(fi.map fun j=>N[j]?)[k]?:=by rw [hNf]
   rw [List.getElem?_map,List.getElem?_map,e1,List.getElem?_eq_getElem hk] at e4
   have e5:N[fi[k]]?=some x:=by simpa using e4.symm
   have e6:σ[fi[k]]?=some (some v):=by
    unfold capSt at e2
    rw [List.getElem?_map,List.getElem?_eq_getElem hk] at e2
    have hjl:=hjσ fi[k] (List.getElem_mem hk)
    rw [List.getElem?_eq_getElem hjl]
    simpa [List.getElem?_eq_getElem hjl] using e2
   have hxm:x∈Nf:=List.mem_of_getElem? e1
   have hfree:=hNk x hxm
   have hmem:(x,NameKind.free)∈scope.names:=PySem.mem_of_lookup hfree
   have hkx:=hfr _ hmem rfl
   obtain ⟨m,_,hl⟩:=I3.loc
   obtain ⟨u,ru,lk⟩:=hl fi[k] x v (by rw [hXN];exact e5) e6 (by rw [hsc];exact .inr hkx)
   refine ⟨u,ru,.inr ⟨lookup_relabel_free (env:=X.env) hfree,?_⟩⟩
   rcases lk with ⟨z,_⟩|⟨_,c,hc1,hc2⟩
   ·
    have z:X.env.scope.names.lookup x=some .local:=z
    rw [hsc] at z
    rcases hkx with q|q
    ·
     rw [z] at q;cases q
    ·
     rw [z] at q;cases q
   ·
    obtain ⟨d,hd⟩:=clOf_has (cells:=X.env.cells) scope.names [] x (.inr ⟨hmem,c,hc1⟩)
    have:d=c:=by have:=hsub x d hd;rw [hc1] at this;exact (Option.some.inj this).symm
    subst this
    obtain ⟨o,ho,hdd⟩:=hc2
    exact ⟨d,hd,o,old4 _ o ho,hdd⟩
  ·
   obtain ⟨v,o,ho,hd⟩:=I3.cell x c (hsub x c e)
   exact ⟨v,o,old4 c o ho,hd⟩
  ·
   show (List.replicate Nt.length none++capSt fi σ).length=(Nt++Nf).length
   simp [capSt,hlNf]
 have E4:REnv X.K Pr (upd H2 D (.lst [])) (some (.ref D)::(σ++(List.replicate Nt.length none++capSt fi σ))) (.own D []::(unsAt fi ρ2++(List.replicate Nt.length .un++capsOf fi ρ2))):=by
  have a1:REnv X.K Pr (upd H2 D (.lst [])) (σ++[some (.ref D)]) (ρ2++[.own D []]):=E3.rearr (by simp [hρ2]) [] (by
   rw [List.append_nil,List.zip_append hρ2]
   exact (List.perm_append_comm (l₁:=[(some (V.ref D),L.own D [])]) (l₂:=σ.zip ρ2)))
  have a2:=a1.takes fi hnd fun j hj=>by have:=hjρ j hj;simp;omega
  rw [capSt_app hjσ,capsOf_app hjρ,unsAt_app hjρ] at a2
  have a3:=a2.uns Nt.length
  have hcl:(capSt fi σ).length=(capsOf fi ρ2).length:=by simp [capSt,capsOf]
  have hul:σ.length=(unsAt fi ρ2).length:=by rw [unsAt_len];exact hρ2
  refine a3.rearr (by simp [hul,hcl]) [] ?_
  have l1:(capSt fi σ++(σ++[some (V.ref D)])++List.replicate Nt.length none).zip (capsOf fi ρ2++(unsAt fi ρ2++[L.own D []])++List.replicate Nt.length L.un)=((capSt fi σ).zip (capsOf fi ρ2)++(σ.zip (unsAt fi ρ2)++[(some (V.ref D),L.own D [])]))++(List.replicate Nt.length none).zip (List.replicate Nt.length L.un):=by
   rw [List.zip_append (by simp only [List.length_append,hcl,hul];rfl),List.zip_append hcl,List.zip_append hul]
   rfl
  have l2:(some (V.ref D)::(σ++(List.replicate Nt.length none++capSt fi σ))).zip (L.own D []::(unsAt fi ρ2++(List.replicate Nt.length L.un++capsOf fi ρ2)))=(some (V.ref D),L.own D [])::(σ.zip (unsAt fi ρ2)++((List.replicate Nt.length none).zip (List.replicate Nt.length L.un)++(capSt fi σ).zip (capsOf fi ρ2))):=by
   rw [List.zip_cons_cons,List.zip_append hul,List.zip_append (by simp)]
  rw [List.append_nil,l1,l2]
  generalize (capSt fi σ).zip (capsOf fi ρ2)=z1
  generalize σ.zip (unsAt fi ρ2)=z2
  generalize (List.replicate Nt.length none).zip (List.replicate Nt.length L.un)=z3
  show (z1++(z2++[(some (V.ref D),L.own D [])])++z3).Perm ((some (V.ref D),L.own D [])::(z2++(z3++z1)))
  have p1:(z1++(z2++[(some (V.ref D),L.own D [])])++z3).Perm ((z2++[(some (V.ref D),L.own D [])])++z3++z1):=by
   rw [List.append_assoc]
   exact List.perm_append_comm
  refine p1.trans ?_
  rw [List.append_assoc,List.append_assoc]
  exact List.perm_middle
 clear E3
 let B:Cx:=cxComp X scope (clOf X.env.cells scope.names []) (Nt++Nf) s3 (upd H2 D (.lst [])) fp
 have hul:σ.length=(unsAt fi ρ2).length:=by rw [unsAt_len];exact hρ2
 have stat:∀{H':Hp},(∀b∈fp,H' b=none)→∀b∈fp,FpOk B [] H' b:=fun hn b hb=>by
  refine ⟨hn b hb,Nat.ne_of_lt (hfpl b hb),fun hm=>?_,.inl hb,fun x c e=>(f2 b hb).2.2.2.2.1 x c (hsub x c e),fun p hp=>absurd (show p∈([]:List (Addr×Obj)) from hp) (by simp)⟩
  rcases List.mem_cons.mp (I3.stkSub b hm) with z|z
  ·
   exact (f2 b hb).2.1 z
  ·
   exact (f2 b hb).2.2.1 z
 have loop:∀s5:Shared,s5={ s3 with heap:=h4,toks:=s3.toks+([]:List (Str×Value)).length }→codeAny (model X.prog X.w) X.A (.compLoop (.ListComp elt [⟨tg,iter,ifs,0⟩] scope pos) 0 (.ref it) (.ref D) B.env)
   (compPost (model X.prog X.w) X.A X.xe use Q (.ref D) s3.heap.objs.size) s5:=by
  rintro s5 rfl
  refine comp_loop (fun n s'=>∃i σ' H' ρ' acc,n+i=xs.length∧Inv B [] σ' H' s'∧tn i s'.heap∧(∀b∈fp,H' b=none)∧σ'.drop Nt.length=capSt fi σ∧REnv X.K Pr H' (some (.ref D)::(σ++σ')) (.own D acc::(unsAt fi ρ2++ρ'))∧acc.length≤i ∧
   compL g ti te (xs.drop i) ρ' acc fun ys ρb=>∀a,post (.own a ys) (putAll fi (ρb.drop Nt.length) (unsAt fi ρ2))) ?_ xs.length
   ⟨0,_,_,_,[],by omega,I4,T.keep 0 _ _ st2 fun b hb o e=>old4 b o (old3 b o e),fun b hb=>by rw [upd_ne (fpD b hb)];exact (f2 b hb).1,by simp,E4,Nat.le_refl _,by simpa using w0⟩
  rintro n s6 ⟨i,σ6,H6,ρ6,acc,hn,I6,st6,fr6,dr6,E6,hal,w6⟩
  have pr:Pres H2 H6:=fun b o p e=>by
   have ne:b≠D:=fun z=>by rw [z,fD] at e;cases e
   have e':B.H₀ b=some o:=by show upd H2 D (.lst []) b=some o;rw [upd_ne ne];exact e
   cases o with
   | tup ys=>exact I6.base.tups b ys e'
   | frz ob u=>exact I6.base.frzs b ob u e'
   | tbl t=>exact I6.base.tbls b t e'
   | _=>exact p.elim
  obtain ⟨go,stop⟩:=G H6 pr
  have hτ:(some (V.ref D)::σ).length=(L.own D acc::unsAt fi ρ2).length:=by simp [hul]
  by_cases hlt:i <xs.length
  ·
   obtain ⟨hgo,hy⟩:=go i xs[i] (List.getElem?_eq_getElem hlt)
   rw [List.drop_eq_getElem_cons hlt] at w6
   refine thn (T.item B rfl rfl rfl hc i [] s6 σ6 H6 (fun _ _=>False) I6 (stat fr6) st6 hgo) fun r s7 ⟨u,hr,h7⟩=>?_
   subst hr
   refine thn h7 fun _ s8 ⟨x,H8,I8,r8,y8,st8,fr8⟩=>?_
   obtain ⟨gr,rx⟩:=hy x H8 y8
   have I8':=I8.pinned (stat fr8) (T.obj _ _ st8)
   have E8:=E6.grown gr
   have E8a:REnv X.K (butOwn H8 ρ6) H8 σ6 ρ6:=(REnv.drop (τ:=some (V.ref D)::σ) (lam:=L.own D acc::unsAt fi ρ2) E8 hτ).wide
   obtain ⟨gg,hgg,hgs⟩:=hg (clOf X.env.cells scope.names []) s3 (upd H2 D (.lst [])) fp
   refine thn (hgg _ s8 σ6 H8 x u _ I8' r8 (hgs x σ6 H8 _ ρ6 xs[i] _ I8.len E8a rx w6)) fun _ s9 ⟨σ9,H9,I9,e9,dr9,ρ9,E9,q9⟩=>?_
   subst e9
   have F9:REnv X.K Pr H9 (some (V.ref D)::(σ++σ9)) (L.own D acc::(unsAt fi ρ2++ρ9)):=REnv.step (τ:=some (V.ref D)::σ) (lam:=L.own D acc::unsAt fi ρ2) (w:=[]) (μ:=[]) E8 hτ E9 rfl
   have F9a:REnv X.K (butOwn H9 ρ9) H9 σ9 ρ9:=(REnv.drop (τ:=some (V.ref D)::σ) (lam:=L.own D acc::unsAt fi ρ2) F9 hτ).wide
   refine thn (hti _ _ _ _ _ s9 σ9 H9 _ ρ9 _ I9 F9a q9) fun ok sA ⟨HA,ρA,IA,EA,qA⟩=>?_
   have FA:REnv X.K Pr HA (some (V.ref D)::(σ++σ9)) (L.own D acc::(unsAt fi ρ2++ρA)):=REnv.step (τ:=some (V.ref D)::σ) (lam:=L.own D acc::unsAt fi ρ2) (w:=[]) (μ:=[]) F9 hτ EA rfl
   have again:∀{sZ:Shared} {HZ:Hp} {ρZ:Ev} {acc':List L2.D},Inv B ([]++pinsAt fp s8.heap) σ9 HZ sZ→REnv X.K Pr HZ (some (.ref D)::(σ++σ9)) (.own D acc'::(unsAt fi ρ2++ρZ))→acc'.length≤i+1 →
     (compL g ti te (xs.drop (i+1)) ρZ acc' fun ys ρb=>∀a,post (.own a ys) (putAll fi (ρb.drop Nt.length) (unsAt fi ρ2)))→∃m,m <n∧∃i σ' H' ρ' acc,m+i=xs.length∧Inv B [] σ' H' sZ∧tn i sZ.heap∧(∀b∈fp,H' b=none)∧σ'.drop Nt.length=capSt fi σ ∧
     REnv X.K Pr H' (some (.ref D)::(σ++σ')) (.own D acc::(unsAt fi ρ2++ρ'))∧acc.length≤i∧compL g ti te (xs.drop i) ρ' acc fun ys ρb=>∀a,post (.own a ys) (putAll fi (ρb.drop Nt.length) (unsAt fi ρ2)):=fun {sZ HZ ρZ acc'} IZ EZ hz qZ=>by
    refine ⟨n - 1,by omega,i+1,σ9,HZ,ρZ,acc',by omega,IZ.unpinned,T.keep _ _ _ st8 fun b hb o e=>(IZ.pin (b,o) (List.mem_append_right _ (List.mem_append_right _ (mem_pinsAt hb e)))).1,fun b hb=>?_,dr9.trans dr6,EZ,hz,qZ⟩
    obtain ⟨o,e,d⟩:=T.obj _ _ st8 b hb
    exact (IZ.pin (b,o) (List.mem_append_right _ (List.mem_append_right _ (mem_pinsAt hb e)))).2.1
   cases ok with
   | false =>
    rw [if_neg Bool.false_ne_true] at qA ⊢
    exact again IA FA (by omega) qA
   | true =>
    rw [if_pos rfl] at qA ⊢
    have FAa:REnv X.K (butOwn HA ρA) HA σ9 ρA:=(REnv.drop (τ:=some (V.ref D)::σ) (lam:=L.own D acc::unsAt fi ρ2) FA hτ).wide
    refine thn (hte _ _ _ _ _ sA σ9 HA _ ρA _ IA FAa qA) fun ux sB qB=>?_
    obtain ⟨vy,HB,y,ρB,IB,rB,EB,qB⟩:=EL.frz (X:=B) (post:=fun y ρ3=>compL g ti te (xs.drop (i+1)) ρ3 (acc++[y]) fun ys ρb=>∀a,post (.own a ys) (putAll fi (ρb.drop Nt.length) (unsAt fi ρ2))) qB
    have FB:REnv X.K Pr HB (some vy::(some (V.ref D)::(σ++σ9))) (.d y::(L.own D acc::(unsAt fi ρ2++ρB))):=REnv.step (τ:=some (V.ref D)::σ) (lam:=L.own D acc::unsAt fi ρ2) (w:=[some vy]) (μ:=[.d y]) FA hτ EB rfl
    obtain ⟨_,e1,p1⟩:=FB.head_d
    cases e1
    have slB:=FB.tail.sl
    cases slB with
    | cons q0 _ =>
     obtain ⟨_,vs,hDB,rvs⟩:=q0
     refine thn (mt_append (X:=B) _ sB σ9 HB (.ref D) [vy] (.ref D) [ux] (fun z H'=>H'=upd HB D (.lst (vs++[vy]))) IB rfl (.cons rB .nil) ⟨D,vs,vy,rfl,rfl,hDB,by rw [rvs.length];omega,rfl⟩) fun _ sC ⟨z,HC,IC,_,eC⟩=>?_
     subst eC
     exact again IC (FB.tail.write (rvs.append (.cons p1 .nil))) (by simp;omega) qB
  ·
   have e:i=xs.length:=by omega
   subst e
   refine thn (T.done B rfl rfl rfl hc xs.length [] s6 σ6 H6 (fun _ _=>False) I6 (stat fr6) st6 stop) fun r s7 ⟨hr,I7⟩=>?_
   subst hr
   rw [List.drop_length] at w6
   obtain ⟨m,hm,_⟩:=id I7.loc
   have I8:Inv X pins σ H6 s7:=I3.call' (ch:=fp) I7.os I7.base I7.hok I7.bare fun b hb=>⟨(f2 b hb).2.2.2.1,(f2 b hb).2.1,(f2 b hb).2.2.2.2.1,(f2 b hb).2.2.2.2.2⟩
   have f4:=I3.fpOk (H':=H6) (b:=s3.heap.objs.size) (Nat.le_refl _) I7.free
   ·
    have hlen6:σ6.length=ρ6.length:=(REnv.drop (τ:=some (V.ref D)::σ) (lam:=L.own D acc::unsAt fi ρ2) E6 hτ).len
    have a1:REnv X.K Pr H6 (capSt fi σ++(σ++[some (V.ref D)])) (ρ6.drop Nt.length++(unsAt fi ρ2++[L.own D acc])):=by
     have hcd:(capSt fi σ).length=(ρ6.drop Nt.length).length:=by rw [← dr6,List.length_drop,List.length_drop,hlen6]
     refine E6.rearr (by simp [hcd,hul,hlen6]) ((σ6.take Nt.length).zip (ρ6.take Nt.length)) ?_
     have l0:σ6.zip ρ6=(σ6.take Nt.length).zip (ρ6.take Nt.length)++(capSt fi σ).zip (ρ6.drop Nt.length):=by
      rw [← dr6,← List.zip_append (by simp [hlen6]),List.take_append_drop,List.take_append_drop]
     have l1:(some (V.ref D)::(σ++σ6)).zip (L.own D acc::(unsAt fi ρ2++ρ6))=(some (V.ref D),L.own D acc)::(σ.zip (unsAt fi ρ2)++σ6.zip ρ6):=by rw [List.zip_cons_cons,List.zip_append hul]
     have l2:(capSt fi σ++(σ++[some (V.ref D)])).zip (ρ6.drop Nt.length++(unsAt fi ρ2++[L.own D acc]))=(capSt fi σ).zip (ρ6.drop Nt.length)++(σ.zip (unsAt fi ρ2)++[(some (V.ref D),L.own D acc)]):=by
      rw [List.zip_append hcd,List.zip_append hul];rfl
     rw [l1,l2,l0]
     generalize (capSt fi σ).zip (ρ6.drop Nt.length)=z1
     generalize σ.zip (unsAt fi ρ2)=z2
     generalize (σ6.take Nt.length).zip (ρ6.take Nt.length)=z3
     have p1:((some (V.ref D),L.own D acc)::(z2++(z3++z1))).Perm ((z2++[(some (V.ref D),L.own D acc)])++(z3++z1)):=by
      rw [List.append_assoc]
      exact List.perm_middle.symm
     refine p1.trans ?_
     have p2:((z2++[(some (V.ref D),L.own D acc)])++(z3++z1)).Perm ((z3++z1)++(z2++[(some (V.ref D),L.own D acc)])):=List.perm_append_comm
     refine p2.trans ?_
     rw [List.append_assoc]
     exact List.perm_append_comm
    have a2:=REnv.backs (σ:=σ++[some (V.ref D)]) (cs:=ρ6.drop Nt.length) (ρ:=unsAt fi ρ2++[L.own D acc]) fi hnd (by rw [List.length_drop,← hlen6,← List.length_drop,dr6];simp [capSt]) (fun j hj=>by
     rw [List.getElem?_append_left (by rw [unsAt_len];exact hjρ j hj)];exact unsAt_un fi ρ2 j hj (hjρ j hj)) (fun j hj=>by have:=hjσ j hj;simp;omega) (by rw [capSt_app hjσ];exact a1)
    rw [putAll_app fun j hj=>by rw [unsAt_len];exact hjρ j hj] at a2
    have hpl:σ.length=(putAll fi (ρ6.drop Nt.length) (unsAt fi ρ2)).length:=by have:=a2.len;simpa using this
    refine hRR D s3.heap.objs.size s7 H6 acc (putAll fi (ρ6.drop Nt.length) (unsAt fi ρ2)) m I8 hm f4.1 f4.2.1 I3.sz f4.2.2.2.2.1 f4.2.2.2.2.2 (a2.rearr (by simp [hpl]) [] ?_) (w6 D)
    rw [List.append_nil,List.zip_append hpl,List.zip_cons_cons]
    exact List.perm_append_comm (l₂:=[(some (V.ref D),L.own D acc)])
 exact codeAny_compStart_list (loop _ rfl) (T.self _ 0 _ _ _ (T.keep 0 _ _ st2 fun b hb o e=>old4 b o (old3 b o e)) (loop _ rfl))
theorem pl_comp{elt tg iter:Expr}{ifs:List Expr}{scope sc:Scope}{pos:Pos}{N Nt Nf:List Str}{fi:List Nat}{src:W (List D)}{g:Tg}{ti:W Bool}{te:W L}
  (hsc:X.env.scope=sc) (hXN:X.N=N) (hc:X.calm=true) (hi:PIL X tg iter src)
  (hkind:scope.kind=.function) (hnames:∀x∈scope.names,x.2=.local→scope.names.lookup x.1=some .local) (hcell:∀y∈scope.names,y.2≠.cell)
  (hfr:∀x∈scope.names,x.2=.free→sc.names.lookup x.1=some .cell∨sc.names.lookup x.1=some .free)
  (hnd:fi.Nodup) (hNf:Nf.map some=fi.map (fun j=>N[j]?)) (hNk:∀x∈Nf,scope.names.lookup x=some .free) (hfl:∀j∈fi,j<N.length)
  (hg:∀cl s₀ H₀ fp,PTc (cxComp X scope cl (Nt++Nf) s₀ H₀ fp) tg Nt.length g) (hti:∀cl s₀ H₀ fp,PIf (cxComp X scope cl (Nt++Nf) s₀ H₀ fp) ifs ti) (hte:∀cl s₀ H₀ fp,PL (cxComp X scope cl (Nt++Nf) s₀ H₀ fp) elt te)
  (hs:∀x,foldedSetIterable iter X.env x=pure x:=by intro _;rfl):PL X (.ListComp elt [⟨tg,iter,ifs,0⟩] scope pos) (wComp Nt.length fi src g ti te):=by
 intro pins s σ H Pr ρ post I E h
 rw[eval_ListComp]
 refine comp_core (use:=none) hsc hXN hc hi hkind hnames hcell hfr hnd hNf hNk hfl hg hti hte I E h (fun D C s7 H6 acc ρ'' m I7 hm h1 h2 h3 h4 h5 E7 p=>?_) hs
 exact⟨m,hm,fun h' hsb=>⟨.ref D,H6,_,ρ'',I7.turned (t':=s7.toks) (fun b o hb e=>(hsb.2 b hb).trans e) h1 (Ne.symm (Ne.symm h2)) (.inr h3) h4 h5,rfl,E7,p⟩⟩
theorem pm_setC{elt tg iter:Expr}{ifs:List Expr}{scope sc:Scope}{pos spos py:Pos}{y:Str}{j:Nat}{N Nt Nf:List Str}{fi:List Nat}{src:W (List D)}{g:Tg}{ti:W Bool}{te:W L}
  (hN:X.N.Nodup) (hj:X.N[j]?=some y) (hy:Loc X.env.scope y)
  (hsc:X.env.scope=sc) (hXN:X.N=N) (hc:X.calm=true) (hi:PIL X tg iter src)
  (hkind:scope.kind=.function) (hnames:∀x∈scope.names,x.2=.local→scope.names.lookup x.1=some .local) (hcell:∀y∈scope.names,y.2≠.cell)
  (hfr:∀x∈scope.names,x.2=.free→sc.names.lookup x.1=some .cell∨sc.names.lookup x.1=some .free)
  (hnd:fi.Nodup) (hNf:Nf.map some=fi.map (fun j=>N[j]?)) (hNk:∀x∈Nf,scope.names.lookup x=some .free) (hfl:∀j∈fi,j<N.length)
  (hg:∀cl s₀ H₀ fp,PTc (cxComp X scope cl (Nt++Nf) s₀ H₀ fp) tg Nt.length g) (hti:∀cl s₀ H₀ fp,PIf (cxComp X scope cl (Nt++Nf) s₀ H₀ fp) ifs ti) (hte:∀cl s₀ H₀ fp,PL (cxComp X scope cl (Nt++Nf) s₀ H₀ fp) elt te)
  (hsw:swapsWith (.ListComp elt [⟨tg,iter,ifs,0⟩] scope pos) (some (.Name y py)) spos.line X.env=pure true:=by rfl) (hf:X.fn y=true∨X.env.scope.names.lookup y=some .local:=by first|exact .inl rfl|exact .inr rfl|assumption)
  (hs:∀x,foldedSetIterable iter X.env x=pure x:=by intro _;rfl):PM X (.Assign [.Name y py] (.ListComp elt [⟨tg,iter,ifs,0⟩] scope pos) spos) (wSet j (wComp Nt.length fi src g ti te)):=by
 intro pins s σ H Pr ρ post I E h
 rw[exec_Assign_Name_used _ _ _ _ hsw]
 refine wpAny_bind (wpAny_standAt (wpAny_bind ?_))
 show wpAny _ X.A (do let _ ← comprehension (.ListComp elt [⟨tg,iter,ifs,0⟩] scope pos) scope X.env (firstIterPos [⟨tg,iter,ifs,0⟩] pos) (newList []) false (eval iter X.env) (some (assign (.Name y py) X.env))) _ _ s
 refine wpAny_bind (thn (comp_core (use:=some (assign (.Name y py) X.env)) (Q:=fun _ s'=>SM X pins Pr post .next s') (post:=fun r ρ1=>post .nx (ρ1.set j r)) hsc hXN hc hi hkind hnames hcell hfr hnd hNf hNk hfl hg hti hte I E h (fun D C s7 H6 acc ρ'' m I7 hm h1 h2 h3 h4 h5 E7 p=>?_) hs) fun _ s' hq=>wpAny_pure (wpAny_pure hq))
 show wpAny _ X.A (assign (.Name y py) X.env (.ref D)) _ _ _
 refine wpAny_assign_Name (store_ok2 (v:=.ref D) I7 hN hj hy rfl (fun s8 I8 ⟨a,sb,ha⟩=>?_) hf)
 have hCa:C≠a:=by
  rcases ha with z|z
  ·
   rw[z];exact h2
  ·
   exact fun q=>h4 y a z q.symm
 refine⟨m,hm.sameBut sb hCa,fun h' hsb=>⟨_,H6,_,I8.turned (t':=s8.toks) (fun b o hb e=>(hsb.2 b hb).trans e) h1 h2 (.inr h3) h4 h5,E7.store (by rw[I7.len];exact(List.getElem?_eq_some_iff.mp hj).1),p⟩⟩
end
section
variable{X:Cx}{a b:Expr}{pos:Pos}{ta tb:W L}{x y:Str}
def wPar(i j:Nat)(ta tb:W L):W Fl:=fun ρ post=>ta ρ fun r ρ1=>toD r fun v=>tb ρ1 fun r2 ρ2=>toD r2 fun w=>post .nx ((ρ2.set i (.d v)).set j (.d w))
theorem pm_par{i j:Nat}{px py pt:Pos} {kt k2 pt2} (hc:X.calm=true) (hN:X.N.Nodup) (hi:X.N[i]?=some x) (hj:X.N[j]?=some y) (hij:i≠j)
  (hx:X.env.scope.names.lookup x=some .local) (hy:X.env.scope.names.lookup y=some .local) (ha:PL X a ta) (hb:PL X b tb)
  (hw:swappedStores [.Tuple [.Name x px,.Name y py] kt pt] (.Tuple [a,b] k2 pt2) X.env=pure (some [x,y]))
  (hs:swapsWithSole [.Tuple [.Name x px,.Name y py] kt pt] (.Tuple [a,b] k2 pt2) pos.line X.env=pure false:=by rfl)
  (h1:starEach [a,b] X.env=(false,eval a X.env)::starEach [b] X.env:=by rfl) (h2:starEach [b] X.env=[(false,eval b X.env)]:=by rfl) :
  PM X (.Assign [.Tuple [.Name x px,.Name y py] kt pt] (.Tuple [a,b] k2 pt2) pos) (wPar i j ta tb):=by
 refine PM.of (ps_par hc hN hi hj hij hx hy (pa_cons (pl_frz ha).pe (pa_cons (pl_frz hb).pe pa_nil h2) h1) hw hs) fun σ H Pr ρ post hlen E h=>?_
 refine⟨Pr,ρ,fun r ρ1=>match r with
  |.d v=>tb ρ1 fun r2 ρ2=>toD r2 fun w=>post .nx ((ρ2.set i (.d v)).set j (.d w))
  |_=>False,E,h,fun v H1 r ρ1 E1 pp=>?_⟩
 cases r with
 | d dv =>
  refine⟨butOwn H1 ρ1,ρ1,fun r ρ2=>match r with
   |.d w=>post .nx ((ρ2.set i (.d dv)).set j (.d w))
   |_=>False,E1.tail.wide,pp,fun w H2 r2 ρ2 E2 pp=>?_⟩
  cases r2 with
  | d dw =>
   have E3:REnv X.K Pr H2 (some w::some v::σ) (.d dw::.d dv::ρ2):=REnv.step (τ:=[some v]) (lam:=[.d dv]) (w:=[some w]) (μ:=[.d dw]) E1 rfl E2 rfl
   have il:i<σ.length:=by rw[hlen];exact(List.getElem?_eq_some_iff.mp hi).1
   have jl:j<σ.length:=by rw[hlen];exact(List.getElem?_eq_some_iff.mp hj).1
   obtain⟨_,e1,r1⟩:=E3.head_d
   cases e1
   have E4:REnv X.K Pr H2 (σ.set i (some v)) (ρ2.set i (.d dv)):=E3.tail.store il
   exact⟨v,w,rfl,_,(E4.cons_d r1).store (by simpa using jl),pp⟩
  |_=>exact pp.elim
 |_=>exact pp.elim
def flatD:D→Bool
 |.non=>true | .bl _=>true | .int _=>true | .str _=>true
 |_=>false
def eqF:D→D→Bool
 |.non,.non=>true
 |.bl a,.bl b=>a == b
 |.bl a,.int b=>(if a then 1 else 0) == b
 |.int a,.bl b=>a == (if b then 1 else 0)
 |.int a,.int b=>a == b
 |.str a,.str b=>a == b
 |_,_=>false
theorem flat_rep{K:PySem.W.Frag}{H:Hp}{v:V}{d:D}(r:Rep K H v d)(h:flatD d=true):flatV v=true:=by
 cases r<;>first|rfl|(exact absurd h (by simp[flatD]))
theorem eqF_eq{K:PySem.W.Frag}{H:Hp}{v w:V}{d f:D}(r:Rep K H v d)(q:Rep K H w f)(h:flatD d=true)(h':flatD f=true):eqV v w=eqF d f:=by
 cases r<;>cases q<;>first|rfl|(exact absurd h (by simp[flatD]))|(exact absurd h' (by simp[flatD]))
def inF(x:D)(ys:List D):Bool:=ys.any fun y=>eqF y x
theorem inF_eq{K:PySem.W.Frag}{H:Hp}{v:V}{x:D}(r:Rep K H v x)(h:flatD x=true):∀{vs:List V}{ys:List D},Reps K H vs ys→ys.all flatD=true→inV v vs=inF x ys∧vs.all flatV=true
 |_,_,.nil,_=>⟨rfl,rfl⟩
 | _,_,.cons r0 t,ha=>by
  rw[List.all_cons,Bool.and_eq_true]at ha
  obtain⟨i1,i2⟩:=inF_eq r h t ha.2
  unfold inV inF at i1 ⊢
  rw[List.any_cons,List.any_cons,List.all_cons,i1,eqF_eq r0 r ha.1 h,flat_rep r0 ha.1,i2]
  exact⟨rfl,rfl⟩
def opInF(neg:Bool):Op2:=fun x y k=>flatD x=true∧itemsOf y fun ys=>ys.all flatD=true∧k (.d (.bl (if neg then !inF x ys else inF x ys)))
theorem od_in:OpD X (compareOp .In) (opInF false):=OpD.of op_in_seq fun σ H Pr ρ x y dx dy post E px py ⟨hx,h⟩=>by
 cases py with
 | lst hz rs =>
  obtain⟨ha,h⟩:=h
  obtain⟨i1,i2⟩:=inF_eq px hx rs ha
  exact⟨_,_,rfl,.inl hz.l,flat_rep px hx,i2,_,E.cons_d (.bl _),by rw[i1];exact h⟩
 | tup hz rs =>
  obtain⟨ha,h⟩:=h
  obtain⟨i1,i2⟩:=inF_eq px hx rs ha
  exact⟨_,_,rfl,.inr hz,flat_rep px hx,i2,_,E.cons_d (.bl _),by rw[i1];exact h⟩
 |_=>exact h.elim
def wSl(ta:W L)(lo hi:Option (W L)):W L:=fun ρ post=>ta ρ fun r ρ1=>toD r fun d=>wPart lo ρ1 fun l ρ2=>wPart hi ρ2 fun u ρ3=>match d with
 |.lst xs=>∀a,post (.own a (cutD xs l u)) ρ3
 |_=>False
def wRev(ta:W L):W L:=fun ρ post=>ta ρ fun r ρ1=>toD r fun d=>match d with
 |.lst xs=>∀a,post (.own a xs.reverse) ρ1
 |_=>False
end
section
variable{X:Cx}{a b:Expr}{pos p2 p3 p4:Pos}{ta:W L}{x:Str}{k4:Nat}
theorem pl_rev(ha:PL X a ta):PL X (.Subscript a (.Slice none none (some (.UnaryOp .USub (.Constant (.int 1) k4 p3) p4)) p2) pos) (wRev ta):=by
 intro pins s σ H Pr ρ post I E h
 refine Subscript_ (thn (ha pins s σ H Pr ρ _ I E h) fun v s1 q=>?_)
 obtain⟨x,H1,d,ρ1,I1,r1,E1,q1⟩:=EL.frz (post:=fun d ρ1=>match d with
  |.lst xs=>∀a,post (.own a xs.reverse) ρ1
  |_=>False) q
 refine wpAny_Slice ?_
 rw[evalPart_none]
 refine wpAny_pure ?_
 refine wpAny_pure ?_
 rw[evalPart_some]
 refine thn (pl_neg (X:=X) (pl_int (i:=1)) pins s1 σ H1 _ ρ1 (fun r ρ2=>r=.d (.int (-1))∧ρ2=ρ1) I1 E1.tail.wide ⟨rfl,rfl⟩) fun u s2 ⟨z,H2,r,ρ2,I2,rz,E2,er,eρ⟩=>?_
 subst er eρ
 obtain⟨_,e1,p1⟩:=E2.head_d
 cases e1
 cases p1
 obtain⟨t,rfl⟩:=rz
 have F2:REnv X.K Pr H2 (some x::σ) (.d d::ρ2):=REnv.step (τ:=[some x]) (lam:=[.d d]) (w:=[]) (μ:=[]) E1 rfl E2.tail rfl
 have I3:Inv X pins σ H2 {s2 with heap:=s2.heap.push {cls:=.type "slice",data:=.fields #[.none,.none,.int (-1) t] } }:=I2.kept (t':=s2.toks) fun b ob q=>Heap.get?_push_of_some _ q
 obtain⟨_,e1,p1⟩:=F2.head_d
 cases e1
 cases p1 with
 | @lst l0 vs0 ds0 hz rs =>
  cases r1
  obtain⟨its,r,pl,hzz⟩:=I3.list hz.l
  have hlen:=r.length
  show wpAny (model X.prog X.w) X.A (subscriptTail a _ (.ref _) (.ref s2.heap.objs.size)) (EL X pins σ Pr post) X.xe {s2 with heap:=s2.heap.push {cls:=.type "slice",data:=.fields #[.none,.none,.int (-1) t] } }
  refine tail_any pl.isList.typeIs slot_list_getitem.lookup ?_ (by with_unfolding_all rfl)
  refine wpAny_getItem_list_slice pl.isList (Heap.IsSliceOf.new ..) .none .none (.int (-1) t) (by simp) ?_ (by rw[List.size_toArray];omega)
  rw[PySem.W.krv_pick]
  have I4:=I3.lnew (t':=s2.toks) r.reverse (by rw[List.length_reverse];exact hzz)
  exact⟨.ref _,upd H2 _ (.lst vs0.reverse),_,ρ2,I4,rfl,F2.tail.cons_own I3.fresh rs.reverse,q1 _⟩
 |_=>exact q1.elim
end
def selW{α:Type}(o:Option L)(t u:W α)(ρ:Ev)(post:α→Ev→Prop):Prop:=match o with
 |some (.own _ _)=>t ρ post
 |_=>u ρ post
def wIsOwn{α:Type}(i:Nat)(t u:W α):W α:=fun ρ post=>selW ρ[i]? t u ρ post
theorem selW_own{α:Type}(a:Addr)(xs:List D)(t u:W α)(ρ:Ev)(post:α→Ev→Prop):selW (some (.own a xs)) t u ρ post=t ρ post:=(rfl)
theorem selW_d{α:Type}(x:D)(t u:W α)(ρ:Ev)(post:α→Ev→Prop):selW (some (.d x)) t u ρ post=u ρ post:=(rfl)
theorem selW_bx{α:Type}(a:Option Addr)(ls:List L)(t u:W α)(ρ:Ev)(post:α→Ev→Prop):selW (some (.bx a ls)) t u ρ post=u ρ post:=(rfl)
theorem pl_own{X:Cx}{e:Expr}{i:Nat}{t u:W L}(h:PL X e t)(h':PL X e u):PL X e (wIsOwn i t u):=fun pins s σ H Pr ρ post I E q=>by
 unfold wIsOwn selW at q
 split at q
 ·
  exact h pins s σ H Pr ρ post I E q
 ·
  exact h' pins s σ H Pr ρ post I E q
theorem kit_exc{K:PySem.W.Frag}{c:Str}{C:Addr}{T:String}(h:excStd K c C=true)(hm:PySem.W.kitMeta T=true):PySem.W.kitOne K (.ref C) (.type T)=some ((["ValueError","Exception","BaseException","object"]:List String).contains T):=by
 obtain⟨L,cd,S⟩:=excStd_is h
 unfold PySem.W.kitOne PySem.W.kitCls
 rw[if_neg (show ¬((Value.ref C == Value.type T)=true)from fun z=>by cases z)]
 dsimp only
 rw[if_pos hm]
 show PySem.W.mroIn K C (.type T)=_
 rw[S.mroIn,xmro_type]
theorem kit_of{T:String}(h0:∀K d,(∀c ns xs,d≠.exc c ns xs)→PySem.W.kitOne K (tyD d) (.type T)=some (isTy T d))(hm:PySem.W.kitMeta T=true):∀K d t,TyD K d t→PySem.W.kitOne K t (.type T)=some (isTy T d):=by
 intro K d t h
 cases d with
 | exc c ns xs =>
  obtain⟨C,e,h⟩:=h
  rw[e]
  exact kit_exc h hm
 |_=>cases h;exact h0 K _ (fun _ _ _ z=>nomatch z)
theorem kit_list:∀ K d t,TyD K d t→PySem.W.kitOne K t (.type "list")=some (isTy "list" d):=kit_of (fun K d hd=>by cases d <;> first | rfl | exact absurd rfl (hd _ _ _)) (by decide +kernel)
theorem kit_tuple:∀ K d t,TyD K d t→PySem.W.kitOne K t (.type "tuple")=some (isTy "tuple" d):=kit_of (fun K d hd=>by cases d <;> first | rfl | exact absurd rfl (hd _ _ _)) (by decide +kernel)
theorem reps_ints{K:PySem.W.Frag}{H:Hp}:∀ns:List Int,Reps K H (ns.map V.int) (ns.map D.int)
 |[]=>.nil
 |n::ns=>.cons (.int n) (reps_ints ns)
theorem law_start{K:PySem.W.Frag}{H:Hp}{a:Addr}{ns:List Int}{fs:FS}{n:Nat}(hl:ns.length≤n)(hO:Only H)(hS:SqL K H a (ns.map V.int))(h:fs [.d (.lst (ns.map .int))] (fun r _=>r=.d (.bl true))):spF K 1 fs [.ref a] H (fun v _=>v=.bl true) fun _ _ _=>False:=by
 have hz:SqZ K H a (ns.map V.int):=by
  rcases hS with(h|⟨o,h⟩)|h
  ·
   rcases hO a with z|⟨o,xs,z⟩|⟨q,z⟩
   ·
    rw[z]at h;cases h
   ·
    rw[z]at h;cases h
   ·
    rw[z]at h;cases h
  ·
   exact .inl ⟨o,h⟩
  ·
   exact .inr h
 refine⟨rfl,fun _=>none,[.d (.lst (ns.map .int))],_,⟨(fun b o e=>nomatch e),(show([]:List Addr).Nodup from List.nodup_nil),(fun a h=>absurd (show a∈([]:List Addr)from h) (by simp)),.cons ⟨.ref a,rfl,.lst hz (reps_ints ns)⟩ .nil⟩,h,fun v H' r ls' E p=>?_⟩
 subst p
 obtain⟨_,e,r⟩:=E.head_d
 cases e
 cases r
 rfl
end L2
namespace L2
open PySem
theorem gcd_fmod(a b:Int):Int.gcd b (a.fmod b)=Int.gcd a b:=by
 rw[Int.fmod_def,Int.gcd_sub_mul_left_right,Int.gcd_comm]
theorem natAbs_fmod_lt(a:Int){b:Int}(h:b≠0):(a.fmod b).natAbs<b.natAbs:=by
 rw[Int.fmod_eq_emod]
 have h1:=Int.emod_nonneg a h
 have h2:a % b<(b.natAbs:Int):=Int.emod_lt a h
 split
 ·
  omega
 ·
  rename_i q
  have:a % b≠0:=fun e=>q (.inr (Int.dvd_of_emod_eq_zero e))
  omega
def frD(q:Rat):D:=.tup [.int q.num,.int (q.den:Int)]
theorem gcd_pos{t b:Int}(h:b≠0):0<Int.gcd t b:=Int.gcd_pos_of_ne_zero_right _ h
def shareOf(t b:Int):Int:=if b<0 then -(Int.gcd t b:Int)else(Int.gcd t b:Int)
theorem share_ne{t b:Int}(h:b≠0):shareOf t b≠0:=by
 have:=gcd_pos (t:=t) h
 unfold shareOf
 split<;>omega
theorem share_abs(t b:Int):(shareOf t b).natAbs=Int.gcd t b:=by
 unfold shareOf
 split<;>omega
theorem share_le{t b:Int}(h:b≠0):(shareOf t b).natAbs≤b.natAbs:=by
 rw[share_abs]
 exact Nat.le_of_dvd (by omega) (by have:=Int.gcd_dvd_right t b;exact Int.natAbs_dvd_natAbs.mpr this |> fun q=>by simpa using q)
theorem fdiv_neg_of{a g:Int}(hg:g≠0)(h:g∣a):a.fdiv (-g)=-(a / g):=by
 obtain⟨k,rfl⟩:=h
 rw[Int.mul_ediv_cancel_left _ hg,show g*k=(-g)*(-k) by rw[Int.neg_mul_neg],Int.mul_fdiv_cancel_left _ (by omega)]
theorem low_num{t b:Int}(h:b≠0):t.fdiv (shareOf t b)=(Rat.divInt t b).num:=by
 have hg:=gcd_pos (t:=t) h
 have hd:(Int.gcd t b:Int)∣t:=Int.gcd_dvd_left t b
 rw[Rat.num_divInt,Int.gcd_comm b t]
 unfold shareOf
 split
 ·
  rename_i hb
  rw[fdiv_neg_of (by omega) hd,Int.sign_eq_neg_one_of_neg hb,Int.neg_one_mul,Int.neg_ediv_of_dvd hd]
 ·
  rename_i hb
  rw[Int.sign_eq_one_of_pos (by omega),Int.one_mul,Int.fdiv_eq_ediv_of_nonneg _ (by omega)]
theorem low_den{t b:Int}(h:b≠0):b.fdiv (shareOf t b)=((Rat.divInt t b).den:Int):=by
 have hg:=gcd_pos (t:=t) h
 have hd:(Int.gcd t b:Int)∣b:=Int.gcd_dvd_right t b
 rw[Rat.den_divInt,if_neg h,Int.gcd_comm b t,Int.natCast_ediv]
 unfold shareOf
 split
 ·
  rename_i hb
  rw[fdiv_neg_of (by omega) hd,← Int.neg_ediv_of_dvd hd]
  congr 1
  omega
 ·
  rename_i hb
  rw[Int.fdiv_eq_ediv_of_nonneg _ (by omega)]
  congr 1
  omega
theorem den_le{t b:Int}(h:b≠0):(Rat.divInt t b).den≤b.natAbs:=by
 rw[Rat.den_divInt,if_neg h]
 exact Nat.div_le_self _ _
theorem num_le{t b:Int}(h:b≠0):(Rat.divInt t b).num.natAbs≤t.natAbs:=by
 rw[← low_num h]
 exact PySem.natAbs_fdiv_le _ _
theorem den_pos(q:Rat):0<q.den:=Nat.pos_of_ne_zero q.den_nz
theorem add_eq(p q:Rat):Rat.divInt (p.num*(q.den:Int)+q.num*(p.den:Int)) ((p.den:Int)*(q.den:Int))=p+q:=by
 have hp:=den_pos p
 have hq:=den_pos q
 have:=Rat.divInt_add_divInt p.num q.num (d₁:=(p.den:Int)) (d₂:=(q.den:Int)) (by omega) (by omega)
 rw[Rat.num_divInt_den,Rat.num_divInt_den]at this
 exact this.symm
def RB(n:Nat)(q:Rat):Prop:=q.num.natAbs<2^n∧q.den<2^n
theorem RB.mono{m n:Nat}{q:Rat}(h:RB m q)(hl:m≤n):RB n q:=⟨Nat.lt_of_lt_of_le h.1 (Nat.pow_le_pow_right (by decide) hl),Nat.lt_of_lt_of_le h.2 (Nat.pow_le_pow_right (by decide) hl)⟩
theorem mul_lt_pow{a b m n:Nat}(h1:a<2^m)(h2:b<2^n):a*b<2^(m+n):=by
 rw[Nat.pow_add]
 exact Nat.mul_lt_mul'' h1 h2
theorem RB.add{m n:Nat}{p q:Rat}(hp:RB m p)(hq:RB n q):RB (m+n+1) (p+q):=by
 have dp:=den_pos p
 have dq:=den_pos q
 have hne:((p.den:Int)*(q.den:Int))≠0:=Int.mul_ne_zero (by omega) (by omega)
 rw[← add_eq p q]
 have a1:=mul_lt_pow hp.1 hq.2
 have a2:=mul_lt_pow hq.1 hp.2
 have a3:=mul_lt_pow hp.2 hq.2
 have e:(2:Nat)^(m+n+1)=2^(m+n)+2^(m+n):=by rw[Nat.pow_succ];omega
 rw[Nat.add_comm n m]at a2
 constructor
 ·
  refine Nat.lt_of_le_of_lt (num_le hne) ?_
  refine Nat.lt_of_le_of_lt (Int.natAbs_add_le _ _) ?_
  rw[Int.natAbs_mul,Int.natAbs_mul,Int.natAbs_natCast,Int.natAbs_natCast,e]
  omega
 ·
  refine Nat.lt_of_le_of_lt (den_le hne) ?_
  rw[Int.natAbs_mul,Int.natAbs_natCast,Int.natAbs_natCast,e]
  omega
@[simp] theorem eqD_int(i j:Int):eqD (.int i) (.int j)=decide (i=j):=by
 simp[eqD,toP,PyData.eqv]
 by_cases h:i=j<;>simp[h]
@[simp] theorem eqD_str(i j:Str):eqD (.str i) (.str j)=decide (i=j):=by
 simp[eqD,toP,PyData.eqv]
 by_cases h:i=j<;>simp[h]
@[simp] theorem eqD_bl(i j:Bool):eqD (.bl i) (.bl j)=decide (i=j):=by
 simp[eqD,toP,PyData.eqv]
 cases i<;>cases j<;>rfl
@[simp] theorem shapeD_int(i:Int):shapeD (.int i):=rfl
@[simp] theorem shapeD_bl(i:Bool):shapeD (.bl i):=rfl
@[simp] theorem shapeD_non:shapeD .non:=rfl
mutual
def okD:Nat→D→Bool
 |_,.non=>true
 |_,.bl _=>true
 |_,.int _=>true
 |_,.str x=>PyData.strOk x
 |0,.tup _=>false
 |0,.lst _=>false
 |n+1,.tup xs=>okDs n xs
 |n+1,.lst xs=>okDs n xs
 |_,.dct _=>false
 |_,.exc _ _ _=>false
 |_,.fn _ _=>false
def okDs:Nat→List D→Bool
 |_,[]=>true
 |n,x::xs=>okD n x && okDs n xs
end
mutual
theorem okD_lay:∀(n:Nat)(d:D),okD n d=true→(toP d).canLay0=true∧(toP d).depth≤n
 |_,.non,_=>⟨rfl,Nat.zero_le _⟩
 |_,.bl _,_=>⟨rfl,Nat.zero_le _⟩
 |_,.int _,_=>⟨rfl,Nat.zero_le _⟩
 |_,.str x,h=>⟨by simpa[okD,toP,PyData.canLay0]using h,Nat.zero_le _⟩
 |0,.tup _,h=>by simp[okD]at h
 |0,.lst _,h=>by simp[okD]at h
 | n+1,.tup xs,h=>by
  obtain⟨h1,h2⟩:=okDs_lay n xs (by simpa[okD]using h)
  exact⟨h1,Nat.succ_le_succ h2⟩
 | n+1,.lst xs,h=>by
  obtain⟨h1,h2⟩:=okDs_lay n xs (by simpa[okD]using h)
  exact⟨h1,Nat.succ_le_succ h2⟩
 |_,.dct _,h=>by simp[okD]at h
 |_,.exc _ _ _,h=>by simp[okD]at h
 |_,.fn _ _,h=>by simp[okD]at h
theorem okDs_lay:∀(n:Nat)(ds:List D),okDs n ds=true→PyData.canLayAll0 (toPs ds)=true∧PyData.depthAll (toPs ds)≤n
 |_,[],_=>⟨rfl,Nat.zero_le _⟩
 | n,d::ds,h=>by
  have h':okD n d=true∧okDs n ds=true:=by simpa[okDs]using h
  obtain⟨a1,a2⟩:=okD_lay n d h'.1
  obtain⟨b1,b2⟩:=okDs_lay n ds h'.2
  exact⟨by simp[toPs,PyData.canLayAll0,a1,b1],by simp only[toPs,PyData.depthAll];omega⟩
end
theorem shape_ok{n:Nat}{d:D}(h:okD n d=true)(hn:n≤64):shapeD d:=by
 obtain⟨h1,h2⟩:=okD_lay n d h
 unfold shapeD SeqAt.shaped
 rw[h1,decide_eq_true (by omega)]
 rfl
theorem eqD_tup(xs ys:List D):eqD (.tup xs) (.tup ys)=PyData.eqvAll (toPs xs) (toPs ys):=by simp[eqD,toP,PyData.eqv]
theorem eqDs_cons(x y:D)(xs ys:List D):PyData.eqvAll (toPs (x::xs)) (toPs (y::ys))=(eqD x y && PyData.eqvAll (toPs xs) (toPs ys)):=by simp[toPs,PyData.eqvAll,eqD]
theorem eqDs_nil:PyData.eqvAll (toPs []) (toPs [])=true:=by simp[toPs,PyData.eqvAll]
theorem eqD_refl{n:Nat}{d:D}(h:okD n d=true):eqD d d=true:=SeqAt.eqv_refl _ (okD_lay n d h).1
theorem shape_fr(q:Rat):shapeD (frD q):=shape_ok (n:=1) (by simp[frD,okD,okDs]) (by decide)
theorem eqD_fr(p q:Rat):eqD (frD p) (frD q)=decide (p=q):=by
 unfold frD
 rw[eqD_tup,eqDs_cons,eqDs_cons,eqDs_nil,eqD_int,eqD_int,Bool.and_true]
 by_cases h:p=q
 ·
  subst h;simp
 ·
  rw[decide_eq_false h]
  by_cases h1:p.num=q.num
  ·
   have:¬((p.den:Int)=(q.den:Int)):=fun e=>h (Rat.ext h1 (by omega))
   simp[this]
  ·
   simp[h1]
end L2
namespace L2
open PySem PySem.Spec PyProof.Rows
section
variable{X:Cx}{a b c:Expr}{pos p:Pos}{ta tb tc:W L}
def wChain(o o':Op2)(ta tb tc:W L):W L:=fun ρ post=>ta ρ fun r ρ1=>toInt r fun i=>tb ρ1 fun r ρ2=>toInt r fun j=>o (.int i) (.int j) fun z=>isBl z fun k=>if k=true then tc ρ2 fun r ρ3=>toInt r fun l=>o' (.int j) (.int l) fun z=>post z ρ3 else post (.d (.bl false)) ρ2
def CmpI(X:Cx)(op:CmpOp)(o:Op2):Prop:=∃f:Int→Int→Bool,OpR X (compareOp op) (rI0 fun i j=>.bl (f i j))∧∀i j k,o (.int i) (.int j) k→k (.d (.bl (f i j)))
theorem ci_lt:CmpI X .Lt opLt:=⟨_,op_lt,fun _ _ _ h=>h⟩
theorem ci_le:CmpI X .LtE opLe:=⟨_,op_le,fun _ _ _ h=>h⟩
theorem chain_te{op op':CmpOp}{o o':Op2}{f f':Int→Int→Bool}(h1:∀i j k,o (.int i) (.int j) k→k (.d (.bl (f i j))))(h2:∀i j k,o' (.int i) (.int j) k→k (.d (.bl (f' i j))))
  (σ:St) (H Pr:Hp) (ρ:Ev) (post:L→Ev→Prop) (Q:VK) (hQ:∀v H' r ρ',REnv X.K Pr H' (some v::σ) (r::ρ')→post r ρ'→Q v H') (E:REnv X.K Pr H σ ρ) (h:wChain o o' ta tb tc ρ post) :
  tChain (rI0 fun i j=>.bl (f i j)) (rI0 fun i j=>.bl (f' i j)) (tL X.K ta) (tL X.K tb) (tL X.K tc) σ H Q:=by
 refine⟨Pr,ρ,_,E,h,fun v H1 r ρ1 E1 p=>?_⟩
 obtain⟨i,rfl,p⟩:=toInt_is p
 obtain⟨_,e1,r1⟩:=E1.head_d
 cases e1
 cases r1
 refine⟨Pr,ρ1,_,E1.tail,p,fun v H2 r ρ2 E2 p=>?_⟩
 obtain⟨j,rfl,p⟩:=toInt_is p
 obtain⟨_,e1,r1⟩:=E2.head_d
 cases e1
 cases r1
 refine⟨i,j,rfl,rfl,f i j,rfl,?_⟩
 have q:=h1 i j _ p
 cases hk:f i j with
 | false =>
  rw[hk]at q
  exact hQ _ _ _ ρ2 (E2.tail.cons_d (.bl false)) q
 | true =>
  rw[hk]at q
  refine⟨Pr,ρ2,_,E2.tail,q,fun v H3 r ρ3 E3 p=>?_⟩
  obtain⟨l,rfl,p⟩:=toInt_is p
  obtain⟨_,e1,r1⟩:=E3.head_d
  cases e1
  cases r1
  exact⟨j,l,rfl,rfl,hQ _ _ _ ρ3 (E3.tail.cons_d (.bl _)) (h2 j l _ p)⟩
theorem pb_chain{op op':CmpOp}{o o':Op2}(ho:CmpI X op o)(ho':CmpI X op' o')(ha:PL X a ta)(hb:PL X b tb)(hc:PL X c tc)(hm:lastMarks [op,op'] [b,c]=false:=by with_unfolding_all rfl) :
  PB X (.Compare a [op,op'] [b,c] pos) (wTest (wChain o o' ta tb tc)):=by
 obtain⟨f,r1,h1⟩:=ho
 obtain⟨f',r2,h2⟩:=ho'
 intro pins s σ H Pr ρ post I E h
 refine thn (pt_chain r1 r2 ha.pe hb.pe hc.pe hm pins s σ H (fun b H'=>∃ρ',REnv X.K Pr H' σ ρ'∧post b ρ') I ?_) fun b s1 ⟨H1,I1,ρ1,E1,p1⟩=>⟨H1,ρ1,I1,E1,p1⟩
 refine chain_te (op:=op) (op':=op') h1 h2 σ H Pr ρ (fun r ρ1=>isBl r fun b=>post b ρ1) _ (fun v H' r ρ' E' p=>?_) E h
 obtain⟨b,rfl,p⟩:=isBl_is p
 obtain⟨_,e1,r1⟩:=E'.head_d
 cases e1
 cases r1
 exact⟨b,rfl,ρ',E'.tail,p⟩
end
end L2
namespace L2
open PySem PySem.Spec PyProof.Rows PySem.Builtin.Str
section
variable{X:Cx}{es:List Expr}{pos:Pos}{x:Str}
def PTcs(X:Cx)(es:List Expr)(n:Nat)(is:List Nat):Prop:=∃gg:TGs,PGs X es gg∧es.length=is.length∧∀vs σ H Pr ρ xs k,σ.length=X.N.length→REnv X.K Pr H σ ρ→Reps X.K H vs xs→tgNames is xs ρ k→gg vs σ H fun σ' H'=>H'=H∧σ'.drop n=σ.drop n∧∃ρ',REnv X.K Pr H σ' ρ'∧k ρ'
theorem tcs_nil{n:Nat}:PTcs X [] n []:=⟨_,pgs_nil,rfl,fun vs σ H Pr ρ xs k hl E r h=>by
 cases r with
 |nil=>exact⟨rfl,rfl,rfl,ρ,E,h⟩
 |cons _ _=>exact h.elim⟩
theorem tcs_cons{i n:Nat}{is:List Nat}{x:Str}(hn:i<n)(hN:X.N.Nodup)(hi:X.N[i]?=some x)(hx:Loc X.env.scope x)(hr:PTcs X es n is)(hf:X.fn x=true∨X.env.scope.names.lookup x=some .local:=by first|exact .inl rfl|exact .inr rfl|assumption)
  (hs:(assignEach (.Name x pos::es) X.env).map (·.2)=assign (.Name x pos) X.env::(assignEach es X.env).map (·.2):=by rfl):PTcs X (.Name x pos::es) n (i::is):=by
 obtain⟨gg,hg,hlen,q⟩:=hr
 refine⟨_,pgs_cons (pg_name hN hi hx hf) hg hs,by simp[hlen],fun vs σ H Pr ρ xs k hl E r h=>?_⟩
 cases r with
 |nil=>exact h.elim
 | cons r0 t =>
  refine⟨_,_,rfl,?_⟩
  have:=q _ (σ.set i (some _)) H Pr _ _ k (by simpa using hl) ((E.cons_d r0).store (by rw[hl];exact(List.getElem?_eq_some_iff.mp hi).1)) t h
  rw[List.drop_set_of_lt hn]at this
  exact this
theorem tc_tup{is:List Nat}{k n:Nat}(hc:X.calm=true)(h:PTcs X es n is)(hn:(assignEach es X.env).length=is.length:=by rfl)(hst:(assignEach es X.env).findIdx? (·.1)=none:=by rfl):PTc X (.Tuple es k pos) n (tgTup is):=by
 obtain⟨gg,hg,hlen,q⟩:=h
 refine⟨_,pg_tup hc hg hn hst,fun v σ H Pr ρ x k hl E r h=>?_⟩
 cases r with
 |tup hs rs=>exact⟨_,_,rfl,hs,by rw[rs.length];exact tgNames_len h,q _ σ H Pr ρ _ k hl E rs h⟩
 |_=>exact h.elim
end
end L2
namespace L2
open PySem PySem.Spec PyProof.Rows
mutual
def noL:D→Bool
 |.lst _=>false
 |.dct _=>false
 |.exc _ _ _=>false
 |.fn _ _=>false
 |.tup xs=>noLs xs
 |_=>true
def noLs:List D→Bool
 |[]=>true
 |x::xs=>noL x && noLs xs
end
mutual
def noLr:L→Bool
 |.un=>true
 |.d x=>noL x
 |.own _ xs=>noLs xs
 |.bx _ ls=>noLrs ls
 |.dic _ kvs=>kvs.all fun p=>noL p.2
def noLrs:List L→Bool
 |[]=>true
 |l::ls=>noLr l && noLrs ls
end
theorem noLr_un:noLr .un=true:=by simp[noLr]
theorem noLr_d(x:D):noLr (.d x)=noL x:=by simp[noLr]
theorem noLr_own(a:Addr)(xs:List D):noLr (.own a xs)=noLs xs:=by simp[noLr]
theorem noLr_bx(a:Option Addr)(ls:List L):noLr (.bx a ls)=noLrs ls:=by simp[noLr]
theorem noLr_dic(a:Addr)(kvs:List (Key×D)):noLr (.dic a kvs)=kvs.all fun p=>noL p.2:=by simp[noLr]
theorem noLrs_nil:noLrs []=true:=by simp[noLrs]
theorem noLrs_cons(l:L)(ls:List L):noLrs (l::ls)=(noLr l && noLrs ls):=by simp[noLrs]
section
variable{X:Cx}{pins:List (Addr×Obj)}{σ:St}{H:Hp}{s:Shared}
theorem Inv.thaw{a:Addr}{o:Obj}{xs:List V}(I:Inv X pins σ H s)(h:H a=some (.frz o (.lst xs)))(h0:∀o u,X.H₀ a≠some (.frz o u)):Inv X pins σ (upd H a (.lst xs)) s:=by
 have ne:∀b,H b=none→b≠a:=fun b n e=>by subst e;rw[h]at n;cases n
 have nt:∀b xs,H b=some (.tup xs)→b≠a:=fun b xs n e=>by subst e;rw[h]at n;cases n
 have no:∀b z,H b=some (.own z)→b≠a:=fun b z n e=>by subst e;rw[h]at n;cases n
 have nf:∀b o,H b=some (.frz o (.own b))→b≠a:=fun b o n e=>by subst e;rw[h]at n;cases n
 have nw:=(I.hok a _ h).2
 refine⟨I.ok,I.os,I.bare,⟨I.base.keep,I.base.slot,fun b ob e n hx=>?_,I.base.there,fun b xs e=>?_,fun b ob z e=>?_,fun b ps e=>?_⟩,I.loc,I.cell,?_,fun x c e=>?_,fun p hp=>?_,fun b z e=>?_,I.len⟩
 ·
  have q:=I.base.free b ob e n hx
  rw[upd_ne (ne b q)];exact q
 ·
  have q:=I.base.tups b xs e
  rw[upd_ne (nt b xs q)];exact q
 ·
  have q:=I.base.frzs b ob z e
  rw[upd_ne (fun y=>by subst y;exact h0 _ _ e)];exact q
 ·
  have q:=I.base.tbls b ps e
  rw[upd_ne (fun z=>by subst z;rw[h]at q;cases q)];exact q
 ·
  rw[upd_ne (ne _ I.free)];exact I.free
 ·
  rcases I.freeC x c e with z|⟨hf,o,z⟩
  ·
   exact .inl (by rw[upd_ne (ne _ z)];exact z)
  ·
   exact .inr ⟨hf,o,by rw[upd_ne (nf _ _ z)];exact z⟩
 ·
  obtain⟨e,n,r⟩:=I.pin p hp
  exact⟨e,by rw[upd_ne (ne _ n)];exact n,r⟩
 ·
  by_cases hb:b=a
  ·
   subst hb
   rw[upd_same]at e
   cases e
   exact nw.stay (fun c v _ q=>q) (fun c q=>by rw[upd_ne (no c _ q)];exact q) (fun c xs q=>by rw[upd_ne (nt c xs q)];exact q) fun c ob _ _ q=>by rw[upd_ne (nf c ob q)];exact q
  ·
   rw[upd_ne hb]at e
   exact(I.hok b z e).stay (fun c v _ q=>q) (fun c q=>by rw[upd_ne (no c _ q)];exact q) (fun c xs q=>by rw[upd_ne (nt c xs q)];exact q) fun c ob _ _ q=>by rw[upd_ne (nf c ob q)];exact q
end
def Thawed(H' H2:Hp)(S:List Addr):Prop:=(∀b,b∉S→H2 b=H' b)∧(∀a∈S,∃o vs,H' a=some (.frz o (.lst vs))∧H2 a=some (.lst vs))
theorem thawAll{X:Cx}{pins:List (Addr×Obj)}{σ:St}{s:Shared}:∀(S:List Addr){H:Hp},S.Nodup→Inv X pins σ H s→(∀a∈S,∃o vs,H a=some (.frz o (.lst vs)))→(∀a∈S,∀o u,X.H₀ a≠some (.frz o u))→∃H2,Inv X pins σ H2 s∧Thawed H H2 S
 |[],H,_,I,_,_=>⟨H,I,fun _ _=>rfl,fun _ h=>by simp at h⟩
 | a::S,H,nd,I,h,h0=>by
  obtain⟨na,nd⟩:=List.nodup_cons.mp nd
  obtain⟨o,vs,ea⟩:=h a List.mem_cons_self
  have I1:=I.thaw ea (h0 a List.mem_cons_self)
  obtain⟨H2,I2,T1,T2⟩:=thawAll S nd I1 (fun b hb=>by
   obtain⟨o,us,e⟩:=h b (List.mem_cons_of_mem _ hb)
   exact⟨o,us,by rw[upd_ne (fun z:b=a=>na (by rw[← z];exact hb))];exact e⟩) fun b hb=>h0 b (List.mem_cons_of_mem _ hb)
  refine⟨H2,I2,fun b hb=>?_,fun b hb=>?_⟩
  ·
   rw[T1 b (fun z=>hb (List.mem_cons_of_mem _ z)),upd_ne (fun z:b=a=>hb (by rw[z];exact List.mem_cons_self))]
  ·
   rcases List.mem_cons.mp hb with rfl|hb
   ·
    exact⟨o,vs,ea,by rw[T1 b na,upd_same]⟩
   ·
    obtain⟨o',us,e1,e2⟩:=T2 b hb
    rw[upd_ne (fun z:b=a=>na (by rw[← z];exact hb))]at e1
    exact⟨o',us,e1,e2⟩
section
variable{K:PySem.W.Frag}{H' H2:Hp}{S:List Addr}
mutual
theorem Rep.thaw(T:Thawed H' H2 S):∀{v:V}{d:D},noL d=true→Rep K H' v d→Rep K H2 v d
 |_,_,_,.non=>.non
 |_,_,_,.bl b=>.bl b
 |_,_,_,.int i=>.int i
 |_,_,_,.str x=>.str x
 | _,_,h,.tup hs r=>by
  refine .tup ?_ (Reps.thaw T (by simpa[noL]using h) r)
  rcases hs with(e|⟨u,e⟩)|e
  ·
   exact .inl (.inl (by rw[T.1 _ fun z=>by obtain⟨o,vs,e1,_⟩:=T.2 _ z;rw[e1]at e;cases e];exact e))
  ·
   exact .inl (.inr ⟨u,by rw[T.1 _ fun z=>by obtain⟨o,vs,e1,_⟩:=T.2 _ z;rw[e1]at e;cases e];exact e⟩)
  ·
   exact .inr e
 |_,_,h,.lst hs r=>by simp[noL]at h
 |_,_,h,.dct e=>by simp[noL]at h
 |_,_,h,.exc _ _ _ _ _ _ _ _=>by simp[noL]at h
 |_,_,h,.fn _ _ _ _ _ _ _ _ _=>by simp[noL]at h
theorem Reps.thaw(T:Thawed H' H2 S):∀{vs:List V}{ds:List D},noLs ds=true→Reps K H' vs ds→Reps K H2 vs ds
 |_,_,_,.nil=>.nil
 | _,_,h,.cons r t=>by
  simp only[noLs,Bool.and_eq_true]at h
  exact .cons (Rep.thaw T h.1 r) (Reps.thaw T h.2 t)
end
theorem Thawed.lst(T:Thawed H' H2 S){a:Addr}{vs:List V}(h:H' a=some (.lst vs)):a∉S∧H2 a=some (.lst vs):=by
 have n:a∉S:=fun z=>by
  obtain⟨o,us,e,_⟩:=T.2 a z
  rw[h]at e;cases e
 exact⟨n,(T.1 a n).trans h⟩
theorem Thawed.tup(T:Thawed H' H2 S){a:Addr}{vs:List V}(h:SqT K H' a vs):SqT K H2 a vs:=by
 rcases h with(e|⟨u,e⟩)|e
 ·
  exact .inl (.inl (by rw[T.1 _ fun z=>by obtain⟨o,vs,e1,_⟩:=T.2 _ z;rw[e1]at e;cases e];exact e))
 ·
  exact .inl (.inr ⟨u,by rw[T.1 _ fun z=>by obtain⟨o,vs,e1,_⟩:=T.2 _ z;rw[e1]at e;cases e];exact e⟩)
 ·
  exact .inr e
mutual
theorem Slot1.thaw(T:Thawed H' H2 S):∀{s:Option V}(l:L),noLr l=true→Slot1 K H' s l→Slot1 K H2 s l
 |_,.un,_,_=>by unfold Slot1;exact True.intro
 | _,.d x,h,q=>by
  unfold Slot1 at q ⊢
  obtain⟨v,e,r⟩:=q
  exact⟨v,e,r.thaw T (by simpa[noLr]using h)⟩
 | _,.own a xs,h,q=>by
  unfold Slot1 at q ⊢
  obtain⟨e,vs,ha,r⟩:=q
  exact⟨e,vs,(T.lst ha).2,r.thaw T (by simpa[noLr]using h)⟩
 | _,.bx none ls,h,q=>by
  unfold Slot1 at q ⊢
  obtain⟨a,vs,e,ha,r⟩:=q
  exact⟨a,vs,e,T.tup ha,Slots.thaw T ls (by simpa[noLr]using h) r⟩
 | _,.bx (some a) ls,h,q=>by
  unfold Slot1 at q ⊢
  obtain⟨e,vs,ha,r⟩:=q
  exact⟨e,vs,(T.lst ha).2,Slots.thaw T ls (by simpa[noLr]using h) r⟩
 | _,.dic a kvs,h,q=>by
  unfold Slot1 at q ⊢
  obtain⟨e,vs,ha,r⟩:=q
  have h':∀p∈kvs,noL p.2=true:=by simpa[noLr]using h
  refine⟨e,vs,?_,Paired.impMem r fun p hp q z=>⟨z.1,z.2.thaw T (h' p hp)⟩⟩
  rw[T.1 a fun z=>by obtain⟨o,us,e1,_⟩:=T.2 _ z;rw[e1]at ha;cases ha]
  exact ha
theorem Slots.thaw(T:Thawed H' H2 S):∀{vs:List V}(ls:List L),noLrs ls=true→Slots K H' vs ls→Slots K H2 vs ls
 |_,[],_,q=>by unfold Slots at q ⊢;exact q
 | _,l::ls,h,q=>by
  unfold Slots at q ⊢
  simp only[noLrs,Bool.and_eq_true]at h
  obtain⟨v,us,e,h1,h2⟩:=q
  exact⟨v,us,e,Slot1.thaw T l h.1 h1,Slots.thaw T ls h.2 h2⟩
end
end
def flatL:L→Bool
 |.d _=>true
 |l=>noLr l
theorem flatL_un:flatL .un=true:=by simp[flatL,noLr]
theorem flatL_d(x:D):flatL (.d x)=true:=rfl
theorem flatL_own(a:Addr)(xs:List D):flatL (.own a xs)=noLs xs:=by simp[flatL,noLr]
theorem flatL_dic(a:Addr)(kvs:List (Key×D)):flatL (.dic a kvs)=kvs.all fun p=>noL p.2:=by simp[flatL,noLr]
theorem flatL_bx(a:Option Addr)(ls:List L):flatL (.bx a ls)=noLrs ls:=by simp[flatL,noLr]
def flatOwn(i:Nat)(ρ:Ev):Bool:=(ρ.set i .un).all flatL
theorem slots_thaw{K:PySem.W.Frag}{H0 H' H2:Hp}{S:List Addr}(T:Thawed H' H2 S)(p:Pres H0 H2):∀{σ:St}{ρ ρ0:Ev},ρ.length=ρ0.length →
  (∀(j:Nat)(l:L),ρ[j]?=some l→noLr l=true∨∃x,l=.d x∧ρ0[j]?=some (.d x))→Paired (Slot1 K H0) σ ρ0→Paired (Slot1 K H') σ ρ→Paired (Slot1 K H2) σ ρ
 |[],[],_,_,_,_,_=>.nil
 | s::σ,l::ρ,l0::ρ0,hl,h,.cons q0 t0,.cons q t=>by
  refine .cons ?_ (slots_thaw T p (by simpa using hl) (fun j l e=>h (j+1) l e) t0 t)
  rcases h 0 l rfl with hh|⟨x,rfl,e⟩
  ·
   exact q.thaw T l hh
  ·
   have e:l0=.d x:=by simpa using e
   subst e
   exact q0.pres p (.d x) fun a ha=>by simp[ownsL]at ha
 |[],_::_,_,_,_,_,t=>nomatch t
 |_::_,[],_,_,_,_,t=>nomatch t
mutual
theorem Slot1.lsts{K:PySem.W.Frag}{H:Hp}:∀{s:Option V}(l:L){x:D},Slot1 K H s l→eraseL l=some x→∀a∈ownsL l,∃vs,H a=some (.lst vs)
 |_,.un,_,_,_,a,ha=>by simp[ownsL]at ha
 |_,.d x,_,_,_,a,ha=>by simp[ownsL]at ha
 |_,.dic _ _,_,_,h,_,_=>by simp[eraseL]at h
 | _,.own b xs,_,h,_,a,ha=>by
  simp only[Slot1]at h
  have e:a=b:=by simpa[ownsL]using ha
  subst e
  obtain⟨_,vs,q,_⟩:=h
  exact⟨_,q⟩
 | _,.bx none ls,_,h,hx,a,ha=>by
  simp only[Slot1]at h
  simp only[eraseL,Option.map_eq_some_iff]at hx
  obtain⟨xs,hx,_⟩:=hx
  obtain⟨b,vs,e,_,r⟩:=h
  exact Slots.lsts ls r hx a (by simpa[ownsL]using ha)
 | _,.bx (some b) ls,_,h,hx,a,ha=>by
  simp only[Slot1]at h
  simp only[eraseL,Option.map_eq_some_iff]at hx
  obtain⟨xs,hx,_⟩:=hx
  obtain⟨e,vs,q,r⟩:=h
  rcases(by simpa[ownsL]using ha:a=b∨a∈ownsLs ls)with z|z
  ·
   subst z;exact⟨_,q⟩
  ·
   exact Slots.lsts ls r hx a z
theorem Slots.lsts{K:PySem.W.Frag}{H:Hp}:∀{vs:List V}(ls:List L){xs:List D},Slots K H vs ls→eraseLs ls=some xs→∀a∈ownsLs ls,∃vs,H a=some (.lst vs)
 |_,[],_,_,_,a,ha=>by simp[ownsLs]at ha
 | _,l::ls,_,h,hx,a,ha=>by
  simp only[Slots]at h
  obtain⟨v,us,e,h1,h2⟩:=h
  simp only[eraseLs]at hx
  split at hx
  ·
   rename_i x1 xs1 e1 e2
   rcases(by simpa[ownsLs]using ha:a∈ownsL l∨a∈ownsLs ls)with z|z
   ·
    exact Slot1.lsts l h1 e1 a z
   ·
    exact Slots.lsts ls h2 e2 a z
  ·
   cases hx
end
theorem peek_core{X:Cx}{pins:List (Addr×Obj)}{σ0:St}{s s1:Shared}{Pr H H1 H':Hp}{σ τ:St}{ρ lam:Ev}{i:Nat}{k:L}{x:D}{v:Option V}(I:Inv X pins σ0 H s)(E:REnv X.K Pr H σ ρ)(hi:ρ[i]?=some k)(hSa:∀a∈ownsL k,∃vs,H a=some (.lst vs))(F:Frozen H H1 (ownsL k))(hfl:flatOwn i ρ=true)
  (I':Inv X pins σ0 H' s1) (E1:REnv X.K Pr H1 σ (ρ.set i (.d x))) (E':REnv X.K (butOwn H1 (ρ.set i (.d x))) H' (τ++σ) (lam++ρ.set i (.d x))) (hlen:τ.length=lam.length) (hr:lam.all noLr=true):∃H2,Inv X pins σ0 H2 s1∧REnv X.K Pr H2 (τ++σ) (lam++ρ):=by
 have hil:i<ρ.length:=(List.getElem?_eq_some_iff.mp hi).1
 have prm:=owns_takeL hi (l:=.d x) rfl
 have hnd:(ownsL k++owns (ρ.set i (.d x))).Nodup:=prm.nodup_iff.mp E.nd
 obtain⟨nd1,nd2,nd3⟩:=List.nodup_append.mp hnd
 have hna:∀a∈ownsL k,a∉owns (ρ.set i (.d x)):=fun a ha z=>nd3 a ha a z rfl
 have hb:∀b u,H1 b=some u→b∉owns (ρ.set i (.d x))→H' b=some u:=fun b u e hno=>by
  refine E'.sub b u ?_
  unfold butOwn
  rw[if_neg hno]
  exact e
 have hS:∀a∈ownsL k,∃o vs,H' a=some (.frz o (.lst vs)):=fun a ha=>by
  obtain⟨vs,e⟩:=hSa a ha
  obtain⟨o,eo⟩:=F.2.2 a ha vs e
  exact⟨o,vs,hb a _ eo (hna a ha)⟩
 obtain⟨H2,I2,T⟩:=thawAll (ownsL k) nd1 I' hS fun a ha o u e=>by
  have z:=I.base.frzs a o u e
  obtain⟨vs,q⟩:=hSa a ha
  rw[q]at z;cases z
 have back:∀a∈ownsL k,H2 a=H a:=fun a ha=>by
  obtain⟨vs,e⟩:=hSa a ha
  obtain⟨o,eo⟩:=F.2.2 a ha vs e
  obtain⟨o',vs',e1,e2⟩:=T.2 a ha
  rw[hb a _ eo (hna a ha)]at e1
  cases e1
  rw[e2,e]
 have P:Pres H H2:=fun b u hp e=>by
  have hno:b∉owns ρ:=fun z=>by
   obtain⟨ws,hz,mu⟩:=E.at_own z
   rw[hz]at e;cases e;exact mu.no hp
  have hnk:b∉ownsL k:=fun z=>hno (prm.mem_iff.mpr (List.mem_append_left _ z))
  rw[T.1 b hnk]
  exact hb b u (F.1 b u hp e) fun z=>hno (prm.mem_iff.mpr (List.mem_append_right _ z))
 obtain⟨sl1,sl2⟩:=Paired.unapp hlen E'.sl
 have ndE:=E'.nd
 rw[owns_append]at ndE
 obtain⟨ne1,ne2,ne3⟩:=List.nodup_append.mp ndE
 have lamS:∀a∈owns lam,a∉ownsL k∧Pr a=none∧a∉owns (ρ.set i (.d x)):=fun a ha=>by
  obtain⟨vs,e,mu⟩:=E'.at_own (a:=a) (by rw[owns_append];exact List.mem_append_left _ ha)
  have h1:a∉ownsL k:=fun z=>by
   obtain⟨o,us,e1,_⟩:=T.2 _ z
   rw[e1]at e
   cases e
   exact mu
  have h3:a∉owns (ρ.set i (.d x)):=fun z=>ne3 a ha a z rfl
  refine⟨h1,?_,h3⟩
  have hoff:=E'.off a (by rw[owns_append];exact List.mem_append_left _ ha)
  unfold butOwn at hoff
  rw[if_neg h3]at hoff
  cases ep:Pr a with
  |none=>rfl
  |some w=>rw[E1.sub a w ep]at hoff;cases hoff
 have slt:Paired (Slot1 X.K H2) σ (ρ.set i .un):=by
  have q:Paired (Slot1 X.K H') σ (ρ.set i .un):=by
   have:=(Paired.set_r (b:=L.un) i sl2 fun _ _=>by unfold Slot1;exact True.intro)
   rwa [List.set_set]at this
  refine slots_thaw T P (ρ0:=ρ) (by simp) (fun j l e=>?_) E.sl q
  by_cases hj:j=i
  ·
   subst hj
   rw[List.getElem?_set_self hil]at e
   cases e
   exact .inl noLr_un
  ·
   have h1:=List.all_eq_true.mp hfl l (List.mem_of_getElem? (i:=j) e)
   rw[List.getElem?_set_ne (Ne.symm hj)]at e
   cases l with
   |un=>exact .inl noLr_un
   |d y=>exact .inr ⟨y,rfl,e⟩
   |own b ys=>exact .inl h1
   |bx b ls=>exact .inl h1
   |dic b ls=>exact .inl h1
 have slr:Paired (Slot1 X.K H2) τ lam:=Paired.impMem sl1 fun l hl s q=>q.thaw T l (List.all_eq_true.mp hr l hl)
 refine⟨H2,I2,fun b u e=>?_,?_,fun b hbm=>?_,Paired.app slr ?_⟩
 ·
  have hno:b∉owns ρ:=fun z=>by have:=E.off b z;rw[e]at this;cases this
  have hnk:b∉ownsL k:=fun z=>hno (prm.mem_iff.mpr (List.mem_append_left _ z))
  rw[T.1 b hnk]
  refine hb b u ?_ fun z=>hno (prm.mem_iff.mpr (List.mem_append_right _ z))
  rw[F.2.1 b hnk]
  exact E.sub b u e
 ·
  rw[owns_append,List.nodup_append]
  refine⟨ne1,E.nd,fun c hc d hd z=>?_⟩
  subst z
  obtain⟨h1,h2,h3⟩:=lamS c hc
  rcases List.mem_append.mp (prm.mem_iff.mp hd)with z|z
  ·
   exact h1 z
  ·
   exact h3 z
 ·
  rw[owns_append]at hbm
  rcases List.mem_append.mp hbm with z|z
  ·
   exact(lamS b z).2.1
  ·
   exact E.off b z
 ·
  obtain⟨sv,hs,q⟩:=E.slot hi
  have:=Paired.set_r (b:=k) i slt fun s es=>by
   rw[hs]at es
   cases es
   exact q.pres P k back
  rw[List.set_set]at this
  have e2:ρ.set i k=ρ:=by
   refine List.ext_getElem? fun j=>?_
   by_cases hj:j=i
   ·
    subst hj;rw[List.getElem?_set_self hil,hi]
   ·
    rw[List.getElem?_set_ne (Ne.symm hj)]
  rwa [e2]at this
def pkW(o:Option L)(i:Nat)(t:W L)(ρ:Ev)(post:L→Ev→Prop):Prop:=match o with
 |some (.own _ xs)=>flatOwn i ρ=true∧t (ρ.set i (.d (.lst xs))) fun r ρ'=>noLr r=true∧ρ'=ρ.set i (.d (.lst xs))∧post r ρ
 |some (.bx b ls)=>flatOwn i ρ=true∧toDB b ls fun x=>t (ρ.set i (.d x)) fun r ρ'=>noLr r=true∧ρ'=ρ.set i (.d x)∧post r ρ
 |_=>t ρ post
def wPeek(i:Nat)(t:W L):W L:=fun ρ post=>pkW ρ[i]? i t ρ post
theorem pkW_own(a:Addr)(xs:List D)(i:Nat)(t:W L)(ρ:Ev)(post:L→Ev→Prop):pkW (some (.own a xs)) i t ρ post=(flatOwn i ρ=true∧t (ρ.set i (.d (.lst xs))) fun r ρ'=>noLr r=true∧ρ'=ρ.set i (.d (.lst xs))∧post r ρ):=(rfl)
theorem pkW_bx(b:Option Addr)(ls:List L)(i:Nat)(t:W L)(ρ:Ev)(post:L→Ev→Prop):pkW (some (.bx b ls)) i t ρ post=(flatOwn i ρ=true∧toDB b ls fun x=>t (ρ.set i (.d x)) fun r ρ'=>noLr r=true∧ρ'=ρ.set i (.d x)∧post r ρ):=(rfl)
theorem pkW_d(x:D)(i:Nat)(t:W L)(ρ:Ev)(post:L→Ev→Prop):pkW (some (.d x)) i t ρ post=t ρ post:=(rfl)
theorem peek_in{X:Cx}{pins:List (Addr×Obj)}{s:Shared}{σ:St}{H Pr:Hp}{ρ:Ev}{i:Nat}{k:L}{x:D}(I:Inv X pins σ H s)(E:REnv X.K Pr H σ ρ)(hi:ρ[i]?=some k)(hx:eraseL k=some x):∃H1,Inv X pins σ H1 s∧REnv X.K Pr H1 σ (ρ.set i (.d x))∧Frozen H H1 (ownsL k)∧∀a∈ownsL k,∃vs,H a=some (.lst vs):=by
 obtain⟨sv,hs,sl⟩:=E.slot hi
 obtain⟨H1,I1,E1,F⟩:=frzL k I (E.outL hi hs) hx
 have hil:i<ρ.length:=(List.getElem?_eq_some_iff.mp hi).1
 have E2:=E1.back (i:=i) (by rw[List.getElem?_set_self hil]) hs
 rw[List.set_set]at E2
 exact⟨H1,I1,E2,F,sl.lsts k hx⟩
theorem pl_peek{X:Cx}{e:Expr}(i:Nat){t:W L}(h:PL X e t):PL X e (wPeek i t):=by
 intro pins s σ H Pr ρ post I E hw
 have go:∀(k:L)(x:D),ρ[i]?=some k→eraseL k=some x→flatOwn i ρ=true→(t (ρ.set i (.d x)) fun r ρ'=>noLr r=true∧ρ'=ρ.set i (.d x)∧post r ρ)→wpAny (model X.prog X.w) X.A (eval e X.env) (EL X pins σ Pr post) X.xe s:=by
  intro k x hi hx hfl hw
  obtain⟨H1,I1,E1,F,Sa⟩:=peek_in I E hi hx
  refine thn (h pins s σ _ _ _ _ I1 E1.wide hw) fun u s1 ⟨v,H',r,ρ',I',rv,E',hr,eρ,hp⟩=>?_
  subst eρ
  obtain⟨H2,I2,E2⟩:=peek_core (τ:=[some v]) (lam:=[r]) (v:=some v) I E hi Sa F hfl I' E1 E' rfl (by simpa using hr)
  exact⟨v,H2,r,ρ,I2,rv,E2,hp⟩
 unfold wPeek pkW at hw
 split at hw
 ·
  rename_i a xs hi
  exact go _ _ hi rfl hw.1 hw.2
 ·
  rename_i b ls hi
  obtain⟨x,hx,hw'⟩:=toDB_is hw.2
  exact go _ _ hi hx hw.1 hw'
 ·
  exact h pins s σ H Pr ρ post I E hw
def pkB(o:Option L)(i:Nat)(t:W Bool)(ρ:Ev)(post:Bool→Ev→Prop):Prop:=match o with
 |some (.own _ xs)=>flatOwn i ρ=true∧t (ρ.set i (.d (.lst xs))) fun r ρ'=>ρ'=ρ.set i (.d (.lst xs))∧post r ρ
 |some (.bx b ls)=>flatOwn i ρ=true∧toDB b ls fun x=>t (ρ.set i (.d x)) fun r ρ'=>ρ'=ρ.set i (.d x)∧post r ρ
 |_=>t ρ post
def wPeekB(i:Nat)(t:W Bool):W Bool:=fun ρ post=>pkB ρ[i]? i t ρ post
theorem pkB_own(a:Addr)(xs:List D)(i:Nat)(t:W Bool)(ρ:Ev)(post:Bool→Ev→Prop):pkB (some (.own a xs)) i t ρ post=(flatOwn i ρ=true∧t (ρ.set i (.d (.lst xs))) fun r ρ'=>ρ'=ρ.set i (.d (.lst xs))∧post r ρ):=(rfl)
theorem pkB_bx(b:Option Addr)(ls:List L)(i:Nat)(t:W Bool)(ρ:Ev)(post:Bool→Ev→Prop):pkB (some (.bx b ls)) i t ρ post=(flatOwn i ρ=true∧toDB b ls fun x=>t (ρ.set i (.d x)) fun r ρ'=>ρ'=ρ.set i (.d x)∧post r ρ):=(rfl)
theorem pkB_d(x:D)(i:Nat)(t:W Bool)(ρ:Ev)(post:Bool→Ev→Prop):pkB (some (.d x)) i t ρ post=t ρ post:=(rfl)
theorem pb_peek{X:Cx}{e:Expr}(i:Nat){t:W Bool}(h:PB X e t):PB X e (wPeekB i t):=by
 intro pins s σ H Pr ρ post I E hw
 have go:∀(k:L)(x:D),ρ[i]?=some k→eraseL k=some x→flatOwn i ρ=true→(t (ρ.set i (.d x)) fun r ρ'=>ρ'=ρ.set i (.d x)∧post r ρ)→wpAny (model X.prog X.w) X.A (isTrue e X.env (eval e X.env)) (EB X pins σ Pr post) X.xe s:=by
  intro k x hi hx hfl hw
  obtain⟨H1,I1,E1,F,Sa⟩:=peek_in I E hi hx
  refine thn (h pins s σ _ _ _ _ I1 E1.wide hw) fun u s1 ⟨H',ρ',I',E',eρ,hp⟩=>?_
  subst eρ
  obtain⟨H2,I2,E2⟩:=peek_core (τ:=[]) (lam:=[]) (v:=none) I E hi Sa F hfl I' E1 E' rfl rfl
  exact⟨H2,ρ,I2,E2,hp⟩
 unfold wPeekB pkB at hw
 split at hw
 ·
  rename_i a xs hi
  exact go _ _ hi rfl hw.1 hw.2
 ·
  rename_i b ls hi
  obtain⟨x,hx,hw'⟩:=toDB_is hw.2
  exact go _ _ hi hx hw.1 hw'
 ·
  exact h pins s σ H Pr ρ post I E hw
variable{X:Cx}
open Classical in
noncomputable def eS(h:Heap)(dx:PyData)(u:Value):Bool:=decide (∃d as,Reads h u d as∧d.canLay0=true∧PyData.eqv d dx=true)
variable{X:Cx}
variable{X:Cx}
end L2
set_option exponentiation.threshold 2000
namespace L2
open PySem PySem.Spec PyProof.Rows
section
variable{X:Cx}{e a b:Expr}{x y:Str}
mutual
def shortD:D→Bool
 |.int i=>decide (i.natAbs<2^1900)
 |.tup xs=>shortDs xs
 |.lst xs=>shortDs xs
 |_=>true
def shortDs:List D→Bool
 |[]=>true
 |x::xs=>shortD x && shortDs xs
end
theorem two1900:(2:Nat)^1900<10^600:=by decide +kernel
theorem int_short{i:Int}(h:i.natAbs<2^1900):(PyData.shown (.int i)).length≤601:=by
 have e:=PySem.int_text_length_le10 (k:=600) (by decide) (Nat.lt_trans h two1900)
 show(Str.ofString (toString i)).length≤601
 rw[PySem.ofString_length];exact e
mutual
theorem short_is:∀d:D,shortD d=true→(toP d).intsShort 601=true∧(toP d).showable=true
 |.non,_=>⟨rfl,rfl⟩
 |.bl _,_=>⟨rfl,rfl⟩
 |.str _,_=>⟨rfl,rfl⟩
 |.dct _,_=>⟨rfl,rfl⟩
 |.exc _ _ _,_=>⟨rfl,rfl⟩
 |.fn _ _,_=>⟨rfl,rfl⟩
 | .int i,h=>by
  have h':i.natAbs<2^1900:=by simpa only[shortD,decide_eq_true_eq]using h
  refine⟨by simp only[toP,PyData.intsShort,decide_eq_true_eq];exact int_short h',?_⟩
  simp only[toP,PyData.showable,decide_eq_true_eq]
  by_cases h0:i.natAbs=0
  ·
   rw[h0];decide
  ·
   exact(Nat.log2_lt h0).mpr (Nat.lt_of_lt_of_le h' (Nat.pow_le_pow_right (by decide) (by decide)))
 | .tup xs,h=>by
  obtain⟨h1,h2⟩:=short_iss xs (by simpa only[shortD]using h)
  exact⟨by simpa only[toP,PyData.intsShort]using h1,by simpa only[toP,PyData.showable]using h2⟩
 | .lst xs,h=>by
  obtain⟨h1,h2⟩:=short_iss xs (by simpa only[shortD]using h)
  exact⟨by simpa only[toP,PyData.intsShort]using h1,by simpa only[toP,PyData.showable]using h2⟩
theorem short_iss:∀ds:List D,shortDs ds=true→PyData.intsShortAll 601 (toPs ds)=true∧PyData.showableAll (toPs ds)=true
 |[],_=>⟨rfl,rfl⟩
 | d::ds,h=>by
  simp only[shortDs,Bool.and_eq_true]at h
  obtain⟨h1,h2⟩:=short_is d h.1
  obtain⟨h3,h4⟩:=short_iss ds h.2
  exact⟨by simp only[toPs,PyData.intsShortAll,h1,h3,Bool.and_self],by simp only[toPs,PyData.showableAll,h2,h4,Bool.and_self]⟩
end
def reprD(d:D):Str:=(toP d).shown
structure ReprOk (d:D):Prop where
 ok:okD 40 d=true
 sh:shortD d=true
 wt:(toP d).weight≤20000
theorem ReprOk.len{d:D}(h:ReprOk d):(toP d).shown.length≤sizeLine:=by
 have h1:=PyData.shown_le 601 (by decide) (toP d) (PyData.leavesShort_of_canLay0 601 _ (okD_lay 40 d h.ok).1 (short_is d h.sh).1)
 have h2:=h.wt
 have e:sizeLine=16777216:=by decide
 rw[e]
 omega
def opEqS:Op2:=fun x y k=>match x,y with
 |.str a,.str b=>k (.d (.bl (decide (a=b))))
 |_,_=>False
theorem od_eqS:OpD X (compareOp .Eq) opEqS:=OpD.of op_eq fun σ H Pr ρ x y dx dy post E px py h=>by
 unfold opEqS at h
 split at h
 ·
  cases px
  cases py
  rename_i a b
  refine⟨rfl,_,E.cons_d (.bl _),?_⟩
  have e:decide (V.str a=V.str b)=decide (a=b):=by simp
  rw[e]
  exact h
 ·
  exact h.elim
def fzW(f:Fl)(o:Option L)(j:Nat)(ρ1:Ev)(post:Fl→Ev→Prop):Prop:=match f with
 | .nx=>(match o with
  |some (.own _ xs)=>post .nx (ρ1.set j (.d (.lst xs)))
  |_=>post .nx ρ1)
 |f=>post f ρ1
theorem fzW_own(a:Addr)(xs:List D)(j:Nat)(ρ1:Ev)(post:Fl→Ev→Prop):fzW .nx (some (.own a xs)) j ρ1 post=post .nx (ρ1.set j (.d (.lst xs))):=(rfl)
theorem fzW_d(x:D)(j:Nat)(ρ1:Ev)(post:Fl→Ev→Prop):fzW .nx (some (.d x)) j ρ1 post=post .nx ρ1:=(rfl)
end
section
variable{X:Cx}{pins:List (Addr×Obj)}{σ:St}{H:Hp}{s:Shared}
theorem Inv.past(I:Inv X pins σ H s):(s.heap.objs.size == sysModules)=false:=by
 have h:mainGlobals<s.heap.objs.size:=(I.mod.glob.keeps I.bk).lt
 exact beq_eq_false_iff_ne.mpr (Ne.symm (Nat.ne_of_lt (Nat.lt_trans (by decide) h)))
end
structure FX (K:PySem.W.Frag) (mg:Str→Option Value) (g:Str) (st:Stmt) (a:Addr) (fd:FuncData) (P:List Str):Prop where
 f:Fun K g g st a fd
 b:Binds K fd P []
 m:mg g=some (.ref a)
abbrev fdM(g:Str)(st:Stmt)(md:Value)(c:Nat):FuncData:=PySem.W.fnOf g g (defArgs st) (defBody st) (defScope st) .none .none .none md none (.ref c) .none
theorem FX.mk'{K:PySem.W.Frag}{mg:Str→Option Value}{h:Heap}(X:K.In h)(G:h.Ns mainGlobals mg){g:Str}{st:Stmt}{a:Addr}{c:Nat}{md:Value}{P:List Str}(e1:PySem.W.nsIn K mainGlobals g=some (some (.ref a)))
  (e2:K.lookup a=some ⟨.type "function",none,.func (fdM g st md c),#[]⟩) (e3:PySem.W.codeIn K (.ref c) g=true) (e4:PySem.W.keepIn K (.ref a)=true)
  (e5:∀(kV doc pm:Value)(an:Option Addr)(cdv ct:Value)(us:List Value),us.length=P.length→bindArgs (PySem.W.fnOf g g (defArgs st) (defBody st) (defScope st) .none kV doc pm an cdv ct) ⟨us,[]⟩=pure (P.zip us)):FX K mg g st a (fdM g st md c) P :=
 ⟨fun_mk e2 e3 e4,(fun_mk e2 e3 e4).binds e5,PySem.W.mg_of X G e1⟩
section
variable{X:Cx}{k k' n:Nat}{f:Addr}{fd:FuncData}{ps:List Str}{fs:FS}{g:Str}{st:Stmt}{e:Expr}{es:List Expr}{bs:List (Option Nat)}{t:W (List L)}{p pos:Pos}
theorem pl_cx(F:FnOk X.prog X.w X.K X.mg X.base CX0 k f fd ps (spF X.K n fs))(T:FX X.K X.mg g st f fd ps)(hr:Room k' X.A)(ha:PAL X (e::es) bs t)(hk:k≤k':=by decide)(hg:Gl X g:=by rfl)(hn:bs.length=n:=by rfl) (hdb:(g == ("__debug__" : Str))=false:=by decide) (he:starEach (e::es) X.env=(false,eval e X.env)::starEach es X.env:=by rfl) (hpl:(backTo pos (starEach es X.env)).any (·.1)=false:=by rfl) :
  PL X (.Call (.Name g p) (e::es) [] pos) (wCall fs t):=pl_call F (hr.mono hk) hg T.m T.f.kp T.b pass0 ha hn hdb he hpl
theorem pl_cxB(F:FnOk X.prog X.w X.K X.mg X.base CX0 k f fd ps (spF X.K n fs))(T:FX X.K X.mg g st f fd ps)(hr:Room k' X.A)(j i:Nat)(ha:PAL X (e::es) bs t)(hk:k≤k':=by decide)(hg:Gl X g:=by rfl)(hj:bs[j]?=some (some i):=by rfl)(hn:bs.length=n:=by rfl) (hdb:(g == ("__debug__" : Str))=false:=by decide) (he:starEach (e::es) X.env=(false,eval e X.env)::starEach es X.env:=by rfl) (hpl:(backTo pos (starEach es X.env)).any (·.1)=false:=by rfl) :
  PL X (.Call (.Name g p) (e::es) [] pos) (wCallB fs j i t):=pl_callB F (hr.mono hk) hg T.m T.f.kp T.b pass0 j i ha hj hn hdb he hpl
end
mutual
def depD:D→Nat
 |.tup xs=>depDs xs+1
 |.lst xs=>depDs xs+1
 |_=>0
def depDs:List D→Nat
 |[]=>0
 |x::xs=>max (depD x) (depDs xs)
end
theorem depDs_mem{x:D}:∀{xs:List D},x∈xs→depD x≤depDs xs
 | y::ys,h=>by
  simp only[depDs]
  rcases List.mem_cons.mp h with rfl|h
  ·
   omega
  ·
   have:=depDs_mem h;omega
theorem depDs_le{n:Nat}:∀{xs:List D},(∀x∈xs,depD x≤n)→depDs xs≤n
 |[],_=>Nat.zero_le _
 | y::ys,h=>by
  simp only[depDs]
  have:=h y List.mem_cons_self
  have:=depDs_le (xs:=ys) fun x hx=>h x (List.mem_cons_of_mem _ hx)
  omega
end L2
namespace L2
open PySem PySem.Spec PyProof.Rows PySem.Builtin.Str
inductive Sk where
 |l|t
abbrev Zi:=Sk×Addr×Addr
def Zi.ofs(js:List Zi):List Addr:=js.map (·.2.1)
def ZKeep(z O:Addr)(js:List Zi)(h h':Heap):Prop:=∀c o,c∉z::O::Zi.ofs js→h.get? c=some o→h'.get? c=some o
def Sk.nm:Sk→String
 |.l=>"list_iterator"
 |.t=>"tuple_iterator"
def SqK(K:PySem.W.Frag)(H:Hp):Sk→Addr→List V→Prop
 |.l,a,xs=>SqL K H a xs
 |.t,a,xs=>SqT K H a xs
def SqF(K:PySem.W.Frag)(H:Hp):Sk→Addr→List V→Prop
 |.l,a,xs=>SqZ K H a xs
 |.t,a,xs=>SqT K H a xs
theorem SqF.pres{K:PySem.W.Frag}{H H':Hp}{k:Sk}{a:Addr}{xs:List V}(p:Pres H H')(h:SqF K H k a xs):SqK K H' k a xs:=by
 cases k with
 |l=>exact(SqZ.pres p h).l
 |t=>exact SqT.pres p h
section
variable{z O:Addr}{js:List Zi}
theorem ZKeep.mono{h h':Heap}(k:ZKeep z O js h h'){c:Addr}{o:Obj}(hc:c∉z::O::Zi.ofs js)(e:h.get? c=some o):h'.get? c=some o:=k c o hc e
end
def ItR(K:PySem.W.Frag)(a:Addr)(xs:List V):It :=
 ⟨fun i H=>SqL K H a xs∧i<xs.length,fun i H v H'=>H'=H∧xs[xs.length-1-i]?=some v,fun i H=>SqL K H a xs∧i=xs.length⟩
theorem turn_rev{P:Program}{w:World}{K:PySem.W.Frag}{tg:Expr}(a j:Addr)(xs:List V):Turn P w K tg (ItR K a xs) [j] j (fun i h=>h.IsRevIter j a ((xs.length:Int)-1-i)) where
 mem:=by simp
 obj:=fun i h st b hb=>by
  have e:b=j:=by simpa using hb
  subst e
  obtain⟨o,e,c,d⟩:=st
  exact⟨o,e,fun v z=>by rw[d]at z;cases z⟩
 keep:=fun i h h' st k=>st.at fun o e=>k j (by simp) o e
 item:=by
  intro X hP hw hK hc i pins s σ H E I hf st hg
  subst hP hw hK
  obtain⟨hq,hi⟩:=hg
  obtain⟨its,rv,p,hz⟩:=I.list hq
  have hx:xs[xs.length-1-i]?=some (xs[xs.length-1-i]'(by omega)):=List.getElem?_eq_getElem _
  obtain⟨u,hu,ru⟩:=rv.get hx
  obtain⟨f0,f1,f2,f3,f4,f5⟩:=hf j (by simp)
  have ei:(xs.length:Int)-1-i=((xs.length-1-i:Nat):Int):=by omega
  rw[ei]at st
  refine wpAny_pyNext_rev_item st p.isList (x:=u) (by simpa using hu) fun h' st' sb=>?_
  have I1:Inv X pins σ H {s with heap:=h' }:=I.turned (t':=s.toks) (fun b o hb e=>(sb.2 b hb).trans e) f0 f1 f3 f4 f5
  obtain⟨o,e,c,d⟩:=id st'
  have ei2:((xs.length-1-i:Nat):Int)-1=(xs.length:Int)-1-((i+1:Nat):Int):=by omega
  rw[ei2]at st'
  exact⟨u,rfl,go_of (s:={s with heap:=h' }) e c d (by decide) ⟨_,H,I1,ru,⟨rfl,hx⟩,st',fun b hb=>(hf b hb).1⟩⟩
 done:=by
  intro X hP hw hK hc i pins s σ H E I hf st hg
  subst hP hw hK
  obtain⟨hq,hi⟩:=hg
  obtain⟨f0,f1,f2,f3,f4,f5⟩:=hf j (by simp)
  have ei:(xs.length:Int)-1-i=-1:=by omega
  rw[ei]at st
  exact wpAny_pyNext_rev_end (I.ok.hd hc) st fun h' eb=>⟨rfl,I.turned (t':=s.toks) (fun b o hb e=>eb b o hb e) f0 f1 f3 f4 f5⟩
 self:=fun _ _ _ _ _ st h=>wpAny_pyIter_revIter st h
theorem gives_rev{K:PySem.W.Frag}{H:Hp}{a:Addr}{vs:List V}{xs:List D}(h:SqZ K H a vs)(r:Reps K H vs xs):Gives K H (ItR K a vs) xs.reverse:=fun H' p=>by
 have h':=(h.pres p).l
 refine⟨fun i x e=>?_,h',by rw[List.length_reverse,r.length]⟩
 have hi:i<xs.length:=by simpa using(List.getElem?_eq_some_iff.mp e).1
 rw[List.getElem?_reverse hi]at e
 obtain⟨v,ev,rv⟩:=r.get e
 refine⟨⟨h',by rw[r.length];exact hi⟩,fun w H2 ⟨e1,e2⟩=>?_⟩
 subst e1
 rw[r.length,ev]at e2
 cases e2
 exact⟨.inl rfl,rv.pres p⟩
def wRevS(t:W L):W (List D):=fun ρ post=>t ρ fun r ρ1=>toD r fun d=>match d with
 |.lst xs=>post xs.reverse ρ1
 |_=>False
section
variable{X:Cx}{a tg:Expr}{pos p:Pos}
theorem pil_rev{t:W L} (hg:Gl X "reversed") (hm:X.mg "reversed"=none) (ha:PL X a t) (hs:starEach [a] X.env=[(false,eval a X.env)]:=by rfl):PIL X tg (.Call (.Name "reversed" p) [a] [] pos) (wRevS t):=by
 intro pins s σ H Pr ρ post I E h
 refine Call_ (ld_blt I hg hm (show bootBuiltins "reversed"=some (.type "reversed") by decide +kernel) (PyProof.Rows.callWith_type1 ?_ (by rw[hs]; rfl) rfl))
 rw[hs]
 show wpAny _ _ (spliced ((false,eval a X.env)::[])) _ _ s
 refine Calls.spliced_cons (thn (ha pins s σ H Pr ρ _ I E h) fun v s1 q=>Calls.spliced_nil ?_)
 obtain⟨w,H1,d,ρ1,I1,r1,E1,q1⟩:=EL.frz (post:=fun d ρ1=>match d with
  |.lst xs=>post xs.reverse ρ1
  |_=>False) q
 obtain⟨_,e1,p1⟩:=E1.head_d
 cases e1
 cases p1 with
 | @lst _ vs0 _ hz rs =>
  cases r1
  obtain⟨its,rv,pl,_⟩:=I1.list hz.l
  have el:its.toArray.size=vs0.length:=by simp;exact rv.length.symm
  refine call_reversed_list pl.isList ?_
  rw[el]
  refine wpAny_pyIter_revIter (s:={s1 with heap:=_}) ⟨_,Heap.get?_push_size _ rfl,rfl,rfl⟩ ?_
  refine⟨s1.heap.objs.size,[s1.heap.objs.size],_,_,H1,_,ρ1,rfl,I1.kept (t':=s1.toks) (fun b o e=>Heap.get?_push_of_some _ e),turn_rev _ _ _,⟨_,Heap.get?_push_size _ rfl,rfl,?_⟩,fun b hb=>?_,E1.tail,gives_rev hz rs,q1⟩
  ·
   rw[show((vs0.length:Int)-1-((0:Nat):Int))=(vs0.length:Int)-1 by omega]
   rfl
  ·
   have e:b=s1.heap.objs.size:=by simpa using hb
   subst e
   exact I1.fpOk (Nat.le_refl _) (I1.hok.fresh (Nat.le_refl _))
 |_=>exact q1.elim
end
end L2
namespace L2
open PySem PySem.Spec PyProof.Rows
end L2
namespace L2
open PySem PySem.Spec PyProof.Rows PySem.W
section
structure Fly (h:Heap) (e:Addr) (cls:Value) (dx T:Option Addr):Prop where
 ex:∃vs sl,h.get? e=some ⟨cls,dx,.fields vs,sl⟩∧1<vs.size∧(match T with
  |none=>vs[1]?=some .none
  |some t=>vs[1]?=some (.ref t)∧t≠e∧∃ot ts,h.get? t=some ot∧ot.data=.fields ts∧ts[3]?=some .none)
end
def del(H:Hp)(e:Addr):Hp:=fun b=>if b=e then none else H b
theorem del_ne{H:Hp}{e b:Addr}(h:b≠e):del H e b=H b:=by unfold del;rw[if_neg h]
theorem del_self{H:Hp}{e:Addr}:del H e e=none:=by unfold del;rw[if_pos rfl]
theorem Fly.at{h h':Heap}{e:Addr}{cls:Value}{dx:Option Addr}(f:Fly h e cls dx none)(k:∀o,h.get? e=some o→h'.get? e=some o):Fly h' e cls dx none:=by
 obtain⟨vs,sl,he,hz,h1⟩:=f
 exact⟨vs,sl,k _ he,hz,h1⟩
def XO(e:Addr)(cls:Value)(dx:Option Addr):HO:=.ext fun h=>Fly h e cls dx none
def XD(d:Addr)(fs:List (Str×V)):HO:=.ext fun h=>∃mA,h.Ns1 d mA∧(∀f,RelO (fs.lookup f) (mA f))∧PySem.Within mA (fs.map (·.1))
theorem XO.ok{P:Program}{w:World}{H:Hp}{h:Heap}{e:Addr}{cls:Value}{dx:Option Addr}(f:Fly h e cls dx none):ObjOk P w H h e (XO e cls dx):=by
 obtain⟨vs,sl,he,hz,h1⟩:=f
 exact⟨⟨vs,sl,he,hz,h1⟩,⟨_,he⟩,fun h1 h2 p k=>p.at k⟩
theorem XD.ok{P:Program}{w:World}{H:Hp}{h:Heap}{d:Addr}{fs:List (Str×V)}{mA:Str→Option Value}(n:h.Ns1 d mA)(r:∀f,RelO (fs.lookup f) (mA f))(wi:PySem.Within mA (fs.map (·.1))):ObjOk P w H h d (XD d fs) :=
 ⟨⟨mA,n,r,wi⟩,let ⟨o,_,_,e,_⟩:=n;⟨o,e⟩,fun h1 h2 ⟨mA,n,r⟩ k=>⟨mA,n.at k,r⟩⟩
structure Xc where
 c:Str
 ns:List Str
 ds:List D
def XFly(K:Frag)(H:Hp)(cls:Value)(dx:Option Addr)(x:Xc):Prop:=∃C vs,cls=.ref C∧excStd K x.c C=true∧(∀f∈x.ns,findIn K (.ref C) f=some none)∧XF H dx x.ns vs∧Reps K H vs x.ds
theorem XFly.ext{K:Frag}{H H':Hp}{cls:Value}{dx:Option Addr}{x:Xc}(f:XFly K H cls dx x)(h:∀b o,H b=some o→H' b=some o):XFly K H' cls dx x:=by
 obtain⟨C,vs,e,s,fq,a,r⟩:=f
 exact⟨C,vs,e,s,fq,a.pres fun b o _ q=>h b o q,r.pres fun b o _ q=>h b o q⟩
section
variable{H:Hp}
theorem HOk.there{P:Program}{w:World}{H:Hp}{h:Heap}(x:HOk P w H h){b:Addr}{o:HO}(e:H b=some o):∃u,h.get? b=some u:=by
 have lt:=x.lt e
 cases o with
 |lst xs=>obtain⟨_,_,_,_,e⟩:=x b _ e;exact⟨_,e⟩
 |tup xs=>obtain⟨_,_,_,o,e,_⟩:=x b _ e;exact⟨_,e⟩
 |dK kvs=>obtain⟨_,_,_,_,o,_,_,e,_⟩:=x b _ e;exact⟨_,e⟩
 |dT kvs=>obtain⟨_,_,_,_,o,_,_,e,_⟩:=x b _ e;exact⟨_,e⟩
 |set S n=>obtain⟨o,_,_,_,e,_⟩:=x b _ e;exact⟨_,e⟩
 |ins C dx fs=>obtain⟨_,_,_,e,_⟩:=x b _ e;exact⟨_,e⟩
 |own y=>obtain⟨_,e⟩:=x b _ e;exact⟨_,e⟩
 |xd fs=>obtain⟨_,⟨_,_,_,e,_⟩,_⟩:=x b _ e;exact⟨_,e⟩
 |rng lo hi=>obtain⟨_,_,_,e⟩:=x b _ e;exact⟨_,e⟩
 |frz ob u=>obtain⟨e,_⟩:=x b _ e;exact⟨_,e⟩
 |tbl t=>obtain⟨_,e,_⟩:=x b _ e;exact⟨_,e⟩
 |met f y=>exact⟨_,(show h.get? b=some _ from x b _ e)⟩
 |ext φ=>obtain⟨_,⟨_,e⟩,_⟩:=x b _ e;exact⟨_,e⟩
end
abbrev FSX:=List D→(L→Prop)→(Xc→Prop)→Prop
theorem REnv.ds{K:Frag}{H:Hp}:∀{vs:List V}{ds:List D},Reps K H vs ds→Paired (Slot1 K H) (vs.map some) (ds.map .d)
 |_,_,.nil=>.nil
 |_,_,.cons h t=>.cons ⟨_,rfl,h⟩ (REnv.ds t)
end L2
namespace L2
open PySem PySem.Spec PyProof.Rows
section
variable{κ:Type}[DecidableEq κ]
def valV(kvs:List (κ×V))(k:κ):Option V:=(kvs.find? fun kv=>decide (kv.1=k)).map (·.2)
def putK(kvs:List (κ×V))(k:κ)(v:V):List (κ×V) :=
 if(kvs.any fun kv=>decide (kv.1=k))=true then kvs.map (fun kv=>if kv.1=k then(kv.1,v)else kv)else kvs++[(k,v)]
theorem valV_pos{p:κ×V}{r:List (κ×V)}{k:κ}(e:p.1=k):valV (p::r) k=some p.2:=by simp[valV,List.find?_cons,e]
theorem valV_neg{p:κ×V}{r:List (κ×V)}{k:κ}(e:¬p.1=k):valV (p::r) k=valV r k:=by simp[valV,List.find?_cons,e]
theorem length_putK(kvs:List (κ×V))(k:κ)(v:V):(putK kvs k v).length≤kvs.length+1:=by
 unfold putK
 split
 ·
  rw[List.length_map];omega
 ·
  rw[List.length_append,List.length_cons,List.length_nil];omega
theorem RelO.isSome_eq{o:Option V}{u:Option Value}(r:RelO o u):o.isSome=u.isSome:=by
 cases o with
 | none=>cases u with
  |none=>rfl
  |some _=>exact(show False from r).elim
 | some _=>cases u with
  |none=>exact(show False from r).elim
  |some _=>rfl
theorem KV.val{kvs:List (κ×V)}{vs:List (κ×Value)}(r:KV kvs vs)(k:κ):RelO (valV kvs k) (valueAt vs k):=by
 unfold KV at r
 induction r with
 |nil=>exact True.intro
 | @cons p q ps qs h t ih =>
  obtain⟨h1,h2⟩:=h
  by_cases e:p.1=k
  ·
   have e':q.1=k:=h1.symm.trans e
   have b:valueAt (q::qs) k=some q.2:=by simp[valueAt,List.find?_cons,e']
   rw[valV_pos e,b];exact h2
  ·
   have e':¬q.1=k:=fun z=>e (h1.trans z)
   have b:valueAt (q::qs) k=valueAt qs k:=by simp[valueAt,List.find?_cons,e']
   rw[valV_neg e,b];exact ih
theorem KV.any{kvs:List (κ×V)}{vs:List (κ×Value)}(r:KV kvs vs)(k:κ):(kvs.any fun kv=>decide (kv.1=k))=vs.any fun kv=>decide (kv.1=k):=by
 unfold KV at r
 induction r with
 |nil=>rfl
 |cons h t ih=>rw[List.any_cons,List.any_cons,ih,h.1]
theorem KV.repl{kvs:List (κ×V)}{vs:List (κ×Value)}(r:KV kvs vs)(k:κ){y:V}{u:Value}(ry:RelV y u) :
  KV (kvs.map fun kv=>if kv.1=k then(kv.1,y)else kv) (vs.map fun kv=>if kv.1=k then(kv.1,u)else kv):=by
 unfold KV at r ⊢
 induction r with
 |nil=>exact .nil
 | @cons p q ps qs h t ih =>
  rw[List.map_cons,List.map_cons]
  refine .cons ?_ ih
  obtain⟨h1,h2⟩:=h
  by_cases e:p.1=k
  ·
   rw[if_pos e,if_pos (h1.symm.trans e)];exact⟨h1,ry⟩
  ·
   rw[if_neg e,if_neg (fun z=>e (h1.trans z))];exact⟨h1,h2⟩
theorem KV.put{kvs:List (κ×V)}{vs:List (κ×Value)}(r:KV kvs vs)(k:κ){y:V}{u:Value}(ry:RelV y u):KV (putK kvs k y) (stored vs k u):=by
 unfold putK stored
 rw[r.any k]
 by_cases e:(vs.any fun kv=>decide (kv.1=k))=true
 ·
  rw[if_pos e,if_pos e];exact r.repl k ry
 ·
  rw[if_neg e,if_neg e];exact Paired.snoc r ⟨rfl,ry⟩
theorem KV.length{kvs:List (κ×V)}{vs:List (κ×Value)}(r:KV kvs vs):kvs.length=vs.length:=Paired.length r
end
theorem kV_is{P:Program}{w:World}{k:Key}{u:Value}(r:RelV (kV k) u):(mixKind P w).is k u=true:=by
 cases k with
 |inl i=>obtain⟨t,e⟩:=(show ∃t,u=Value.int i t from r);subst e;exact mixKind_int P w i t
 |inr x=>obtain⟨t,e⟩:=(show ∃t,u=Value.str x t from r);subst e;exact mixKind_str P w x t
def NoSl(i:Expr):Prop:=∀ov iv,subscripted i false ov iv=operate [ov,iv] (getItem ov iv)
theorem subD_of{prog:Program}{w:World}{A:Around}{E:Value→Shared→Prop}{s:Shared}{env:Env}{value slice:Expr}{pos:Pos}{T id:String}{Q:Value→Shared→Prop}
  (hl:typeLookup (.type T) "__getitem__"=pure (some (.builtin id))) (hs:NoSl slice)
  (h:wpAny (model prog w) A (eval value env) (fun o s₁=>wpAny (model prog w) A (eval slice env) (fun i s₂=>s₂.TypeIs o T∧wpAny (model prog w) A (getItem o i) Q E s₂) E s₁) E s) :
  wpAny (model prog w) A (eval (.Subscript value slice pos) env) Q E s:=by
 refine Subscript_ (wpAny_mono h (fun o s₁ h₁=>wpAny_mono h₁ (fun i s₂ h₂=>?_) fun _ _ x=>x) fun _ _ x=>x)
 obtain⟨hT,h₂⟩:=h₂
 unfold subscriptTail
 refine wpAny_bind ?_
 rw[getitemInPython_of_ne hT.not_modules]
 refine wpAny_bind (wpAny_specialOf hT hl ?_)
 have fin:wpAny (model prog w) A (subscripted slice false o i) (fun r s₃=>wpAny (model prog w) A (letTemporaryGo value o r >>= fun _=>pure r) Q E s₃) E s₂:=by
  rw[hs o i]
  exact wpAny_operating (wpAny_mono h₂ (fun r s₃ h₃=>wpAny_bind (wpAny_letTemporaryGo (wpAny_pure h₃))) fun _ _ x=>x)
 first
  |exact wpAny_pure (wpAny_bind fin)
  |exact wpAny_bind (wpAny_pure (wpAny_bind fin))
  |exact wpAny_bind fin
abbrev DR(K:PySem.W.Frag)(H:Hp):List (Key×V)→List (Key×D)→Prop:=Paired fun (p:Key×V) (q:Key×D)=>p.1=q.1∧Rep K H p.2 q.2
def valD(kvs:List (Key×D))(k:Key):Option D:=match kvs with
 |[]=>none
 |p::r=>if p.1=k then some p.2 else valD r k
def putD(kvs:List (Key×D))(k:Key)(d:D):List (Key×D):=if(kvs.any fun p=>decide (p.1=k))=true then kvs.map (fun p=>if p.1=k then(p.1,d)else p)else kvs++[(k,d)]
theorem DR.val{K:PySem.W.Frag}{H:Hp}{k:Key}:∀{vs:List (Key×V)}{kvs:List (Key×D)},DR K H vs kvs→(valD kvs k=none∧valV vs k=none)∨∃d v,valD kvs k=some d∧valV vs k=some v∧Rep K H v d
 |_,_,.nil=>.inl ⟨rfl,rfl⟩
 | p::vs,q::kvs,.cons h t=>by
  by_cases e:p.1=k
  ·
   refine .inr ⟨q.2,p.2,?_,valV_pos e,h.2⟩
   unfold valD
   rw[if_pos (h.1.symm.trans e)]
  ·
   have e':¬q.1=k:=fun z=>e (h.1.trans z)
   rw[valV_neg e]
   unfold valD
   rw[if_neg e']
   exact DR.val t
theorem DR.any{K:PySem.W.Frag}{H:Hp}{k:Key}:∀{vs:List (Key×V)}{kvs:List (Key×D)},DR K H vs kvs→(vs.any fun p=>decide (p.1=k))=kvs.any fun p=>decide (p.1=k)
 |_,_,.nil=>rfl
 |p::vs,q::kvs,.cons h t=>by rw[List.any_cons,List.any_cons,DR.any t,h.1]
theorem DR.repl{K:PySem.W.Frag}{H:Hp}{k:Key}{v:V}{d:D}(r:Rep K H v d):∀{vs:List (Key×V)}{kvs:List (Key×D)},DR K H vs kvs→DR K H (vs.map fun p=>if p.1=k then(p.1,v)else p) (kvs.map fun p=>if p.1=k then(p.1,d)else p)
 |_,_,.nil=>.nil
 | p::vs,q::kvs,.cons h t=>by
  rw[List.map_cons,List.map_cons]
  refine .cons ?_ (DR.repl r t)
  by_cases e:p.1=k
  ·
   rw[if_pos e,if_pos (h.1.symm.trans e)];exact⟨h.1,r⟩
  ·
   rw[if_neg e,if_neg fun z=>e (h.1.trans z)];exact h
theorem DR.put{K:PySem.W.Frag}{H:Hp}{k:Key}{v:V}{d:D}{vs:List (Key×V)}{kvs:List (Key×D)}(h:DR K H vs kvs)(r:Rep K H v d):DR K H (putK vs k v) (putD kvs k d):=by
 unfold putK putD
 rw[h.any]
 split
 ·
  exact h.repl r
 ·
  exact Paired.app h (.cons ⟨rfl,r⟩ .nil)
theorem DR.pres{K:PySem.W.Frag}{H H':Hp}(p:Pres H H'){vs:List (Key×V)}{kvs:List (Key×D)}(h:DR K H vs kvs):DR K H' vs kvs:=Paired.mapP h fun _ _ z=>⟨z.1,z.2.pres p⟩
def keyOf(d:D)(k:Key→Prop):Prop:=match d with
 |.int i=>k (.inl i)
 |.str x=>k (.inr x)
 |_=>False
theorem keyOf_is{K:PySem.W.Frag}{H:Hp}{v:V}{d:D}{u:Value}{k:Key→Prop}(h:keyOf d k)(r:Rep K H v d)(rv:RelV v u):∃key,v=kV key∧RelV (kV key) u∧k key:=by
 cases r with
 |int i=>exact⟨.inl i,rfl,rv,h⟩
 |str x=>exact⟨.inr x,rfl,rv,h⟩
 |_=>exact h.elim
def dicV(i:Nat)(ρ:Ev)(k:Addr→List (Key×D)→Prop):Prop:=match ρ[i]? with
 |some (.dic a kvs)=>k a kvs
 |_=>False
theorem dicV_is{i:Nat}{ρ:Ev}{k:Addr→List (Key×D)→Prop}(h:dicV i ρ k):∃a kvs,ρ[i]?=some (.dic a kvs)∧k a kvs:=by
 unfold dicV at h
 cases q:ρ[i]? with
 |none=>rw[q]at h;exact h.elim
 | some l =>
  rw[q]at h
  cases l with
  |dic a kvs=>exact⟨a,kvs,rfl,h⟩
  |_=>exact h.elim
section
variable{K:PySem.W.Frag}{Pr H:Hp}{σ:St}{ρ:Ev}{a:Addr}{kvs:List (Key×D)}
theorem REnv.dicAt{i:Nat}(E:REnv K Pr H σ ρ)(q:ρ[i]?=some (.dic a kvs)):σ[i]?=some (some (.ref a))∧∃vs,H a=some (.dK vs)∧DR K H vs kvs:=by
 obtain⟨sv,hs,sl⟩:=E.slot q
 unfold Slot1 at sl
 obtain⟨rfl,r⟩:=sl
 exact⟨hs,r⟩
theorem owns_cons_dic:owns (.dic a kvs::ρ)=a::owns ρ:=rfl
theorem REnv.cons_dic(E:REnv K Pr H σ ρ){vs:List (Key×V)}(h:H a=none)(r:DR K H vs kvs):REnv K Pr (upd H a (.dK vs)) (some (.ref a)::σ) (.dic a kvs::ρ):=by
 have E':=E.new (o:=.dK vs) h
 refine⟨E'.sub,?_,fun b hb=>?_,.cons ?_ E'.sl⟩
 ·
  rw[owns_cons_dic]
  refine List.nodup_cons.mpr ⟨fun hm=>?_,E.nd⟩
  obtain⟨us,e,_⟩:=E.at_own hm
  rw[h]at e;cases e
 ·
  rw[owns_cons_dic]at hb
  rcases List.mem_cons.mp hb with rfl|hb
  ·
   cases q:Pr b with
   |none=>rfl
   |some u=>rw[E.sub b u q]at h;cases h
  ·
   exact E.off b hb
 ·
  unfold Slot1
  exact⟨rfl,vs,upd_same,r.pres fun b u _ e=>by rw[upd_ne (ne_of_none e h)];exact e⟩
end
section
variable{X:Cx}{b e:Expr}{pos p:Pos}{tb:W L}{x:Str}
theorem Inv.dicOk{pins:List (Addr×Obj)}{σ:St}{H:Hp}{s:Shared}{a:Addr}{vs:List (Key×V)}(I:Inv X pins σ H s)(h:H a=some (.dK vs)):vs.length≤sizeLine∧(a == sysModules)=false∧∃us,KV vs us∧s.heap.DictOf (mixKind X.prog X.w) a us:=I.hok a _ h
def wDGet(i:Nat)(tb:W L):W L:=fun ρ post=>dicV i ρ fun _ _=>tb ρ fun r ρ1=>toD r fun kd=>keyOf kd fun key=>dicV i ρ1 fun _ kvs=>∃y,valD kvs key=some y∧post (.d y) ρ1
theorem pl_dget(i:Nat)(hb:PL X b tb)(hs:NoSl b)(hN:X.N[i]?=some x:=by rfl)(hv:Vis X.env.scope x:=by first | exact Or.inl rfl | exact Or.inr (Or.inl rfl) | exact Or.inr (Or.inr rfl)) (hd:(x == ("__debug__" : Str))=false:=by decide)
  (hcd:(x == ("__classdict__" : Str))=false:=by decide):PL X (.Subscript (.Name x p) b pos) (wDGet i tb):=by
 intro pins s σ H Pr ρ post I E h
 obtain⟨a,kvs0,q0,h⟩:=dicV_is h
 have hσ:=(E.dicAt q0).1
 refine subD_of PySem.F.slot_dict_getitem.lookup hs (thn (pe_var hN hv hd hcd pins s σ H (fun v H'=>v=.ref a∧H=H') I ⟨_,hσ,rfl,rfl⟩) fun u s1 ⟨y,H1,I1,rx,e1,e2⟩=>?_)
 subst e1 e2
 cases rx
 refine thn (hb pins s1 σ H Pr ρ _ I1 E h) fun u2 s2 q=>?_
 obtain⟨v,H2,kd,ρ2,I2,r2,E2,q2⟩:=EL.frz (post:=fun kd ρ1=>keyOf kd fun key=>dicV i ρ1 fun _ kvs=>∃y,valD kvs key=some y∧post (.d y) ρ1) q
 obtain⟨_,e1,p1⟩:=E2.head_d
 cases e1
 obtain⟨key,rfl,r3,q3⟩:=keyOf_is q2 p1 r2
 obtain⟨a',kvs,qd,y,hy,q4⟩:=dicV_is q3
 obtain⟨hσ',vs,hl,r⟩:=E2.tail.dicAt qd
 rw[hσ]at hσ'
 cases hσ'
 obtain⟨_,_,us,rel,dd⟩:=I2.dicOk hl
 rcases r.val (k:=key)with⟨z,_⟩|⟨d,w,z1,z2,z3⟩
 ·
  rw[hy]at z;cases z
 ·
  rw[hy]at z1
  cases z1
  obtain⟨w',hw,rw'⟩:=RelO.some_of (v:=w) (o:=valueAt us key) (by rw[← z2];exact rel.val key)
  exact⟨dd.typeIs,wpAny_getItem_of (kV_is r3) dd.mapOf hw ⟨w,H2,_,ρ2,I2.tok _,rw',E2.tail.cons_d z3,q4⟩⟩
def wDIn(neg:Bool)(i:Nat)(tb:W L):W L:=fun ρ post=>tb ρ fun r ρ1=>toD r fun kd=>keyOf kd fun key=>dicV i ρ1 fun _ kvs=>post (.d (.bl (if neg then !(valD kvs key).isSome else(valD kvs key).isSome))) ρ1
theorem din_run{pins:List (Addr×Obj)}{σ:St}{H Pr:Hp}{s:Shared}{ρ:Ev}{i:Nat}{α:Type}{Q:α→Shared→Prop}{f:Value→Value→Sem α}{R:Bool→Ev→Prop}(hb:PL X b tb)(hN:X.N[i]?=some x)(hv:Vis X.env.scope x) (hd:(x == ("__debug__" : Str))=false) (hcd:(x == ("__classdict__" : Str))=false) (I:Inv X pins σ H s) (E:REnv X.K Pr H σ ρ)
  (h:tb ρ fun r ρ1=>toD r fun kd=>keyOf kd fun key=>dicV i ρ1 fun _ kvs=>R (valD kvs key).isSome ρ1)
  (hf:∀(u:Value)(a:Addr)(key:Key)(s2:Shared)(H2:Hp)(ρ2:Ev)(us:List (Key×Value))(c:Bool),Inv X pins σ H2 s2→REnv X.K Pr H2 σ ρ2→RelV (kV key) u→(a == sysModules)=false→s2.heap.DictOf (mixKind X.prog X.w) a us→(valueAt us key).isSome=c→R c ρ2→wpAny (model X.prog X.w) X.A (f u (.ref a)) Q X.xe s2) :
  wpAny (model X.prog X.w) X.A (eval b X.env) (fun v s₁=>wpAny (model X.prog X.w) X.A (eval (.Name x p) X.env) (fun u s₂=>wpAny (model X.prog X.w) X.A (f v u) Q X.xe s₂) X.xe s₁) X.xe s:=by
 refine thn (hb pins s σ H Pr ρ _ I E h) fun u s1 q=>?_
 obtain⟨v,H2,kd,ρ2,I2,r2,E2,q2⟩:=EL.frz (post:=fun kd ρ1=>keyOf kd fun key=>dicV i ρ1 fun _ kvs=>R (valD kvs key).isSome ρ1) q
 obtain⟨_,e1,p1⟩:=E2.head_d
 cases e1
 obtain⟨key,rfl,r3,q3⟩:=keyOf_is q2 p1 r2
 obtain⟨a,kvs,qd,q4⟩:=dicV_is q3
 obtain⟨hσ,vs,hl,r⟩:=E2.tail.dicAt qd
 refine thn (pe_var hN hv hd hcd pins s1 σ H2 (fun v H'=>v=.ref a∧H2=H') I2 ⟨_,hσ,rfl,rfl⟩) fun u2 s2 ⟨y,H3,I3,rx,e1,e2⟩=>?_
 subst e1 e2
 cases rx
 obtain⟨_,hS,us,rel,dd⟩:=I3.dicOk hl
 refine hf u a key s2 H2 ρ2 us _ I3 E2.tail r3 hS dd ?_ q4
 rw[← (rel.val key).isSome_eq]
 rcases r.val (k:=key)with⟨z,z'⟩|⟨d,w,z1,z2,z3⟩
 ·
  rw[z,z'];rfl
 ·
  rw[z1,z2];rfl
theorem pb_din(i:Nat)(hb:PL X b tb)(hm:behindInMarks .In (.Name x p)=false)(hN:X.N[i]?=some x:=by rfl)(hv:Vis X.env.scope x:=by first | exact Or.inl rfl | exact Or.inr (Or.inl rfl) | exact Or.inr (Or.inr rfl)) (hd:(x == ("__debug__" : Str))=false:=by decide)
  (hcd:(x == ("__classdict__" : Str))=false:=by decide):PB X (.Compare b [.In] [.Name x p] pos) (wTest (wDIn false i tb)):=fun pins s σ H Pr ρ post I E h =>
 wpAny_isTrue_Compare1 (din_run (R:=fun c ρ1=>post c ρ1) hb hN hv hd hcd I E h fun u a key s2 H2 ρ2 us c I2 E2 r3 hS dd e q=>wpAny_in_of (kV_is r3) hS dd.mapOf (by rw[e];exact wpAny_truthy_bool ⟨H2,ρ2,I2.tok _,E2,q⟩)) hm
theorem pb_dnin(i:Nat)(hb:PL X b tb)(hm:behindInMarks .NotIn (.Name x p)=false)(hN:X.N[i]?=some x:=by rfl)(hv:Vis X.env.scope x:=by first | exact Or.inl rfl | exact Or.inr (Or.inl rfl) | exact Or.inr (Or.inr rfl)) (hd:(x == ("__debug__" : Str))=false:=by decide)
  (hcd:(x == ("__classdict__" : Str))=false:=by decide):PB X (.Compare b [.NotIn] [.Name x p] pos) (wTest (wDIn true i tb)):=fun pins s σ H Pr ρ post I E h =>
 wpAny_isTrue_Compare1 (din_run (R:=fun c ρ1=>post (!c) ρ1) hb hN hv hd hcd I E h fun u a key s2 H2 ρ2 us c I2 E2 r3 hS dd e q=>wpAny_notIn_of (kV_is r3) hS dd.mapOf (by rw[e];exact wpAny_truthy_bool ⟨H2,ρ2,I2.tok _,E2,q⟩)) hm
def flatC:D→Bool
 |.int _=>true
 |.str _=>true
 |.bl _=>true
 |.non=>true
 |_=>false
theorem Rep.flatC{K:PySem.W.Frag}{H H':Hp}{v:V}{d:D}(h:L2.flatC d=true)(r:Rep K H v d):Rep K H' v d:=by
 cases r with
 |int i=>exact .int i
 |str i=>exact .str i
 |bl i=>exact .bl i
 |non=>exact .non
 |_=>cases h
inductive DPs (X:Cx):List (Option Expr)→List Expr→List (Key×D)→Prop where
 |nil:DPs X [] [] []
 |int {k v:Expr} {ks:List (Option Expr)} {vs:List Expr} {i:Int} {d:D} {kvs:List (Key×D)} (hk:PL X k (wC (.int i))) (hv:PL X v (wC d)) (hf:flatC d=true) (t:DPs X ks vs kvs):DPs X (some k::ks) (v::vs) ((.inl i,d)::kvs)
 |str {k v:Expr} {ks:List (Option Expr)} {vs:List Expr} {y:Str} {d:D} {kvs:List (Key×D)} (hk:PL X k (wC (.str y))) (hv:PL X v (wC d)) (hf:flatC d=true) (t:DPs X ks vs kvs):DPs X (some k::ks) (v::vs) ((.inr y,d)::kvs)
theorem DPs.run{pos:Pos}{pins:List (Addr×Obj)}{σ:St}{Pr:Hp}{ρ:Ev}:∀{ks:List (Option Expr)}{vs:List Expr}{kvs:List (Key×D)},DPs X ks vs kvs→∀{H:Hp}{s:Shared}{Q:List (Value×Value)→Shared→Prop},Inv X pins σ H s→REnv X.K Pr H σ ρ →
  (∀(H':Hp)(s':Shared)(us:List (Value×Value))(ps:List (Key×V))(qs:List (Key×Value)),Inv X pins σ H' s'→REnv X.K Pr H' σ ρ→Carries (mixKind X.prog X.w) us qs→KV ps qs→DR X.K H' ps kvs→Q us s') →
  wpAny (model X.prog X.w) X.A (evalPairs (pairTrees ks vs X.env pos)) Q X.xe s
 |_,_,_,.nil,H,s,Q,I,E,h=>pairTrees_nil_walk (h H s [] [] [] I E True.intro .nil .nil)
 | _,_,_,.int (d:=d) hk hv hf t,H,s,Q,I,E,h=>by
  refine pairTrees_cons_walk (thn (hk pins s σ H Pr ρ (fun r ρ'=>r=.d _∧ρ'=ρ) I E ⟨rfl,rfl⟩) fun u s1 ⟨v,H1,r,ρ',I1,rv,E1,e1,e2⟩=>?_)
  subst e1 e2
  refine thn (hv pins s1 σ H1 Pr _ (fun r ρ'=>r=.d d∧ρ'=_) I1 E1.tail ⟨rfl,rfl⟩) fun u2 s2 ⟨v2,H2,r2,ρ2,I2,rv2,E2,e1,e2⟩=>?_
  subst e1 e2
  obtain⟨_,z1,p1⟩:=E1.head_d
  cases z1
  cases p1
  obtain⟨_,z2,p2⟩:=E2.head_d
  cases z2
  exact DPs.run t I2 E2.tail fun H' s' us ps qs I3 E3 hc hk3 hd=>h H' s' ((u,u2)::us) ((.inl _,v2)::ps) ((.inl _,u2)::qs) I3 E3 ⟨kV_is rv,rfl,hc⟩ (.cons ⟨rfl,rv2⟩ hk3) (.cons ⟨rfl,p2.flatC hf⟩ hd)
 | _,_,_,.str (d:=d) hk hv hf t,H,s,Q,I,E,h=>by
  refine pairTrees_cons_walk (thn (hk pins s σ H Pr ρ (fun r ρ'=>r=.d _∧ρ'=ρ) I E ⟨rfl,rfl⟩) fun u s1 ⟨v,H1,r,ρ',I1,rv,E1,e1,e2⟩=>?_)
  subst e1 e2
  refine thn (hv pins s1 σ H1 Pr _ (fun r ρ'=>r=.d d∧ρ'=_) I1 E1.tail ⟨rfl,rfl⟩) fun u2 s2 ⟨v2,H2,r2,ρ2,I2,rv2,E2,e1,e2⟩=>?_
  subst e1 e2
  obtain⟨_,z1,p1⟩:=E1.head_d
  cases z1
  cases p1
  obtain⟨_,z2,p2⟩:=E2.head_d
  cases z2
  exact DPs.run t I2 E2.tail fun H' s' us ps qs I3 E3 hc hk3 hd=>h H' s' ((u,u2)::us) ((.inr _,v2)::ps) ((.inr _,u2)::qs) I3 E3 ⟨kV_is rv,rfl,hc⟩ (.cons ⟨rfl,rv2⟩ hk3) (.cons ⟨rfl,p2.flatC hf⟩ hd)
theorem DPs.len:∀{ks:List (Option Expr)}{vs:List Expr}{kvs:List (Key×D)},DPs X ks vs kvs→ks.all (·.isSome)=true∧ks.length=vs.length∧ks.length=kvs.length
 |_,_,_,.nil=>⟨rfl,rfl,rfl⟩
 | _,_,_,.int _ _ _ t=>by
  obtain⟨h1,h2,h3⟩:=t.len
  simp[h1,h2,← h3]
 | _,_,_,.str _ _ _ t=>by
  obtain⟨h1,h2,h3⟩:=t.len
  simp[h1,h2,← h3]
end
end L2
namespace L2
open PySem PySem.Spec PyProof.Rows PySem.SeqAt
mutual
def sameOk:Nat→D→Bool
 |_,.non=>true
 |_,.bl _=>true
 |_,.int _=>true
 |_,.str _=>true
 |n+1,.tup xs=>sameOks n xs
 |n+1,.lst xs=>sameOks n xs
 |n+1,.dct m=>m == 0
 |_,_=>false
def sameOks:Nat→List D→Bool
 |_,[]=>true
 |n,x::xs=>sameOk n x && sameOks n xs
end
mutual
def sgnD:D→Nat
 |.int _=>602
 |.str x=>10*x.length+2
 |.tup xs=>sgnDs xs+3
 |.lst xs=>sgnDs xs+3
 |_=>6
def sgnDs:List D→Nat
 |[]=>0
 |x::xs=>sgnD x+2+sgnDs xs
end
mutual
theorem sgn_is:∀d:D,(toP d).leavesShort 601=true→(toP d).shown.length≤sgnD d
 |.non,_=>by decide
 |.bl b,_=>by cases b<;>decide
 | .int i,h=>by
  have e:(PyData.shown (.int i)).length≤601:=by simpa only[toP,PyData.leavesShort,decide_eq_true_eq]using h
  exact Nat.le_succ_of_le e
 | .str x,h=>by
  have hx:∀c∈x.cps.toList,c<16^8:=by simpa only[toP,PyData.leavesShort,List.all_eq_true,decide_eq_true_eq]using h
  have e:=PySem.StrLaws.reprText_len x hx
  simp only[toP,PyData.shown,sgnD]
  omega
 | .tup xs,h=>by
  have h1:=sgn_iss xs (by simpa only[toP,PyData.leavesShort]using h)
  have h2:=tupleText_len_le (PyData.shownAll (toPs xs))
  have h3:=PyData.shownAll_length (toPs xs)
  simp only[toP,PyData.shown,sgnD]
  omega
 | .lst xs,h=>by
  have h1:=sgn_iss xs (by simpa only[toP,PyData.leavesShort]using h)
  have h2:=listText_len_le (PyData.shownAll (toPs xs))
  have h3:=PyData.shownAll_length (toPs xs)
  simp only[toP,PyData.shown,sgnD]
  omega
 |.dct _,_=>by simp only[toP,sgnD];decide
 |.exc _ _ _,_=>by simp only[toP,sgnD];decide
 |.fn _ _,_=>by simp only[toP,sgnD];decide
theorem sgn_iss:∀ds:List D,PyData.leavesShortAll 601 (toPs ds)=true→((PyData.shownAll (toPs ds)).map (·.length)).sum+2*(toPs ds).length≤sgnDs ds
 |[],_=>by simp only[toPs,PyData.shownAll,List.map_nil,List.sum_nil,List.length_nil,sgnDs];omega
 | d::ds,h=>by
  have h':(toP d).leavesShort 601=true∧PyData.leavesShortAll 601 (toPs ds)=true:=by simpa only[toPs,PyData.leavesShortAll,Bool.and_eq_true]using h
  have h1:=sgn_is d h'.1
  have h2:=sgn_iss ds h'.2
  simp only[toPs,PyData.shownAll,List.map_cons,List.sum_cons,List.length_cons,sgnDs]
  omega
end
structure ReprL (d:D):Prop where
 ok:okD 40 d=true
 sh:shortD d=true
 ln:(toP d).shown.length≤sizeLine
theorem ReprOk.l{d:D}(h:ReprOk d):ReprL d:=⟨h.ok,h.sh,h.len⟩
end L2
namespace L2
open PySem PySem.Spec PyProof.Rows
end L2
namespace L2
open PySem PySem.Spec PyProof.Rows PySem.W
end L2
namespace L2
open PySem PySem.Spec PyProof.Rows
end L2
namespace L2
open PySem PySem.Spec PyProof.Rows PySem.SeqAt
mutual
def okW:D→Bool
 |.dct n=>n == 0
 |.exc _ _ _=>false
 |.fn _ _=>false
 |.tup xs=>okWs xs
 |.lst xs=>okWs xs
 |.str x=>PyData.strOk x
 |_=>true
def okWs:List D→Bool
 |[]=>true
 |x::xs=>okW x && okWs xs
end
section
variable{X:Cx}{pins:List (Addr×Obj)}{σ:St}{H:Hp}{s:Shared}
theorem Inv.ne_sys(I:Inv X pins σ H s){a:Addr}{u:HO}(h:H a=some u):sysModules≠a:=fun e=>by
 obtain⟨mm,o,es,ep,q,_⟩:=I.mod.sysm
 subst e
 rw[(I.bs _ o q).2]at h
 cases h
theorem Inv.lst_sys(I:Inv X pins σ H s){a:Addr}{xs:List V}(h:SqZ X.K H a xs):sysModules≠a:=by
 rcases h with⟨o,h⟩|⟨o,its,n,h,_,_,hd,_⟩
 ·
  exact I.ne_sys h
 ·
  intro e
  obtain⟨mm,o',es,ep,q,hd',_⟩:=I.mod.sysm
  subst e
  rw[I.mod.kin _ o h]at q
  cases q
  rw[hd]at hd'
  cases hd'
mutual
theorem readsW(I:Inv X pins σ H s):∀(d:D)(x:V)(u:Value),RelV x u→Rep X.K H x d→okW d=true→∃as,Reads s.heap u (toP d) as∧sysModules∉as
 |.non,_,_,rv,r,_=>by cases r;cases rv;exact⟨_,.none,List.not_mem_nil⟩
 |.bl b,_,_,rv,r,_=>by cases r;cases rv;exact⟨_,.bool b,List.not_mem_nil⟩
 |.int i,_,_,rv,r,_=>by cases r;obtain⟨t,rfl⟩:=rv;exact⟨_,.int i t,List.not_mem_nil⟩
 |.str z,_,_,rv,r,_=>by cases r;obtain⟨t,rfl⟩:=rv;exact⟨_,.str z t,List.not_mem_nil⟩
 | .tup xs,_,_,rv,r,hc=>by
  cases r with
  | tup h rs =>
   cases rv
   obtain⟨its,vs,⟨o,e,c,n,d⟩,_⟩:=I.tuple h
   obtain⟨as,ra,hn⟩:=readsWs I xs _ _ vs rs (by simpa only[okW]using hc)
   exact⟨_,.tuple (xs:=toPs xs) e c d (by simpa using ra),hn⟩
 | .lst xs,_,_,rv,r,hc=>by
  cases r with
  | lst h rs =>
   cases rv
   obtain⟨its,vs,⟨o,n,e,c,_,d⟩,_⟩:=I.list h.l
   obtain⟨as,ra,hn⟩:=readsWs I xs _ _ vs rs (by simpa only[okW]using hc)
   exact⟨_,.list (xs:=toPs xs) e c d (by simpa using ra),fun z=>(List.mem_cons.mp z).elim (I.lst_sys h) hn⟩
 | .dct n,_,_,rv,r,hc=>by
  cases r with
  | dct h =>
   rename_i a o kvs
   cases rv
   have hk:kvs=[]:=by
    have:kvs.length=0:=by simpa only[okW,beq_iff_eq]using hc
    exact List.length_eq_zero_iff.mp this
   subst hk
   obtain⟨_,_,_,vs,kv,o',es,ep,e,ex,d,_,pr,_⟩:=I.hok a _ h
   cases kv
   have he:es.toList=[]:=by
    cases q:es.toList with
    |nil=>rfl
    |cons x xs=>rw[q]at pr;cases pr
   refine⟨_,.dict (kvs:=[]) (as:=[]) (bs:=[]) e ex.1 d (by rw[he];exact .nil) (by rw[he];exact .nil),fun z=>?_⟩
   exact(I.ne_sys h) (by simpa using z)
 |.exc _ _ _,_,_,_,_,hc=>by simp[okW]at hc
 |.fn _ _,_,_,_,_,hc=>by simp[okW]at hc
theorem readsWs(I:Inv X pins σ H s):∀(ds:List D)(vs:List V)(us:List Value),Vals vs us→Reps X.K H vs ds→okWs ds=true→∃as,ReadsAll s.heap us (toPs ds) as∧sysModules∉as
 |[],_,_,rv,r,_=>by cases r;cases rv;exact⟨_,.nil,List.not_mem_nil⟩
 | d::ds,_,_,rv,r,hc=>by
  have hc':okW d=true∧okWs ds=true:=by simpa[okWs]using hc
  cases r with
  | cons r0 rs =>
   cases rv with
   | cons v0 vs =>
    obtain⟨as,ra,na⟩:=readsW I d _ _ v0 r0 hc'.1
    obtain⟨bs,rb,nb⟩:=readsWs I ds _ _ vs rs hc'.2
    exact⟨_,.cons ra rb,fun z=>(List.mem_append.mp z).elim na nb⟩
end
end
mutual
theorem okW_short:∀d:D,okW d=true→shortD d=true→(toP d).leavesShort 601=true
 |.non,_,_=>rfl
 |.bl _,_,_=>rfl
 |.dct _,_,_=>rfl
 |.exc _ _ _,h,_=>by simp[okW]at h
 |.fn _ _,h,_=>by simp[okW]at h
 | .int i,_,h=>by
  have:=(short_is (.int i) h).1
  simpa only[toP,PyData.leavesShort,PyData.intsShort]using this
 |.str x,h,hs=>PyData.leavesShort_of_canLay0 601 (.str x) (by simpa only[okW,PyData.canLay0]using h) (short_is (.str x) hs).1
 | .tup xs,h,hs=>by
  have:=okWs_short xs (by simpa only[okW]using h) (by simpa only[shortD]using hs)
  simpa only[toP,PyData.leavesShort]using this
 | .lst xs,h,hs=>by
  have:=okWs_short xs (by simpa only[okW]using h) (by simpa only[shortD]using hs)
  simpa only[toP,PyData.leavesShort]using this
theorem okWs_short:∀ds:List D,okWs ds=true→shortDs ds=true→PyData.leavesShortAll 601 (toPs ds)=true
 |[],_,_=>rfl
 | d::ds,h,hs=>by
  simp only[okWs,Bool.and_eq_true]at h
  simp only[shortDs,Bool.and_eq_true]at hs
  simp only[toPs,PyData.leavesShortAll,okW_short d h.1 hs.1,okWs_short ds h.2 hs.2,Bool.and_self]
end
structure StrW (d:D):Prop where
 ok:okW d=true
 sh:shortD d=true
 dp:(toP d).depth≤40
 sg:sgnD d≤16777216
 ni:∀i,d≠.int i
theorem StrW.len{d:D}(h:StrW d):(toP d).shown.length≤sizeLine:=by
 have e:sizeLine=16777216:=by decide
 rw[e]
 exact Nat.le_trans (sgn_is d (okW_short d h.ok h.sh)) h.sg
end L2
namespace L2
open PySem PySem.Spec PyProof.Rows
section
def takeW(o:Option L)(i k:Nat)(ρ:Ev)(post:L→Ev→Prop):Prop:=match o with
 |some (.bx none ls)=>∃l,ls[k]?=some l∧post l (ρ.set i (.bx none (ls.set k .un)))
 |some (.d (.tup ds))=>∃d,ds[k]?=some d∧post (.d d) ρ
 |_=>False
theorem takeW_bx(ls:List L)(i k:Nat)(ρ:Ev)(post:L→Ev→Prop):takeW (some (.bx none ls)) i k ρ post=∃l,ls[k]?=some l∧post l (ρ.set i (.bx none (ls.set k .un))):=(rfl)
theorem takeW_d(ds:List D)(i k:Nat)(ρ:Ev)(post:L→Ev→Prop):takeW (some (.d (.tup ds))) i k ρ post=∃d,ds[k]?=some d∧post (.d d) ρ:=(rfl)
end
section
def tupOf(r:L)(ρ:Ev)(post:L→Ev→Prop):Prop:=match r with
 |.bx (some _) ls=>post (.bx none ls) ρ
 |_=>False
theorem tupOf_bx(a:Addr)(ls:List L)(ρ:Ev)(post:L→Ev→Prop):tupOf (.bx (some a) ls) ρ post=post (.bx none ls) ρ:=(rfl)
end
end L2
namespace L2
open PySem PySem.Spec PyProof.Rows PySem.W
theorem Un.one{P:Program}{w:World}{fs:List Addr}{H H':Hp}{h h':Heap}{c:Addr}{oc:Obj}(hc:H c=none)(gc:h.get? c=some oc)(cc:∀q,¬CodeOb oc q)(u:Un fs [] (upd H c (.frz oc (.own c))) H' h h')(ok:HOk P w H' h') :
  Un fs [] H (del H' c) h h'∧HOk P w (del H' c) h':=by
 have zc:H' c=some (.frz oc (.own c)):=u.frzs c oc _ upd_same
 have gc':h'.get? c=some oc:=(ok c _ zc).1
 have nz:∀b o,H' b=some o→o≠.frz oc (.own c)→b≠c:=fun b o e n z=>by subst z;rw[zc]at e;cases e;exact n rfl
 refine⟨⟨fun b o e n hb hx=>?_,fun b o e n hb hx=>?_,fun b o e n hx=>?_,fun b o e hx=>u.there b o e hx,fun b xs e=>?_,fun b o v e=>?_,fun b t e=>?_⟩,fun b o e=>?_⟩
 ·
  by_cases z:b=c
  ·
   subst z;rw[gc]at e;cases e;exact gc'
  ·
   exact u.keep b o e (by rw[upd_ne z];exact n) hb hx
 ·
  by_cases z:b=c
  ·
   subst z;rw[gc]at e;cases e;exact⟨oc.slots,gc'⟩
  ·
   exact u.slot b o e (by rw[upd_ne z];exact n) hb hx
 ·
  by_cases z:b=c
  ·
   subst z;exact del_self
  ·
   rw[del_ne z];exact u.free b o e (by rw[upd_ne z];exact n) hx
 ·
  have z:=ne_of_none e hc
  rw[del_ne z];exact u.tups b xs (by rw[upd_ne z];exact e)
 ·
  have z:=ne_of_none e hc
  rw[del_ne z];exact u.frzs b o v (by rw[upd_ne z];exact e)
 ·
  have z:=ne_of_none e hc
  rw[del_ne z];exact u.tbls b t (by rw[upd_ne z];exact e)
 ·
  have hb:b≠c:=fun z=>by subst z;rw[del_self]at e;cases e
  rw[del_ne hb]at e
  refine(ok b o e).stay (fun _ _ _ z=>z) (fun d z=>?_) (fun d xs z=>?_) fun d od q co z=>?_
  ·
   rw[del_ne (nz d _ z fun y=>nomatch y)];exact z
  ·
   rw[del_ne (nz d _ z fun y=>nomatch y)];exact z
  ·
   rw[del_ne (nz d _ z fun y=>by cases y;exact cc q co)];exact z
end L2
namespace L2
open PySem PySem.W
end L2
namespace L2
open PySem PySem.Spec PyProof.Rows PySem.SeqAt
structure RepW (d:D):Prop where
 ok:okW d=true
 sh:shortD d=true
 dp:(toP d).depth≤40
 sg:sgnD d≤16777216
theorem RepW.len{d:D}(h:RepW d):(toP d).shown.length≤sizeLine:=by
 have e:sizeLine=16777216:=by decide
 rw[e]
 exact Nat.le_trans (sgn_is d (okW_short d h.ok h.sh)) h.sg
section
variable{X:Cx}
def opReprW:OpN:=fun ds k=>∃d,ds=[d]∧RepW d∧k (.d (.str (reprD d)))
theorem cd_reprW{k:Nat}(hr:Room k X.A):CallD X (.builtin "repr") opReprW:=by
 intro pins s σ H Pr ρ vs us ds post I r E ps ⟨d,e,ho,h⟩
 subst e
 obtain⟨v,rfl,rd⟩:=reps1 ps
 obtain⟨u,rfl,ru⟩:=vals1 r
 have ref:∀ a,u=.ref a→wpAny (model X.prog X.w) X.A (call (.builtin "repr") [u]) (fun w s'=>∃ z H' r,Inv X pins σ H' s'∧RelV z w∧REnv X.K Pr H' (some z::σ) (r::ρ)∧post r) X.xe s:=by
  rintro a rfl
  obtain⟨as,rr,hn⟩:=readsW I d v _ ru rd ho.ok
  have hdp:=ho.dp
  refine repr_of_reads' rr (short_is d ho.sh).2 (fun _=>hn) hr.gd (by have:=hr.units;omega) (fun _ _ e=>e) (fun h' t tk hk=>?_) ho.len
  exact⟨.str _,H,_,I.kept (h':=h') (t':=tk) hk,⟨t,rfl⟩,E.cons_d (.str _),h⟩
 cases rd with
 |non=>cases ru;exact PySem.P.repr_of_none ⟨.str _,H,_,I.tok _,⟨_,rfl⟩,E.cons_d (.str _),h⟩
 |bl b=>cases ru;exact PySem.P.repr_of_bool ⟨.str _,H,_,I.tok _,⟨_,rfl⟩,E.cons_d (.str _),by cases b<;>exact h⟩
 | int i =>
  obtain⟨t,rfl⟩:=ru
  have h2:=(short_is (.int i) ho.sh).2
  simp only[toP,PyData.showable,decide_eq_true_eq]at h2
  exact PySem.P.repr_of_int h2 ⟨.str _,H,_,I.tok _,⟨_,rfl⟩,E.cons_d (.str _),h⟩
 |str x=>obtain⟨t,rfl⟩:=ru;exact PySem.P.repr_of_str ⟨.str _,H,_,I.tok _,⟨_,rfl⟩,E.cons_d (.str _),h⟩ ho.len
 |tup h1 h2=>cases ru;exact ref _ rfl
 |lst h1 h2=>cases ru;exact ref _ rfl
 |dct h1=>cases ru;exact ref _ rfl
 |exc=>have:=ho.ok;simp[okW]at this
 |fn=>have:=ho.ok;simp[okW]at this
end
end L2
namespace L2
open PySem PySem.Spec PyProof.Rows
theorem peek_coreS{X:Cx}{pins:List (Addr×Obj)}{σ0:St}{s s1:Shared}{Pr H H1 H':Hp}{σ τ:St}{ρ ρ1 lam:Ev}{i:Nat}{k:L}{x:D}(I:Inv X pins σ0 H s)(E:REnv X.K Pr H σ ρ)(hi:ρ[i]?=some k)(hSa:∀a∈ownsL k,∃vs,H a=some (.lst vs))(F:Frozen H H1 (ownsL k))
  (hl1:ρ1.length=ρ.length) (how:owns ρ1=owns (ρ.set i (.d x))) (hxi:ρ1[i]?=some (.d x)) (hsl:∀(j:Nat)(l:L),j≠i→ρ1[j]?=some l→noLr l=true∨∃y,l=.d y∧ρ[j]?=some (.d y))
  (I':Inv X pins σ0 H' s1) (E1:REnv X.K Pr H1 σ (ρ.set i (.d x))) (E':REnv X.K (butOwn H1 (ρ.set i (.d x))) H' (τ++σ) (lam++ρ1)) (hlen:τ.length=lam.length) (hr:lam.all noLr=true):∃H2,Inv X pins σ0 H2 s1∧REnv X.K Pr H2 (τ++σ) (lam++ρ1.set i k):=by
 have hil:i<ρ.length:=(List.getElem?_eq_some_iff.mp hi).1
 have hil1:i<ρ1.length:=by omega
 have prm:=owns_takeL hi (l:=.d x) rfl
 have hnd:(ownsL k++owns (ρ.set i (.d x))).Nodup:=prm.nodup_iff.mp E.nd
 obtain⟨nd1,nd2,nd3⟩:=List.nodup_append.mp hnd
 have hna:∀a∈ownsL k,a∉owns (ρ.set i (.d x)):=fun a ha z=>nd3 a ha a z rfl
 have hb:∀b u,H1 b=some u→b∉owns (ρ.set i (.d x))→H' b=some u:=fun b u e hno=>by
  refine E'.sub b u ?_
  unfold butOwn
  rw[if_neg hno]
  exact e
 have hS:∀a∈ownsL k,∃o vs,H' a=some (.frz o (.lst vs)):=fun a ha=>by
  obtain⟨vs,e⟩:=hSa a ha
  obtain⟨o,eo⟩:=F.2.2 a ha vs e
  exact⟨o,vs,hb a _ eo (hna a ha)⟩
 obtain⟨H2,I2,T⟩:=thawAll (ownsL k) nd1 I' hS fun a ha o u e=>by
  have z:=I.base.frzs a o u e
  obtain⟨vs,q⟩:=hSa a ha
  rw[q]at z;cases z
 have back:∀a∈ownsL k,H2 a=H a:=fun a ha=>by
  obtain⟨vs,e⟩:=hSa a ha
  obtain⟨o,eo⟩:=F.2.2 a ha vs e
  obtain⟨o',vs',e1,e2⟩:=T.2 a ha
  rw[hb a _ eo (hna a ha)]at e1
  cases e1
  rw[e2,e]
 have P:Pres H H2:=fun b u hp e=>by
  have hno:b∉owns ρ:=fun z=>by
   obtain⟨ws,hz,mu⟩:=E.at_own z
   rw[hz]at e;cases e;exact mu.no hp
  have hnk:b∉ownsL k:=fun z=>hno (prm.mem_iff.mpr (List.mem_append_left _ z))
  rw[T.1 b hnk]
  exact hb b u (F.1 b u hp e) fun z=>hno (prm.mem_iff.mpr (List.mem_append_right _ z))
 obtain⟨sl1,sl2⟩:=Paired.unapp hlen E'.sl
 have ndE:=E'.nd
 rw[owns_append,how]at ndE
 obtain⟨ne1,ne2,ne3⟩:=List.nodup_append.mp ndE
 have lamS:∀a∈owns lam,a∉ownsL k∧Pr a=none∧a∉owns (ρ.set i (.d x)):=fun a ha=>by
  obtain⟨vs,e,mu⟩:=E'.at_own (a:=a) (by rw[owns_append];exact List.mem_append_left _ ha)
  have h1:a∉ownsL k:=fun z=>by
   obtain⟨o,us,e1,_⟩:=T.2 _ z
   rw[e1]at e
   cases e
   exact mu
  have h3:a∉owns (ρ.set i (.d x)):=fun z=>ne3 a ha a z rfl
  refine⟨h1,?_,h3⟩
  have hoff:=E'.off a (by rw[owns_append];exact List.mem_append_left _ ha)
  unfold butOwn at hoff
  rw[if_neg h3]at hoff
  cases ep:Pr a with
  |none=>rfl
  |some w=>rw[E1.sub a w ep]at hoff;cases hoff
 have slt:Paired (Slot1 X.K H2) σ (ρ1.set i .un):=by
  have q:Paired (Slot1 X.K H') σ (ρ1.set i .un):=Paired.set_r (b:=L.un) i sl2 fun _ _=>by unfold Slot1;exact True.intro
  refine slots_thaw T P (ρ0:=ρ) (by simpa using hl1) (fun j l e=>?_) E.sl q
  by_cases hj:j=i
  ·
   subst hj
   rw[List.getElem?_set_self hil1]at e
   cases e
   exact .inl noLr_un
  ·
   rw[List.getElem?_set_ne (Ne.symm hj)]at e
   exact hsl j l hj e
 have slr:Paired (Slot1 X.K H2) τ lam:=Paired.impMem sl1 fun l hl s q=>q.thaw T l (List.all_eq_true.mp hr l hl)
 have pr1:(owns (ρ1.set i k)).Perm (ownsL k++owns ρ1):=by
  have hk1:(ρ1.set i k)[i]?=some k:=List.getElem?_set_self hil1
  have:=owns_takeL hk1 (l:=.d x) rfl
  rw[List.set_set]at this
  have e2:ρ1.set i (.d x)=ρ1:=by
   refine List.ext_getElem? fun j=>?_
   by_cases hj:j=i
   ·
    subst hj;rw[List.getElem?_set_self hil1,hxi]
   ·
    rw[List.getElem?_set_ne (Ne.symm hj)]
  rwa [e2]at this
 have pr2:(owns (ρ1.set i k)).Perm (owns ρ):=by
  rw[how]at pr1
  exact pr1.trans prm.symm
 refine⟨H2,I2,fun b u e=>?_,?_,fun b hbm=>?_,Paired.app slr ?_⟩
 ·
  have hno:b∉owns ρ:=fun z=>by have:=E.off b z;rw[e]at this;cases this
  have hnk:b∉ownsL k:=fun z=>hno (prm.mem_iff.mpr (List.mem_append_left _ z))
  rw[T.1 b hnk]
  refine hb b u ?_ fun z=>hno (prm.mem_iff.mpr (List.mem_append_right _ z))
  rw[F.2.1 b hnk]
  exact E.sub b u e
 ·
  rw[owns_append,List.nodup_append]
  refine⟨ne1,pr2.nodup_iff.mpr E.nd,fun c hc d hd z=>?_⟩
  subst z
  obtain⟨h1,h2,h3⟩:=lamS c hc
  rcases List.mem_append.mp (prm.mem_iff.mp (pr2.mem_iff.mp hd))with z|z
  ·
   exact h1 z
  ·
   exact h3 z
 ·
  rw[owns_append]at hbm
  rcases List.mem_append.mp hbm with z|z
  ·
   exact(lamS b z).2.1
  ·
   exact E.off b (pr2.mem_iff.mp z)
 ·
  obtain⟨sv,hs,q⟩:=E.slot hi
  have:=Paired.set_r (b:=k) i slt fun s es=>by
   rw[hs]at es
   cases es
   exact q.pres P k back
  rwa [List.set_set]at this
def pkS(o q:Option L)(i j:Nat)(t:W L)(ρ:Ev)(post:L→Ev→Prop):Prop:=match o,q with
 |some (.own _ xs),some (.own b _)=>i≠j∧flatOwn i ρ=true∧t (ρ.set i (.d (.lst xs))) fun r ρ'=>noLr r=true∧∃zs,noLs zs=true∧ρ'=(ρ.set i (.d (.lst xs))).set j (.own b zs)∧post r (ρ.set j (.own b zs))
 |_,_=>False
theorem pkS_own(a b:Addr)(xs ys:List D)(i j:Nat)(t:W L)(ρ:Ev)(post:L→Ev→Prop):pkS (some (.own a xs)) (some (.own b ys)) i j t ρ post=(i≠j∧flatOwn i ρ=true∧t (ρ.set i (.d (.lst xs))) fun r ρ'=>noLr r=true∧∃zs,noLs zs=true∧ρ'=(ρ.set i (.d (.lst xs))).set j (.own b zs)∧post r (ρ.set j (.own b zs))):=(rfl)
def wPeekS(i j:Nat)(t:W L):W L:=fun ρ post=>pkS ρ[i]? ρ[j]? i j t ρ post
theorem pl_peekS{X:Cx}{e:Expr}(i j:Nat){t:W L}(h:PL X e t):PL X e (wPeekS i j t):=by
 intro pins s σ H Pr ρ post I E hw
 unfold wPeekS pkS at hw
 split at hw
 rotate_left
 ·
  exact hw.elim
 rename_i a xs b ys hi hj
 obtain⟨hij,hfl,hw⟩:=hw
 have hil:i<ρ.length:=(List.getElem?_eq_some_iff.mp hi).1
 have hjl:j<ρ.length:=(List.getElem?_eq_some_iff.mp hj).1
 obtain⟨H1,I1,E1,F,Sa⟩:=peek_in I E hi (x:=.lst xs) rfl
 refine thn (h pins s σ _ _ _ _ I1 E1.wide hw) fun u s1 ⟨v,H',r,ρ',I',rv,E',hr,zs,hz,eρ,hp⟩=>?_
 subst eρ
 have c1:owns ((ρ.set i (.d (.lst xs))).set j (.own b zs))=owns (ρ.set i (.d (.lst xs))):=owns_set_own (xs:=ys) (by rw[List.getElem?_set_ne hij];exact hj)
 have c2:((ρ.set i (.d (.lst xs))).set j (.own b zs))[i]?=some (.d (.lst xs)):=by rw[List.getElem?_set_ne (Ne.symm hij),List.getElem?_set_self hil]
 have c3:∀(m:Nat)(l:L),m≠i→((ρ.set i (.d (.lst xs))).set j (.own b zs))[m]?=some l→noLr l=true∨∃y,l=.d y∧ρ[m]?=some (.d y):=by
  intro m l hm e
  by_cases hmj:m=j
  ·
   subst hmj
   rw[List.getElem?_set_self (by simpa using hjl)]at e
   cases e
   exact .inl (by simpa[noLr]using hz)
  ·
   rw[List.getElem?_set_ne (Ne.symm hmj),List.getElem?_set_ne (Ne.symm hm)]at e
   have h1:=List.all_eq_true.mp hfl l (List.mem_of_getElem? (i:=m) (by rw[List.getElem?_set_ne (Ne.symm hm)];exact e))
   cases l with
   |un=>exact .inl noLr_un
   |d y=>exact .inr ⟨y,rfl,e⟩
   |own b ys=>exact .inl h1
   |bx b ls=>exact .inl h1
   |dic b ls=>exact .inl h1
 obtain⟨H2,I2,E2⟩:=peek_coreS (τ:=[some v]) (lam:=[r]) (ρ1:=(ρ.set i (.d (.lst xs))).set j (.own b zs)) I E hi Sa F (by simp) c1 c2 c3 I' E1 E' rfl (by simp[hr])
 have e2:((ρ.set i (.d (.lst xs))).set j (.own b zs)).set i (.own a xs)=ρ.set j (.own b zs):=by
  refine List.ext_getElem? fun m=>?_
  by_cases hm:m=i
  ·
   subst hm
   rw[List.getElem?_set_self (by simpa using hil),List.getElem?_set_ne (Ne.symm hij),hi]
  ·
   rw[List.getElem?_set_ne (Ne.symm hm)]
   by_cases hmj:m=j
   ·
    subst hmj
    rw[List.getElem?_set_self (by simpa using hjl),List.getElem?_set_self hjl]
   ·
    rw[List.getElem?_set_ne (Ne.symm hmj),List.getElem?_set_ne (Ne.symm hm),List.getElem?_set_ne (Ne.symm hmj)]
 rw[e2]at E2
 exact⟨v,H2,r,_,I2,rv,E2,hp⟩
def trdW(o:Option L)(ρ:Ev)(post:Bool→Ev→Prop):Prop:=match o with
 |some (.d (.lst xs))=>post (!xs.isEmpty) ρ
 |_=>False
theorem trdW_lst(xs:List D)(ρ:Ev)(post:Bool→Ev→Prop):trdW (some (.d (.lst xs))) ρ post=post (!xs.isEmpty) ρ:=(rfl)
end L2
namespace HT
open PySem PySem.Spec PyProof.Rows
end HT
namespace L2
open PySem PySem.Spec PyProof.Rows
end L2
namespace L2
open PySem PySem.Spec PyProof.Rows PySem.W
end L2
namespace L2
open PySem PySem.Spec PyProof.Rows PySem.SeqAt
end L2
namespace PySem
open PySem.Spec
namespace F
theorem entry_dict_update_loop:entryFor table "dict.update.loop"=some Builtin.«dict.update.loop»:=entryFor_of_tree (by kernel_rfl)
theorem plain_dict_update_loop:plainId "dict.update.loop"=true:=by decide +kernel
theorem list_keys_none:typeLookup (.type "list") "keys"=pure none:=am_miss_of_fast (by kernel_rfl)
end F
section
variable{prog:Program}{w:World}{K:Type}[DecidableEq K]{knd:KeyKind prog w K}{A:Around}{E:Value→Shared→Prop}{s:Shared}
theorem keys_miss{a:Addr}{xs:Array Value}{k:Nat}{sl:Array (Option Value)}{Q:Option Value→Shared→Prop} (hx:s.heap.get? a=some {cls:=.type "list",data:=.seq xs k,slots:=sl}) (hA:A.handled=none)
  (h:∀ h' tk e,Heap.NewExcOf s.heap h' e "AttributeError"→Q none {s with heap:=h',toks:=tk}):wpAny (model prog w) A (getAttr? (.ref a) "keys") Q E s:=by
 obtain⟨hp,g,d,tk,os⟩:=s
 have hT:∀ tk',(⟨hp,g,d,tk',os⟩:Shared).TypeIs (.ref a) "list":=fun _=>⟨_,hx,rfl⟩
 have f1:=sub_AttributeError
 have f3:=F.slot_list_getattribute.lookup
 have f4:=F.slot_list_getattribute.bind (.ref a)
 have f5:=am_list_getattr_none
 unfold getAttr? getAttrBy? getAttrBy
 repeat (any_goals (first | assumption | exact hT _ | ((with_reducible show wpAny _ _ (call (Value.builtin "list.__getattribute__") _ _) _ _ _); refine call_meets F.slot_list_getattribute (hT _) am_entry_list_getattribute (F.args_list_getattribute_2 _ _) (meets_getattribute_miss_list a xs k _ "keys" _ F.list_keys_none (by decide +kernel)) ⟨hx,hA,fun h' tk' e hx'=>?_⟩) | wp_step))
 obtain⟨t',u',he⟩:=hx'.there
 show wpAny _ _ (getattributeRaised _ _ _ _ _ _ _) _ _ _
 unfold getattributeRaised
 repeat (any_goals (first|assumption|wp_step))
 exact h _ _ _ hx'.of
def xdAll(ps:List (K×Value))(i:Nat):List (K×Value):=(ps.take i).foldl (fun m p=>stored m p.1 p.2) []
theorem xdAll_succ{ps:List (K×Value)}{i:Nat}{p:K×Value}(h:ps[i]?=some p):xdAll ps (i+1)=stored (xdAll ps i) p.1 p.2:=by
 unfold xdAll
 rw[List.take_add_one,h]
 simp only[Option.toList_some,List.foldl_append,List.foldl_cons,List.foldl_nil]
theorem xdLen(m:List (K×Value))(k:K)(v:Value):(stored m k v).length≤m.length+1:=by
 unfold stored
 split<;>simp
theorem xdAll_len(ps:List (K×Value)):∀i,(xdAll ps i).length≤i
 |0=>Nat.le_refl _
 | i+1=>by
  have ih:=xdAll_len ps i
  cases e:ps[i]? with
  | none =>
   have:xdAll ps (i+1)=xdAll ps i:=by
    unfold xdAll
    rw[List.take_add_one,e]
    simp
   rw[this]
   omega
  | some p =>
   rw[xdAll_succ e]
   have:=xdLen (xdAll ps i) p.1 p.2
   omega
theorem codeAny_dict_update_loop{l I d:Addr}{its:Array Value}{ps:List (K×Value)}{R:Result→Shared→Prop}(hh:A.handled=none)(hlI:l≠I)(hdI:d≠I)(hdl:d≠l)
  (hb:its.size+1<sizeLine) :
  ∀(k i:Nat)(t:Tok)(s:Shared),its.size-i=k→i≤its.size→s.heap.IsListIter I l i→s.heap.IsList l its→s.heap.DictOf knd d (xdAll ps i) →
   (∀(j:Nat)(v:Value),its[j]?=some v→∃a kv val k',v=Value.ref a∧a≠d∧a≠I∧PyProof.Rows.IsTup s.heap a #[kv,val]∧knd.is k' kv=true∧ps[j]?=some (k',val)) →
   (∀h' tk,h'.DictOf knd d (xdAll ps its.size)→(∀b o,b≠d→b≠I→s.heap.get? b=some o→h'.get? b=some o)→R (.ok (.ret .none)) {s with heap:=h',toks:=tk}) →
   codeAny (model prog w) A (.builtin "dict.update.loop" ⟨[.ref d,.ref I,.int i t,.none],[]⟩) R s:=by
 intro k
 induction k with
 | zero =>
  intro i t s hk hi hI hl hd hp hR
  refine codeAny_builtin F.entry_dict_update_loop ?_
  rw[Around.under_plainId F.plain_dict_update_loop _]
  show wpAny _ A.in1 (pyNext (.ref I) >>= _) _ _ s
  have hi':i=its.size:=by omega
  subst hi'
  refine wpAny_bind (wpAny_pyNext_list_end (by simp[hh]) hI hl (by simp) fun h' he'=>?_)
  show wpAny _ _ (Builtin.Dict.addKeywords d [] >>= _) _ _ _
  refine wpAny_bind (wpAny_pure (wpAny_pure ?_))
  obtain⟨o,es,ep,ho,rest⟩:=hd
  exact hR h' s.toks ⟨o,es,ep,he' d o hdI ho,rest⟩ fun b o _ hb e=>he' b o hb e
 | succ k ih =>
  intro i t s hk hi hI hl hd hp hR
  refine codeAny_builtin F.entry_dict_update_loop ?_
  rw[Around.under_plainId F.plain_dict_update_loop _]
  show wpAny _ A.in1 (pyNext (.ref I) >>= _) _ _ s
  have hlt:i<its.size:=by omega
  have hx:its[i]?=some its[i]:=by simp[hlt]
  obtain⟨a,kv,val,k',ev,had,haI,hT,hk',hpi⟩:=hp i _ hx
  refine wpAny_bind (wpAny_pyNext_list_item hI hl hx fun h' hI' hs'=>?_)
  have eb:=hs'.extBut
  have hT':=hT.extBut eb haI
  rw[ev]
  obtain⟨ot,hot,hct,nt,hdt⟩:=hT'
  obtain⟨oc,od,odat,osl⟩:=ot
  simp only at hct hdt
  subst hct hdt
  have hTy:(⟨h',s.gens,s.drawn,s.toks,s.os⟩:Shared).TypeIs (.ref a) "tuple":=⟨_,hot,rfl⟩
  have hd':h'.DictOf knd d (xdAll ps i):=by
   obtain⟨o,es,ep,ho,rest⟩:=hd
   exact⟨o,es,ep,eb d o hdI ho,rest⟩
  have hsz:=xdAll_len ps i
  dsimp only
  refine wpAny_bind (wpAny_holding (wpAny_bind (wpAny_tryCatch ?_)))
  unfold Builtin.Dict.pairItems
  refine wpAny_bind (wpAny_typeOf hTy ?_)
  rw[if_pos (by decide)]
  repeat (any_goals (first|assumption|((with_reducible show wpAny _ _ (dictSet d kv val) _ _ _);refine wpAny_dictSet_pairs hk' hd' (fun h2 hd2 hs2=>?_) (by omega))|wp_step))
  have e2:=hs2.extBut
  have k2:∀b o,b≠d→b≠I→s.heap.get? b=some o→h2.get? b=some o:=fun b o b1 b2 e=>e2 b o b1 (eb b o b2 e)
  rw[← xdAll_succ hpi]at hd2
  refine⟨plainId_quiet F.plain_dict_update_loop _,ih (i+1) _ _ (by omega) hlt (hI'.at fun o e=>e2 I o (Ne.symm hdI) e) ((hl.extBut eb hlI).extBut e2 (Ne.symm hdl)) hd2 (fun j v hv=>?_) fun h3 tk hd3 k3=>?_⟩
  ·
   obtain⟨a,kv,val,k',ev,had,haI,hT,rest⟩:=hp j v hv
   exact⟨a,kv,val,k',ev,had,haI,(hT.extBut eb haI).extBut e2 had,rest⟩
  ·
   exact hR h3 tk hd3 fun b o b1 b2 e=>k3 b o b1 b2 (k2 b o b1 b2 e)
theorem call_dict_list{l:Addr}{its:Array Value}{n:Nat}{sl:Array (Option Value)}{ps:List (K×Value)}{Q:Value→Shared→Prop}(hh:A.handled=none) (hl:s.heap.get? l=some {cls:=.type "list",data:=.seq its n,slots:=sl}) (hb:its.size+1 < sizeLine)
  (hp:∀(j:Nat)(v:Value),its[j]?=some v→∃a kv val k',v=Value.ref a∧PyProof.Rows.IsTup s.heap a #[kv,val]∧knd.is k' kv=true∧ps[j]?=some (k',val))
  (h:∀h' tk,h'.DictOf knd s.heap.objs.size (xdAll ps its.size)→(∀b o,s.heap.get? b=some o→h'.get? b=some o)→Q (.ref s.heap.objs.size) {s with heap:=h',toks:=tk}) :
  wpAny (model prog w) A (call (.type "dict") [.ref l]) Q E s:=by
 refine callType_codes (Q₁:=fun obj s₁=>obj=.ref s.heap.objs.size∧s₁={s with heap:=s.heap.push {cls:=.type "dict",data:=.dict #[] } }) F.kt_called_dict (F.kt_typeCall_dict_1 _) F.entry_dict_init (kt_code_dict_new _ ⟨rfl,rfl⟩) ?_
 rintro obj s₁ ⟨rfl,rfl⟩
 have hnew:(s.heap.push {cls:=.type "dict",data:=.dict #[] }).DictOf knd s.heap.objs.size []:=Heap.DictOf.new s.heap
 have hl1:(s.heap.push {cls:=.type "dict",data:=.dict #[] }).get? l=some {cls:=.type "list",data:=.seq its n,slots:=sl}:=Heap.get?_push_of_some _ hl
 refine⟨hnew.typeIs,F.args_dict_init_2 _ _,?_⟩
 unfold Builtin.«dict.__init__»
 refine wpAny_bind ?_
 unfold Builtin.Dict.selfAndRest
 refine wpAny_bind (wpAny_notOrdered_dict hnew.typeIs ?_)
 show wpAny _ _ (pure (s.heap.objs.size,[Value.ref l])) _ _ _
 refine wpAny_pure ?_
 show wpAny _ _ (Builtin.Dict.updateFrom "dict.__init__" s.heap.objs.size (.ref l) [] .none) _ _ _
 unfold Builtin.Dict.updateFrom
 refine wpAny_bind (wpAny_typeOf (T:="list") ⟨_,hl1,rfl⟩ ?_)
 rw[if_pos (by decide)]
 refine wpAny_bind (keys_miss hl1 (by simp[hh]) fun h2 tk2 e hx=>?_)
 rw[if_pos (show Option.isNone (none:Option Value)=true from rfl)]
 have keep:∀b o,s.heap.get? b=some o→h2.get? b=some o:=fun b o e=>hx.keeps b o (Heap.get?_push_of_some _ e)
 have hl2:=hx.keeps _ _ hl1
 have hL2:h2.IsList l its:=⟨_,hl2,rfl,n,rfl⟩
 obtain⟨od,es,ep,ho,rest⟩:=hnew
 have hd2:=hx.keeps _ _ ho
 refine wpAny_bind (wpAny_rule (wpAny_bind (wpAny_pyIter_list hL2 ?_)))
 refine wpAny_pure ⟨plainId_quiet F.plain_dict_update_loop _,?_⟩
 have kI:∀b o,h2.get? b=some o→b≠h2.objs.size:=fun b o e=>Nat.ne_of_lt (Heap.lt_size e)
 refine codeAny_dict_update_loop (knd:=knd) (ps:=ps) (its:=its) (by simp[hh]) (kI _ _ hl2) (kI _ _ hd2) (fun e=>?_) hb its.size 0 _ _ (by omega) (Nat.zero_le _) ⟨_,Heap.get?_push_size _ rfl,rfl,rfl⟩ (hL2.push _) ⟨od,es,ep,Heap.get?_push_of_some _ hd2,rest⟩ (fun j v hv=>?_) fun h3 tk hd3 k3=>?_
 ·
  have:=Heap.lt_size hl
  rw[← e]at this
  exact Nat.lt_irrefl _ this
 ·
  obtain⟨a,kv,val,k',ev,⟨o,hot,ot⟩,r⟩:=hp j v hv
  exact⟨a,kv,val,k',ev,fun e=>by have:=Heap.lt_size hot;rw[e]at this;exact Nat.lt_irrefl _ this,kI _ _ (keep _ _ hot),⟨o,Heap.get?_push_of_some _ (keep _ _ hot),ot⟩,r⟩
 ·
  exact⟨rfl,h h3 tk hd3 fun b o e=>k3 b o (Nat.ne_of_lt (Heap.lt_size e)) (kI _ _ (keep _ _ e)) (Heap.get?_push_of_some _ (keep _ _ e))⟩
end
end PySem
namespace L2
open PySem PySem.Spec PyProof.Rows PySem.W
def prD(p:Int×D):D:=.tup [.int p.1,p.2]
def dctOf(ps:List (Int×D)):List (Key×D):=ps.foldl (fun m p=>putD m (.inl p.1) p.2) []
def wDOf(t:W L):W L:=fun ρ post=>t ρ fun r ρ1=>toD r fun d=>∃ps:List (Int×D),d=.lst (ps.map prD)∧ps.length≤100∧∀a,post (.dic a (dctOf ps)) ρ1
section
variable{X:Cx}{a:Expr}{p pos:Pos}{t:W L}
theorem pairs_of{pins:List (Addr×Obj)}{σ:St}{H:Hp}{s:Shared}(I:Inv X pins σ H s):∀(ps:List (Int×D))(vs:List V)(its:List Value),Reps X.K H vs (ps.map prD)→Vals vs its→∃(qs:List (Key×Value))(ws:List (Key×V)),(∀(j:Nat)(v:Value),its[j]?=some v→∃a kv val k',v=Value.ref a∧IsTup s.heap a #[kv,val]∧(mixKind X.prog X.w).is k' kv=true∧qs[j]?=some (k',val))∧KV ws qs∧DR X.K H ws (ps.map fun p=>(.inl p.1,p.2))∧qs.length=its.length
 | [],_,_,r,h=>by
  cases r
  cases h
  exact⟨[],[],fun j v e=>by simp at e,.nil,.nil,rfl⟩
 | q::ps,_,_,.cons r0 r,.cons h0 h=>by
  obtain⟨qs,ws,h1,h2,h3,h4⟩:=pairs_of I ps _ _ r h
  cases r0 with
  | tup hz rs =>
   cases rs with
   | cons ra rs =>
    cases rs with
    | cons rb rs =>
     cases rs
     cases ra
     cases h0
     obtain⟨us,ru,tp,_⟩:=I.tuple hz
     cases ru with
     | @cons _ u1 _ _ rx ru =>
      cases ru with
      | @cons _ u2 _ _ ry ru =>
       cases ru
       refine⟨(.inl q.1,u2)::qs,(.inl q.1,_)::ws,fun j v e=>?_,.cons ⟨rfl,ry⟩ h2,.cons ⟨rfl,rb⟩ h3,by simp[h4]⟩
       cases j with
       | zero =>
        simp only[List.getElem?_cons_zero,Option.some.injEq]at e
        subst e
        exact⟨_,u1,u2,.inl q.1,rfl,tp,kV_is (k:=.inl q.1) rx,rfl⟩
       | succ j =>
        rw[List.getElem?_cons_succ]at e ⊢
        exact h1 j v e
theorem kv_fold:∀{ws:List (Key×V)}{qs:List (Key×Value)}{m:List (Key×V)}{n:List (Key×Value)},KV ws qs→KV m n→KV (ws.foldl (fun m p=>putK m p.1 p.2) m) (qs.foldl (fun m p=>stored m p.1 p.2) n)
 |[],[],_,_,.nil,hm=>hm
 | w::ws,q::qs,m,n,.cons h t,hm=>by
  have:=hm.put w.1 h.2
  rw[List.foldl_cons,List.foldl_cons,← h.1]
  exact kv_fold t this
theorem dr_fold{K:PySem.W.Frag}{H:Hp}:∀{ws:List (Key×V)}{ps:List (Int×D)}{m:List (Key×V)}{n:List (Key×D)},DR K H ws (ps.map fun p=>(.inl p.1,p.2))→DR K H m n→DR K H (ws.foldl (fun m p=>putK m p.1 p.2) m) (ps.foldl (fun m p=>putD m (.inl p.1) p.2) n)
 |[],[],_,_,.nil,hm=>hm
 | w::ws,p::ps,m,n,.cons h t,hm=>by
  have e:w.1=.inl p.1:=h.1
  have:=hm.put (k:=w.1) h.2
  rw[e]at this
  rw[List.foldl_cons,List.foldl_cons,e]
  exact dr_fold t this
theorem len_fold:∀(ws m:List (Key×V)),(ws.foldl (fun m p=>putK m p.1 p.2) m).length≤m.length+ws.length
 |[],m=>Nat.le_refl _
 | w::ws,m=>by
  have h1:=len_fold ws (putK m w.1 w.2)
  have h2:=length_putK m w.1 w.2
  rw[List.foldl_cons,List.length_cons]
  omega
theorem pl_dictL (hg : Gl X "dict") (hm : X.mg "dict" = none) (hc : X.calm = true) (ha : PL X a t) (hs : starEach [a] X.env = [(false, eval a X.env)] := by rfl) : PL X (.Call (.Name "dict" p) [a] [] pos) (wDOf t) := by
  intro pins s σ H Pr ρ post I E h
  refine Call_ (ld_blt I hg hm (show bootBuiltins "dict" = some (.type "dict") by decide +kernel) (PyProof.Rows.callWith_type1 (thn (pa_cons (pl_frz ha).pe pa_nil hs pos pins s σ H (fun vs H1 => ∃(ρ1 : Ev)(l : Addr)(ps : List (Int × D))(xs : List V), vs = [V.ref l] ∧ SqL X.K H1 l xs ∧ Reps X.K H1 xs (ps.map prD) ∧ ps.length ≤ 100 ∧ REnv X.K Pr H1 σ ρ1 ∧ ∀ a, post (.dic a (dctOf ps)) ρ1) I ⟨Pr, ρ, fun r ρ1 => match r with
    |.d d => ∃ps : List (Int × D), d = .lst (ps.map prD) ∧ ps.length ≤ 100 ∧ ∀a, post (.dic a (dctOf ps)) ρ1
    |_ => False, E, h, fun v H' r ρ' E' p => ?_⟩) fun us s1 ⟨vs, H1, I1, r1, q1⟩ => ?_) hs rfl))
  · cases r with
    | d d =>
      obtain⟨ps, rfl, hn, p⟩ := p
      obtain⟨_, e1, p1⟩ := E'.head_d
      cases e1
      cases p1 with
      |lst hz rs => exact⟨ρ', _, ps, _, rfl, hz.l, rs, hn, E'.tail, p⟩
    |_ => exact p.elim
  · obtain⟨ρ1, l, ps, xs, e, hz, rs, hn, E1, q⟩ := q1
    subst e
    obtain⟨u, rfl, ru⟩ := r1.one
    cases ru
    obtain⟨its, r, pl, _⟩ := I1.list hz
    obtain⟨⟨oc, od, odat, osl⟩, n, e, e1, e2, e3⟩ := pl
    simp only at e1 e2 e3
    subst e1 e2 e3
    obtain⟨qs, ws, h1, h2, h3, h4⟩ := pairs_of I1 ps xs its rs r
    have l1 : ps.length = ws.length := by have := Paired.length h3;simpa using this.symm
    have l2 : ws.length = qs.length := Paired.length h2
    have l3 : its.toArray.size = qs.length := by rw[List.size_toArray, h4]
    refine call_dict_list (knd := mixKind X.prog X.w) (ps := qs) (I1.ok.hd hc) e (by rw[l3];exact Nat.lt_of_le_of_lt (show qs.length+1 ≤ 101 by omega) (by decide)) (fun j v hv => h1 j v (by simpa using hv)) fun h' tk dd hk => ?_
    have ep : PySem.xdAll qs its.toArray.size = qs.foldl (fun m p => stored m p.1 p.2) [] := by
      unfold PySem.xdAll
      rw[l3, List.take_length]
    rw[ep]at dd
    have hf : H1 s1.heap.objs.size = none := I1.hok.fresh (Nat.le_refl _)
    have ll := len_fold ws []
    have I2 := I1.laid (a := s1.heap.objs.size) (o := .dK (ws.foldl (fun m p => putK m p.1 p.2) [])) (h' := h') (t' := tk) hk (Nat.le_refl _) ⟨Nat.le_trans ll (Nat.le_trans (show 0+ws.length ≤ 100 by omega) (by decide)), I1.past, _, kv_fold h2 .nil, dd⟩
    exact⟨.ref s1.heap.objs.size, _, _, ρ1, I2, rfl, E1.cons_dic hf (dr_fold h3 .nil), q _⟩
end
end L2
namespace L2
open PySem
theorem forL_inv{g:Tg}{b:W Fl}{post:Fl→Ev→Prop}:∀(xs:List D)(I:Nat→Ev→Prop)(ρ:Ev),I 0 ρ →
  (∀j x ρ,xs[j]?=some x→I j ρ→∀Q:Fl→Ev→Prop,(∀ρ',I (j+1) ρ'→Q .nx ρ')→(∀ρ',I (j+1) ρ'→Q .ct ρ')→(∀ρ',post .nx ρ'→Q .bk ρ')→(∀r ρ',post (.rt r) ρ'→Q (.rt r) ρ')→g x ρ fun ρ1=>b ρ1 Q) →
  (∀ρ,I xs.length ρ→post .nx ρ)→wForL g b xs ρ post
 |[],I,ρ,h0,_,fin=>fin ρ h0
 | x::xs,I,ρ,h0,step,fin=>by
  unfold wForL
  refine step 0 x ρ rfl h0 _ (fun ρ' h=>?_) (fun ρ' h=>?_) (fun ρ' h=>h) (fun r ρ' h=>h)
  ·
   exact forL_inv xs (fun j=>I (j+1)) ρ' h (fun j y ρ e hi=>step (j+1) y ρ e hi) fin
  ·
   exact forL_inv xs (fun j=>I (j+1)) ρ' h (fun j y ρ e hi=>step (j+1) y ρ e hi) fin
theorem forT_inv{α:Type}{enc:α→D}{g:Tg}{b:W Fl}{post:Fl→Ev→Prop}(as:List α)(I:List α→Ev→Prop)(ρ:Ev)(h0:I [] ρ)
  (step:∀pre a suf ρ,as=pre++a::suf→I pre ρ→∀Q:Fl→Ev→Prop,(∀ρ',I (pre++[a]) ρ'→Q .nx ρ')→(∀ρ',I (pre++[a]) ρ'→Q .ct ρ')→(∀ρ',post .nx ρ'→Q .bk ρ')→(∀r ρ',post (.rt r) ρ'→Q (.rt r) ρ')→g (enc a) ρ fun ρ1=>b ρ1 Q)
  (fin:∀ρ,I as ρ→post .nx ρ):wForL g b (as.map enc) ρ post:=by
 refine forL_inv _ (fun j ρ=>I (as.take j) ρ) ρ h0 (fun j x ρ e hi Q h1 h2 h3 h4=>?_) fun ρ h=>fin ρ (by simpa using h)
 rw[List.getElem?_map]at e
 cases ea:as[j]? with
 |none=>rw[ea]at e;cases e
 | some a =>
  rw[ea]at e
  cases e
  obtain⟨hj,ea'⟩:=List.getElem?_eq_some_iff.mp ea
  have es:as.take (j+1)=as.take j++[a]:=by rw[List.take_succ,ea];rfl
  have ed:as=as.take j++a::as.drop (j+1):=by
   have:=(List.take_append_drop j as).symm
   rw[List.drop_eq_getElem_cons hj,ea']at this
   exact this
  rw[es]at h1 h2
  exact step _ a _ ρ ed hi Q h1 h2 h3 h4
theorem comp_inv{g:Tg}{ti:W Bool}{te:W L}{k:List D→Ev→Prop}:∀(xs:List D)(I:Nat→Ev→List D→Prop)(ρ:Ev)(acc:List D),I 0 ρ acc →
  (∀j x ρ acc,xs[j]?=some x→I j ρ acc→∀Q:Ev→List D→Prop,(∀ρ' acc',I (j+1) ρ' acc'→Q ρ' acc')→g x ρ fun ρ1=>ti ρ1 fun b ρ2=>if b=true then te ρ2 fun r ρ3=>toD r fun y=>Q ρ3 (acc++[y])else Q ρ2 acc) →
  (∀ρ acc,I xs.length ρ acc→k acc ρ)→compL g ti te xs ρ acc k
 |[],I,ρ,acc,h0,_,fin=>fin ρ acc h0
 | x::xs,I,ρ,acc,h0,step,fin=>by
  unfold compL
  exact step 0 x ρ acc rfl h0 (fun ρ acc=>compL g ti te xs ρ acc k) fun ρ' acc' h=>comp_inv xs (fun j=>I (j+1)) ρ' acc' h (fun j y ρ acc e hi=>step (j+1) y ρ acc e hi) fin
theorem comp_pure{α:Type}{enc:α→D}{h:α→Option D}{caps:Ev}{ti:W Bool}{te:W L}{k:List D→Ev→Prop}:∀(as:List α)(acc:List D)(l:L),
  (∀a∈as,∀Q:Ev→Option D→Prop,Q (.d (enc a)::caps) (h a)→ti (.d (enc a)::caps) fun b ρ2=>if b=true then te ρ2 fun r ρ3=>toD r fun y=>Q ρ3 (some y)else Q ρ2 none) →
  (∀l',k (acc++as.filterMap h) (l'::caps))→compL (tgName 0) ti te (as.map enc) (l::caps) acc k
 |[],acc,l,_,fin=>by have:=fin l;simpa[compL]using this
 | a::as,acc,l,step,fin=>by
  show compL (tgName 0) ti te (enc a::as.map enc) (l::caps) acc k
  unfold compL
  show ti (.d (enc a)::caps) _
  refine step a List.mem_cons_self (fun ρ o=>match o with|some y=>compL (tgName 0) ti te (as.map enc) ρ (acc++[y]) k|none=>compL (tgName 0) ti te (as.map enc) ρ acc k) ?_
  cases e:h a with
  |none=>exact comp_pure as acc _ (fun b hb=>step b (List.mem_cons_of_mem _ hb)) (by simpa[List.filterMap_cons,e]using fin)
  |some y=>exact comp_pure as (acc++[y]) _ (fun b hb=>step b (List.mem_cons_of_mem _ hb)) (by simpa[List.filterMap_cons,e]using fin)
theorem comp_pure2{α:Type}{e1 e2:α→D}{h:α→Option D}{caps:Ev}{ti:W Bool}{te:W L}{k:List D→Ev→Prop}:∀(as:List α)(acc:List D)(l m:L),
  (∀a∈as,∀Q:Ev→Option D→Prop,Q (.d (e1 a)::.d (e2 a)::caps) (h a)→ti (.d (e1 a)::.d (e2 a)::caps) fun b ρ2=>if b=true then te ρ2 fun r ρ3=>toD r fun y=>Q ρ3 (some y)else Q ρ2 none) →
  (∀l' m',k (acc++as.filterMap h) (l'::m'::caps))→compL (tgTup [0,1]) ti te (as.map fun a=>D.tup [e1 a,e2 a]) (l::m::caps) acc k
 |[],acc,l,m,_,fin=>by have:=fin l m;simpa[compL]using this
 | a::as,acc,l,m,step,fin=>by
  show compL (tgTup [0,1]) ti te (D.tup [e1 a,e2 a]::as.map fun a=>D.tup [e1 a,e2 a]) (l::m::caps) acc k
  unfold compL
  show ti (.d (e1 a)::.d (e2 a)::caps) _
  refine step a List.mem_cons_self (fun ρ o=>match o with|some y=>compL (tgTup [0,1]) ti te (as.map fun a=>D.tup [e1 a,e2 a]) ρ (acc++[y]) k|none=>compL (tgTup [0,1]) ti te (as.map fun a=>D.tup [e1 a,e2 a]) ρ acc k) ?_
  cases e:h a with
  |none=>exact comp_pure2 as acc _ _ (fun b hb=>step b (List.mem_cons_of_mem _ hb)) (by simpa[List.filterMap_cons,e]using fin)
  |some y=>exact comp_pure2 as (acc++[y]) _ _ (fun b hb=>step b (List.mem_cons_of_mem _ hb)) (by simpa[List.filterMap_cons,e]using fin)
theorem atI_0{α:Type}{x:α}{xs:List α}:atI (x::xs) 0=some x:=atI_nat (j:=0) rfl
theorem atI_1{α:Type}{x y:α}{xs:List α}:atI (x::y::xs) 1=some y:=atI_nat (j:=1) rfl
theorem atI_2{α:Type}{x y z:α}{xs:List α}:atI (x::y::z::xs) 2=some z:=atI_nat (j:=2) rfl
theorem atI_3{α:Type}{x y z w:α}{xs:List α}:atI (x::y::z::w::xs) 3=some w:=atI_nat (j:=3) rfl
theorem atI_4{α:Type}{x y z w v:α}{xs:List α}:atI (x::y::z::w::v::xs) 4=some v:=atI_nat (j:=4) rfl
theorem atI_of{α:Type}{xs:List α}{i:Int}{x:α}(h0:0≤i)(h:xs[i.toNat]?=some x):atI xs i=some x:=by
 have:=atI_nat h
 rwa [Int.toNat_of_nonneg h0]at this
theorem ix30:ixN 3 0=some 0:=by decide
theorem ix31:ixN 3 1=some 1:=by decide
theorem ix32:ixN 3 2=some 2:=by decide
theorem forR_inv{g:Tg}{b:W Fl}{post:Fl→Ev→Prop}(lo:Int)(n:Nat)(I:Nat→Ev→Prop)(ρ:Ev)(h0:I 0 ρ)
  (step:∀j ρ,j<n→I j ρ→∀Q:Fl→Ev→Prop,(∀ρ',I (j+1) ρ'→Q .nx ρ')→(∀ρ',I (j+1) ρ'→Q .ct ρ')→(∀ρ',post .nx ρ'→Q .bk ρ')→(∀r ρ',post (.rt r) ρ'→Q (.rt r) ρ')→g (.int (lo+(j:Int))) ρ fun ρ1=>b ρ1 Q)
  (fin:∀ρ,I n ρ→post .nx ρ):wForL g b (rngD lo n) ρ post:=by
 have hl:(rngD lo n).length=n:=by simp[rngD]
 refine forL_inv _ I ρ h0 (fun j x ρ hj hi Q h1 h2 h3 h4=>?_) fun ρ h=>fin ρ (by rwa [hl]at h)
 have hj':j<n:=by rw[← hl];exact(List.getElem?_eq_some_iff.mp hj).1
 have e:x=.int (lo+(j:Int)):=by
  unfold rngD at hj
  rw[List.getElem?_map,List.getElem?_range hj']at hj
  exact(Option.some.inj hj).symm
 subst e
 exact step j ρ hj' hi Q h1 h2 h3 h4
theorem forR0_inv{g:Tg}{b:W Fl}{post:Fl→Ev→Prop}(n:Nat)(I:Nat→Ev→Prop)(ρ:Ev)(h0:I 0 ρ)
  (step:∀j ρ,j<n→I j ρ→∀Q:Fl→Ev→Prop,(∀ρ',I (j+1) ρ'→Q .nx ρ')→(∀ρ',I (j+1) ρ'→Q .ct ρ')→(∀ρ',post .nx ρ'→Q .bk ρ')→(∀r ρ',post (.rt r) ρ'→Q (.rt r) ρ')→g (.int (j:Int)) ρ fun ρ1=>b ρ1 Q)
  (fin:∀ρ,I n ρ→post .nx ρ):wForL g b (rngD 0 n) ρ post :=
 forR_inv 0 n I ρ h0 (fun j ρ hj hi Q h1 h2 h3 h4=>by rw[Int.zero_add];exact step j ρ hj hi Q h1 h2 h3 h4) fin
theorem bits_small{i:Int}(h:i.natAbs<2^200):bitsOk i:=Nat.lt_of_lt_of_le h (Nat.pow_le_pow_right (by decide) (by decide))
theorem fmod_rng(x:Int){m:Int}(h:0<m):0≤x.fmod m∧x.fmod m<m:=by
 rw[Int.fmod_eq_emod_of_nonneg _ (by omega)]
 exact⟨Int.emod_nonneg _ (by omega),Int.emod_lt_of_pos _ h⟩
theorem bits_le{i:Int}{n:Nat}(h0:0≤i)(h:i<2^n)(hn:n≤1000000):bitsOk i:=by
 have:i.natAbs<2^n:=by
  have e:((2^n:Nat):Int)=(2:Int)^n:=by simp
  omega
 exact Nat.lt_of_lt_of_le this (Nat.pow_le_pow_right (by decide) hn)
theorem ten60:(10:Int)^60<2^200:=by decide
theorem small9000{i:Int}(h0:0≤i)(h:i≤10^60):i.natAbs<2^9000:=by
 have:i.natAbs<2^200:=by
  have:=ten60
  have e:((2^200:Nat):Int)=(2:Int)^200:=by decide
  omega
 exact Nat.lt_of_lt_of_le this (Nat.pow_le_pow_right (by decide) (by decide))
theorem RB.of_divInt{t b:Int}{n:Nat}(h:b≠0)(ht:t.natAbs<2^n)(hb:b.natAbs<2^n):RB n (Rat.divInt t b):=⟨Nat.lt_of_le_of_lt (num_le h) ht,Nat.lt_of_le_of_lt (den_le h) hb⟩
structure Ask where
 nm:Str
 one:Nat
 other:Nat
 size:Rat
structure Ring where
 rooms:List Rat
 asks:List Ask
def Ring.n(R:Ring):Nat:=R.rooms.length
def askD(a:Ask):D:=.tup [.str a.nm,.int a.one,.int a.other,frD a.size]
def ringD(R:Ring):D:=.tup [.lst (R.rooms.map frD),.lst (R.asks.map askD)]
structure AskOk (n:Nat) (a:Ask):Prop where
 one:a.one<n
 other:a.other<n
 ne:a.one≠a.other
 size:0≤a.size
 lt:a.size<((2^300:Nat):Rat)
 nm:PyData.strOk a.nm=true
structure Ring.Ok (R:Ring):Prop where
 lo:2≤R.n
 hi:R.n≤12
 few:R.asks.length≤20
 room:∀q∈R.rooms,0<q∧RB 60 q
 ask:∀a∈R.asks,AskOk R.n a
 cd:∃D:Nat,0<D∧D<2^1240∧∀a∈R.asks,a.size.den∣D
theorem okDs_map{α:Type}{n:Nat}{f:α→D}:∀xs:List α,(∀x∈xs,okD n (f x)=true)→okDs n (xs.map f)=true
 |[],_=>rfl
 |x::xs,h=>by simp[okDs,h x List.mem_cons_self,okDs_map xs fun y hy=>h y (List.mem_cons_of_mem _ hy)]
def StOk(xs:List D):Prop:=∃(c sd:Int)(t:Bool),xs=[.int c,.int sd,.bl t]∧0≤sd∧sd<2147483647
theorem low_pair{t b g:Int}(h:b≠0)(e:g=shareOf t b):D.tup [.int (t.fdiv g),.int (b.fdiv g)]=frD (Rat.divInt t b):=by
 subst e
 rw[low_num h,low_den h]
 rfl
def denP(qs:List Rat):Nat:=(qs.map (·.den)).foldr (·*·) 1
def sumQ(qs:List Rat):Rat:=qs.foldl (·+·) 0
theorem foldl_add(qs:List Rat):∀acc:Rat,qs.foldl (·+·) acc=acc+sumQ qs:=by
 unfold sumQ
 induction qs with
 |nil=>intro acc;simp[Rat.add_zero]
 |cons q qs ih=>intro acc;rw[List.foldl_cons,List.foldl_cons,ih,ih (0+q),Rat.zero_add,Rat.add_assoc]
theorem sumQ_cons(q:Rat)(qs:List Rat):sumQ (q::qs)=q+sumQ qs:=by
 show(q::qs).foldl (·+·) 0=_
 rw[List.foldl_cons,foldl_add,Rat.zero_add]
theorem opIx_lst{xs:List D}{i:Int}{k:L→Prop}:opIx (.lst xs) (.int i) k=∃v,atI xs i=some v∧k (.d v):=rfl
theorem opIx_tup{xs:List D}{i:Int}{k:L→Prop}:opIx (.tup xs) (.int i) k=∃v,atI xs i=some v∧k (.d v):=rfl
theorem opIx_str{z:Str}{i:Int}{k:L→Prop}:opIx (.str z) (.int i) k=(z.length≤sizeLine∧∃c,atI z.cps.toList i=some c∧k (.d (.str ⟨#[c]⟩))):=rfl
theorem ix_ring0{R:Ring}{k:L→Prop}:opIx (ringD R) (.int 0) k=k (.d (.lst (R.rooms.map frD))):=by
 show(∃v,atI _ _=some v∧_)=_
 simp only[atI_0,Option.some.injEq,exists_eq_left']
theorem ix_ring1{R:Ring}{k:L→Prop}:opIx (ringD R) (.int 1) k=k (.d (.lst (R.asks.map askD))):=by
 show(∃v,atI _ _=some v∧_)=_
 simp only[atI_1,Option.some.injEq,exists_eq_left']
theorem ix_ask0{a:Ask}{k:L→Prop}:opIx (askD a) (.int 0) k=k (.d (.str a.nm)):=by
 show(∃v,atI _ _=some v∧_)=_
 simp only[atI_0,Option.some.injEq,exists_eq_left']
theorem ix_ask1{a:Ask}{k:L→Prop}:opIx (askD a) (.int 1) k=k (.d (.int a.one)):=by
 show(∃v,atI _ _=some v∧_)=_
 simp only[atI_1,Option.some.injEq,exists_eq_left']
theorem ix_ask2{a:Ask}{k:L→Prop}:opIx (askD a) (.int 2) k=k (.d (.int a.other)):=by
 show(∃v,atI _ _=some v∧_)=_
 simp only[atI_2,Option.some.injEq,exists_eq_left']
theorem ix_ask3{a:Ask}{k:L→Prop}:opIx (askD a) (.int 3) k=k (.d (frD a.size)):=by
 show(∃v,atI _ _=some v∧_)=_
 simp only[atI_3,Option.some.injEq,exists_eq_left']
theorem ix_fr0{q:Rat}{k:L→Prop}:opIx (frD q) (.int 0) k=k (.d (.int q.num)):=by
 show(∃v,atI _ _=some v∧_)=_
 simp only[atI_0,Option.some.injEq,exists_eq_left']
theorem ix_fr1{q:Rat}{k:L→Prop}:opIx (frD q) (.int 1) k=k (.d (.int (q.den:Int))):=by
 show(∃v,atI _ _=some v∧_)=_
 simp only[atI_1,Option.some.injEq,exists_eq_left']
theorem noL_fr(q:Rat):noL (frD q)=true:=by simp[frD,noL,noLs]
theorem noLs_map{α:Type}{f:α→D}:∀(xs:List α),(∀x∈xs,noL (f x)=true)→noLs (xs.map f)=true
 |[],_=>rfl
 |x::xs,h=>by simp[noLs,h x List.mem_cons_self,noLs_map xs fun y hy=>h y (List.mem_cons_of_mem _ hy)]
theorem noLs_frs(qs:List Rat):noLs (qs.map frD)=true:=noLs_map _ fun q _=>noL_fr q
theorem noLs_ints{α:Type}(f:α→Int)(xs:List α):noLs (xs.map fun x=>D.int (f x))=true:=noLs_map _ fun _ _=>rfl
theorem rooms_len(R:Ring):R.rooms.length=R.n:=rfl
def wayS(w:Bool):Str:=if w then "on" else "back"
theorem shape_on:shapeD (.str "on"):=shape_ok (n:=0) (by decide +kernel) (by decide)
theorem shape_back:shapeD (.str "back"):=shape_ok (n:=0) (by decide +kernel) (by decide)
theorem shape_way(w:Bool):shapeD (.str (wayS w)):=by
 cases w
 ·
  exact shape_back
 ·
  exact shape_on
theorem way_on(w:Bool):(wayS w="on")=(w=true):=by cases w <;> simp[wayS] <;> decide
theorem way_back(w:Bool):(wayS w="back")=(w=false):=by cases w <;> simp[wayS] <;> decide
theorem tgTup_tup{is:List Nat}{xs:List D}{ρ:Ev}{k:Ev→Prop}:tgTup is (.tup xs) ρ k=tgNames is xs ρ k:=rfl
theorem tgTup_ask{is:List Nat}{a:Ask}{ρ:Ev}{k:Ev→Prop}:tgTup is (askD a) ρ k=tgNames is [.str a.nm,.int a.one,.int a.other,frD a.size] ρ k:=rfl
theorem tgTup_fr{is:List Nat}{q:Rat}{ρ:Ev}{k:Ev→Prop}:tgTup is (frD q) ρ k=tgNames is [.int q.num,.int (q.den:Int)] ρ k:=rfl
theorem itemsOf_lst{xs:List D}{k:List D→Prop}:itemsOf (.lst xs) k=k xs:=rfl
theorem itemsOf_tup{xs:List D}{k:List D→Prop}:itemsOf (.tup xs) k=k xs:=rfl
theorem itemsOf_fr{q:Rat}{k:List D→Prop}:itemsOf (frD q) k=k [.int q.num,.int (q.den:Int)]:=rfl
theorem opLen_lst{xs:List D}{k:L→Prop}:opLen [.lst xs] k=k (.d (.int xs.length)):=rfl
theorem opLen_tup{xs:List D}{k:L→Prop}:opLen [.tup xs] k=k (.d (.int xs.length)):=rfl
theorem opLen_str{x:Str}{k:L→Prop}:opLen [.str x] k=(x.length≤sizeLine∧k (.d (.int x.length))):=rfl
theorem opLen_fr{q:Rat}{k:L→Prop}:opLen [frD q] k=k (.d (.int 2)):=rfl
theorem opLen_ring{R:Ring}{k:L→Prop}:opLen [ringD R] k=k (.d (.int 2)):=rfl
theorem opLen_ask{a:Ask}{k:L→Prop}:opLen [askD a] k=k (.d (.int 4)):=rfl
theorem isTy_tup_fr(q:Rat):isTy "tuple" (frD q)=true:=rfl
theorem isTy_lst_fr(q:Rat):isTy "list" (frD q)=false:=rfl
theorem isTy_int_fr(q:Rat):isTy "int" (frD q)=false:=rfl
theorem isTy_bool_fr(q:Rat):isTy "bool" (frD q)=false:=rfl
theorem isTy_str_fr(q:Rat):isTy "str" (frD q)=false:=rfl
theorem isTy_tup_ring(R:Ring):isTy "tuple" (ringD R)=true:=rfl
def frL(n:Nat)(f:Nat→Rat):List D:=(List.range n).map fun (t:Nat)=>frD (f t)
theorem frL_len(n:Nat)(f:Nat→Rat):(frL n f).length=n:=by simp[frL]
theorem frL_map(n:Nat)(f:Nat→Rat):frL n f=((List.range n).map f).map frD:=by
 unfold frL
 rw[List.map_map]
 rfl
theorem noLs_frL(n:Nat)(f:Nat→Rat):noLs (frL n f)=true:=by rw[frL_map];exact noLs_frs _
def cutP(c:Nat×Nat):D:=.tup [.int (c.1:Int),.int (c.2:Int)]
theorem ix_cut0{c:Nat×Nat}{k:L→Prop}:opIx (cutP c) (.int 0) k=k (.d (.int c.1)):=by
 show(∃v,atI _ _=some v∧_)=_
 simp only[atI_0,Option.some.injEq,exists_eq_left']
theorem ix_cut1{c:Nat×Nat}{k:L→Prop}:opIx (cutP c) (.int 1) k=k (.d (.int c.2)):=by
 show(∃v,atI _ _=some v∧_)=_
 simp only[atI_1,Option.some.injEq,exists_eq_left']
theorem okD_cut(n:Nat)(c:Nat×Nat):okD (n+1) (cutP c)=true:=by cases n<;>simp[cutP,okD,okDs]
theorem noL_cut(c:Nat×Nat):noL (cutP c)=true:=by simp[cutP,noL,noLs]
theorem shape_cut(c:Nat×Nat):shapeD (cutP c):=shape_ok (okD_cut 0 c) (by decide)
theorem eqD_cut(c d:Nat×Nat):eqD (cutP c) (cutP d)=decide (c=d):=by
 unfold cutP
 rw[eqD_tup,eqDs_cons,eqDs_cons,eqDs_nil,eqD_int,eqD_int,Bool.and_true,← Bool.decide_and,decide_eq_decide]
 constructor
 ·
  rintro⟨h1,h2⟩
  exact Prod.ext (by omega) (by omega)
 ·
  rintro rfl;exact⟨rfl,rfl⟩
def gP(g:Rat×(Nat×Nat)):D:=.tup [frD g.1,cutP g.2]
theorem ix_g0{g:Rat×(Nat×Nat)}{k:L→Prop}:opIx (gP g) (.int 0) k=k (.d (frD g.1)):=by
 show(∃v,atI _ _=some v∧_)=_
 simp only[atI_0,Option.some.injEq,exists_eq_left']
theorem ix_g1{g:Rat×(Nat×Nat)}{k:L→Prop}:opIx (gP g) (.int 1) k=k (.d (cutP g.2)):=by
 show(∃v,atI _ _=some v∧_)=_
 simp only[atI_1,Option.some.injEq,exists_eq_left']
theorem isTy_non(T:String):isTy T .non=(T == "NoneType"):=rfl
theorem isTy_bl(T:String)(b:Bool):isTy T (.bl b)=(T == "bool" ||T == "int"):=rfl
theorem isTy_int(T:String)(i:Int):isTy T (.int i)=(T == "int"):=rfl
theorem isTy_str(T:String)(x:Str):isTy T (.str x)=(T == "str"):=rfl
theorem isTy_tup(T:String)(xs:List D):isTy T (.tup xs)=(T == "tuple"):=rfl
theorem isTy_lst(T:String)(xs:List D):isTy T (.lst xs)=(T == "list"):=rfl
theorem isTy_tup_g(g:Rat×(Nat×Nat)):isTy "tuple" (gP g)=true:=rfl
theorem isTy_tup_cut(c:Nat×Nat):isTy "tuple" (cutP c)=true:=rfl
theorem isTy_tup_ask(a:Ask):isTy "tuple" (askD a)=true:=rfl
theorem opLen_cut{c:Nat×Nat}{k:L→Prop}:opLen [cutP c] k=k (.d (.int 2)):=rfl
theorem opLen_g{c:Rat×(Nat×Nat)}{k:L→Prop}:opLen [gP c] k=k (.d (.int 2)):=rfl
theorem noLs_cuts(cs:List (Nat×Nat)):noLs (cs.map cutP)=true:=noLs_map _ fun c _=>noL_cut c
end L2
namespace L2
open PySem PySem.Builtin.Str
def LetterC(c:Nat):Prop:=97≤c∧c≤122
structure NmOk (z:Str):Prop where
 lo:1≤z.cps.toList.length
 hi:z.cps.toList.length≤8
 let_:∀c∈z.cps.toList,LetterC c
theorem NmOk.ok{z:Str}(h:NmOk z):PyData.strOk z=true:=by
 unfold PyData.strOk
 rw[← Array.all_toList,List.all_eq_true]
 intro c hc
 have:=h.let_ c hc
 unfold LetterC at this
 simp
 omega
end L2
namespace L2
open PySem
def onL(n i j:Nat):List Nat:=(List.range ((j+n-i) % n)).map fun s=>(i+s) % n
def backL(n i j:Nat):List Nat:=(List.range ((i+n-j) % n)).map fun s=>(i+n-1-s) % n
def wayL(n:Nat)(a:Ask)(w:Bool):List Nat:=if w then onL n a.one a.other else backL n a.one a.other
def far(n i j:Nat):Nat:=(j+n-i) % n
def isOn(n:Nat)(a:Ask)(t:Nat):Bool:=decide (far n a.one t<far n a.one a.other)
theorem inF_ints(t:Nat):∀(T:List Nat),inF (.int (t:Int)) (T.map fun (s:Nat)=>D.int (s:Int))=decide (t∈T)
 |[]=>rfl
 | s::T=>by
  have ih:=inF_ints t T
  unfold inF at ih ⊢
  rw[List.map_cons,List.any_cons,ih]
  show(eqF (.int (s:Int)) (.int (t:Int)) ||_)=_
  have e:eqF (.int (s:Int)) (.int (t:Int))=decide (t=s):=by
   show decide ((s:Int)=(t:Int))=_
   rw[decide_eq_decide];omega
  rw[e]
  simp[Bool.decide_or]
theorem RB.sum{b:Nat}:∀(qs:List Rat),(∀q∈qs,RB b q)→RB (1+(b+1)*qs.length) (sumQ qs)
 |[],_=>RB.mono (m:=1) ⟨by decide,by decide⟩ (by omega)
 | q::qs,h=>by
  have ih:=RB.sum qs fun z hz=>h z (List.mem_cons_of_mem _ hz)
  rw[sumQ_cons]
  refine((h q List.mem_cons_self).add ih).mono ?_
  rw[List.length_cons,Nat.mul_succ]
  omega
def sent(n:Nat)(a:Ask)(p:Rat)(t:Nat):Rat:=if isOn n a t then p else a.size-p
def loadQ(n:Nat)(as:List Ask)(ps:List Rat)(t:Nat):Rat:=sumQ ((as.zip ps).map fun x=>sent n x.1 x.2 t)
theorem atI_neg1{α:Type}{xs:List α}{x:α}(h:xs[xs.length-1]?=some x):atI xs (-1)=some x:=by
 have hl:xs.length-1<xs.length:=(List.getElem?_eq_some_iff.mp h).1
 unfold atI ixN
 rw[if_neg (by decide),if_pos (by omega)]
 show xs[_]?=_
 have:(-1+(xs.length:Int)).toNat=xs.length-1:=by omega
 rw[this]
 exact h
def within(c:Nat×Nat)(p:Nat):Bool:=decide (c.1<p∧p≤c.2)
def apart(c:Nat×Nat)(i j:Nat):Bool:=within c i != within c j
def acrossQ(as:List Ask)(c:Nat×Nat):Rat:=sumQ ((as.filter fun a=>apart c a.one a.other).map (·.size))
def Ring.room(R:Ring)(t:Nat):Rat:=R.rooms.getD t 0
def roomsQ(R:Ring)(c:Nat×Nat):Rat:=R.room c.1+R.room c.2
def shownQ(R:Ring)(c:Nat×Nat):Rat:=acrossQ R.asks c / roomsQ R c
def IsCut(n:Nat)(c:Nat×Nat):Prop:=c.1≤c.2∧c.2<n
def SumOk(qs:List Rat):Prop:=denP qs<2^9000∨∃D:Nat,0<D∧D<2^4400∧∀q∈qs,q.den∣D
def Ring.sz(R:Ring)(k:Nat):Rat:=(R.asks.map (·.size)).getD k 0
end L2
namespace My
open PySem L2
def askAt(R:Ring)(j:Nat):Ask:=(R.asks[j]?).getD ⟨"",0,0,0⟩
def onA(R:Ring)(j t:Nat):Bool:=isOn R.n (askAt R j) t
def dI(R:Ring)(w:Nat→Int)(k g h:Nat):Int:=((List.range (R.asks.length-k)).map fun i=>if onA R (k+i) g != onA R (k+i) h then w (k+i)else 0).sum
def CutOk(R:Ring)(w f:Nat→Int)(k:Nat):Prop:=∀g h,g<R.n→h<R.n→dI R w k g h≤f g+f h∧(f g+f h-dI R w k g h) % 2=0
def leftF(R:Ring)(w f:Nat→Int)(k:Nat)(p:Int)(t:Nat):Int:=f t-if onA R k t then p else w k-p
def mnI(i j:Int):Int:=if j<i then j else i
def onT(R:Ring)(k:Nat):List Nat:=(PySem.W.sortI ((wayL R.n (askAt R k) true).map fun (t:Nat)=>(t:Int))).map Int.toNat
def valI(R:Ring)(w f:Nat→Int)(k g h:Nat):Int:=f g+f h-dI R w (k+1) g h
def innerI(R:Ring)(w f:Nat→Int)(k:Nat)(acc:Int)(g:Nat)(hs:List Nat):Int:=hs.foldl (fun t h=>if decide (g≤h)then mnI t (valI R w f k g h)else t) acc
def twiceI(R:Ring)(w f:Nat→Int)(k:Nat)(gs:List Nat):Int:=gs.foldl (fun t g=>innerI R w f k t g (onT R k)) (2*w k)
def partI(R:Ring)(w f:Nat→Int)(k:Nat):Int:=(twiceI R w f k (onT R k)).fdiv 2
def fAt(R:Ring)(w f:Nat→Int):Nat→Nat→Int
 |0=>f
 |k+1=>leftF R w (fAt R w f k) k (partI R w (fAt R w f k) k)
def pAt(R:Ring)(w f:Nat→Int)(k:Nat):Int:=partI R w (fAt R w f k) k
def cbN(qs:List Rat):Nat:=qs.foldl (fun b q=>Nat.lcm b q.den) 1
def unitI(u:Nat)(q:Rat):Int:=q.num*((u / q.den:Nat):Int)
def sizesL(R:Ring):List Rat:=R.asks.map (·.size)
def mostL(R:Ring)(q:Rat):List Rat:=R.rooms.map fun r=>q*r
def cbR(R:Ring)(q:Rat):Nat:=cbN (sizesL R++mostL R q)
def unitsN(R:Ring)(q:Rat):Nat:=2*cbR R q
def wI(R:Ring)(q:Rat)(j:Nat):Int:=unitI (unitsN R q) (askAt R j).size
def f0I(R:Ring)(q:Rat)(t:Nat):Int:=unitI (unitsN R q) (q*R.room t)
def pI(R:Ring)(q:Rat)(k:Nat):Int:=pAt R (wI R q) (f0I R q) k
end My
set_option exponentiation.threshold 2000
namespace L2
open PySem
theorem lt1900{a n:Nat}(h:a<2^n)(hn:n≤1900):a<2^1900:=Nat.lt_of_lt_of_le h (Nat.pow_le_pow_right (by decide) hn)
theorem short_fr{q:Rat}{n:Nat}(h:RB n q)(hn:n≤1900):shortD (frD q)=true:=by
 have h1:=lt1900 h.1 hn
 have h2:=lt1900 h.2 hn
 simp only[frD,shortD,shortDs,Bool.and_true,Bool.and_eq_true,decide_eq_true_eq]
 exact⟨h1,by simpa using h2⟩
end L2
set_option exponentiation.threshold 5000
namespace My
open PySem L2
structure LB (R:Ring) (ps:List Rat):Prop where
 p:∀p∈ps,RB 4100 p
 ld:∀k t,RB 4100 (loadQ R.n (R.asks.take k) (ps.take k) t)
 st:∀(k:Nat)(h1:k<R.asks.length)(h2:k<ps.length)(t:Nat),RB 4100 (sent R.n R.asks[k] ps[k] t)
 sm:∀t,SumOk ((R.asks.zip ps).map fun x=>sent R.n x.1 x.2 t)
theorem LB.all{R:Ring}{ps:List Rat}(h:LB R ps)(hl:ps.length=R.asks.length)(t:Nat):RB 4100 (loadQ R.n R.asks ps t):=by
 have:=h.ld R.asks.length t
 rwa [List.take_of_length_le (Nat.le_refl _),List.take_of_length_le (by omega)]at this
def zI(R:Ring)(q:Rat)(t j:Nat):Int:=if isOn R.n (askAt R j) t then pI R q j else wI R q j-pI R q j
mutual
def widD:D→Nat
 |.tup xs=>max xs.length (widDs xs)
 |.lst xs=>max xs.length (widDs xs)
 |_=>0
def widDs:List D→Nat
 |[]=>0
 |x::xs=>max (widD x) (widDs xs)
end
theorem widDs_mem{x:D}:∀{xs:List D},x∈xs→widD x≤widDs xs
 | y::ys,h=>by
  simp only[widDs]
  rcases List.mem_cons.mp h with rfl|h
  ·
   omega
  ·
   have:=widDs_mem h;omega
theorem widDs_le{n:Nat}:∀{xs:List D},(∀x∈xs,widD x≤n)→widDs xs≤n
 |[],_=>Nat.zero_le _
 | y::ys,h=>by
  simp only[widDs]
  have:=h y List.mem_cons_self
  have:=widDs_le (xs:=ys) fun x hx=>h x (List.mem_cons_of_mem _ hx)
  omega
theorem size99{n:Nat}(h:n≤99):n≤sizeLine:=Nat.le_trans h (by decide)
theorem widD_fr(q:Rat):widD (frD q)=2:=by simp[frD,widD,widDs]
theorem widD_ask(a:Ask):widD (askD a)=4:=by
 have:=widD_fr a.size
 simp[askD,widD,widDs,this]
theorem widD_asks{as:List Ask}{n:Nat}(h:as.length≤n)(h2:4≤n):widD (.lst (as.map askD))≤n:=by
 simp only[widD,List.length_map]
 have:=widDs_le (n:=4) (xs:=as.map askD) fun x hx=>by
  obtain⟨q,_,rfl⟩:=List.mem_map.mp hx
  rw[widD_ask]
  exact Nat.le_refl _
 omega
structure SmD (n:Nat) (d:D):Prop where
 dep:depD d<n
 wid:widD d≤99
theorem SmD.mono{n m:Nat}{d:D}(h:SmD n d)(hm:n≤m):SmD m d:=⟨Nat.lt_of_lt_of_le h.dep hm,h.wid⟩
theorem SmD.lst{n:Nat}{xs:List D}(h:SmD (n+1) (.lst xs)):xs.length≤sizeLine∧∀x∈xs,SmD n x:=by
 obtain⟨h1,h2⟩:=h
 simp only[depD,widD]at h1 h2
 exact⟨size99 (by omega),fun x hx=>⟨by have:=depDs_mem hx;omega,by have:=widDs_mem hx;omega⟩⟩
theorem depD_fr(q:Rat):depD (frD q)=1:=by simp[frD,depD,depDs]
theorem depD_ask(a:Ask):depD (askD a)=2:=by
 have:=depD_fr a.size
 simp[askD,depD,depDs,this]
theorem depD_lst{xs:List D}{n:Nat}(h:∀x∈xs,depD x≤n):depD (.lst xs)≤n+1:=by
 simp only[depD]
 have:=depDs_le h
 omega
theorem depD_asks(as:List Ask):depD (.lst (as.map askD))≤3:=depD_lst fun x hx=>by
 obtain⟨q,_,rfl⟩:=List.mem_map.mp hx
 rw[depD_ask]
 exact Nat.le_refl _
theorem SmD.asks{as:List Ask}(h:as.length≤99):SmD 4 (.lst (as.map askD)):=⟨by have:=depD_asks as;omega,widD_asks h (by decide)⟩
end My
set_option exponentiation.threshold 5000
namespace My
open PySem L2
end My
set_option exponentiation.threshold 5000
namespace My
open PySem L2
structure Slide where
 k:Nat
 kw:Bool
 l:Nat
 lw:Bool
 am:Rat
def nsQ(R:Ring)(ps:List Rat)(k:Nat)(w:Bool):Rat:=if w then R.sz k-ps.getD k 0 else ps.getD k 0
def msQ(R:Ring)(ps:List Rat)(k:Nat)(kw:Bool)(l:Nat)(lw:Bool):Rat:=if nsQ R ps l lw<nsQ R ps k kw then nsQ R ps l lw else nsQ R ps k kw
def noTie(n:Nat)(a:Ask)(aw:Bool)(b:Ask)(bw:Bool):Bool:=!((wayL n a aw).any fun t=>decide (t∈wayL n b bw))
structure SlOk (R:Ring) (ps:List Rat):Prop where
 ok:R.Ok
 len:ps.length=R.asks.length
 lo:∀k,k<ps.length→0≤ps.getD k 0∧ps.getD k 0≤R.sz k
 cd:∃D:Nat,0<D∧D<2^1500∧(∀a∈R.asks,a.size.den∣D)∧∀p∈ps,p.den∣D
end My
set_option exponentiation.threshold 5000
namespace My
open PySem L2
end My
set_option exponentiation.threshold 5000
namespace My
open PySem L2
def slB(R:Ring)(ps:List Rat)(s:Slide):Bool:=!decide (s.k=s.l) && (noTie R.n (askAt R s.k) s.kw (askAt R s.l) s.lw && (decide (0<s.am) && !decide (msQ R ps s.k s.kw s.l s.lw<s.am)))
end My
set_option exponentiation.threshold 5000
namespace My
open PySem L2
end My
set_option exponentiation.threshold 5000
namespace My
open PySem L2
theorem sames_of{n:Nat}:∀{ds:List D},(∀d∈ds,sameOk n d=true)→sameOks n ds=true
 |[],_=>by simp[sameOks]
 | d::ds,h=>by
  simp only[sameOks,Bool.and_eq_true]
  exact⟨h d List.mem_cons_self,sames_of fun x hx=>h x (List.mem_cons_of_mem _ hx)⟩
structure Pt (n:Nat) (d:D):Prop where
 dep:depD d≤n
 wid:widD d≤99
 same:sameOk (20+n) d=true
theorem Pt.lst{n:Nat}{xs:List D}(h:∀x∈xs,Pt n x)(hl:xs.length≤99):Pt (n+1) (.lst xs):=by
 refine⟨depD_lst fun x hx=>(h x hx).dep,?_,?_⟩
 ·
  have:=widDs_le (xs:=xs) (n:=99) fun x hx=>(h x hx).wid
  simp only[widD]
  omega
 ·
  rw[show 20+(n+1)=(20+n)+1 by omega]
  simp only[sameOk]
  exact sames_of fun x hx=>(h x hx).same
theorem Pt.int(i:Int):Pt 0 (.int i):=⟨by simp[depD],by simp[widD],by simp[sameOk]⟩
end My
set_option exponentiation.threshold 5000
namespace My
open PySem L2
mutual
theorem okW_of:∀{n:Nat}{d:D},okD n d=true→okW d=true
 |_,.non,_=>rfl
 |_,.bl _,_=>rfl
 |_,.int _,_=>rfl
 |0,.str x,h=>by simpa only[okD,okW]using h
 |_+1,.str x,h=>by simpa only[okD,okW]using h
 |0,.tup _,h=>by simp[okD]at h
 |0,.lst _,h=>by simp[okD]at h
 | n+1,.tup xs,h=>by
  simp only[okD]at h
  simp only[okW]
  exact okWs_of h
 | n+1,.lst xs,h=>by
  simp only[okD]at h
  simp only[okW]
  exact okWs_of h
 |0,.dct _,h=>by simp[okD]at h
 |0,.exc _ _ _,h=>by simp[okD]at h
 |0,.fn _ _,h=>by simp[okD]at h
 |_+1,.dct _,h=>by simp[okD]at h
 |_+1,.exc _ _ _,h=>by simp[okD]at h
 |_+1,.fn _ _,h=>by simp[okD]at h
theorem okWs_of:∀{n:Nat}{ds:List D},okDs n ds=true→okWs ds=true
 |_,[],_=>rfl
 | n,d::ds,h=>by
  simp only[okDs,Bool.and_eq_true]at h
  simp only[okWs,okW_of h.1,okWs_of h.2,Bool.and_self]
end
structure PG (y:D):Prop where
 ok:okD 4 y=true
 sh:shortD y=true
 sg:sgnD y≤200000
 ln:∀rs,y=.lst rs→rs.length≤1000
structure GI (x:D):Prop where
 ok:okD 6 x=true
 sh:shortD x=true
 sg:sgnD x≤700000
 ln:∀ys,x=.tup ys→∀y∈ys,∀rs,y=.lst rs→rs.length≤1000
structure SOk (d:D):Prop where
 rp:RepW d
 it:∀xs,d=.lst xs→xs.length≤19∧∀x∈xs,GI x
theorem okDs_all6{n:Nat}:∀{ds:List D},(∀d∈ds,okD n d=true)→okDs n ds=true
 |[],_=>rfl
 |d::ds,h=>by simp only[okDs,h d List.mem_cons_self,okDs_all6 fun x hx=>h x (List.mem_cons_of_mem _ hx),Bool.and_self]
theorem shortDs_all6:∀{ds:List D},(∀d∈ds,shortD d=true)→shortDs ds=true
 |[],_=>rfl
 |d::ds,h=>by simp only[shortDs,h d List.mem_cons_self,shortDs_all6 fun x hx=>h x (List.mem_cons_of_mem _ hx),Bool.and_self]
theorem sgnDs_all6{n:Nat}:∀{ds:List D},(∀d∈ds,sgnD d≤n)→sgnDs ds≤(n+2)*ds.length
 |[],_=>Nat.le_refl _
 | d::ds,h=>by
  have h1:=h d List.mem_cons_self
  have h2:=sgnDs_all6 fun x hx=>h x (List.mem_cons_of_mem _ hx)
  simp only[sgnDs,List.length_cons,Nat.mul_add,Nat.mul_one]
  omega
theorem SOk.lst{xs:List D}(h:∀x∈xs,GI x)(hl:xs.length≤19):SOk (.lst xs):=by
 have e1:okD 7 (.lst xs)=true:=by simp only[okD];exact okDs_all6 fun d hd=>(h d hd).ok
 have e2:shortDs xs=true:=shortDs_all6 fun d hd=>(h d hd).sh
 have e3:sgnDs xs≤700002*xs.length:=sgnDs_all6 fun d hd=>(h d hd).sg
 refine⟨⟨okW_of e1,by simpa only[shortD]using e2,Nat.le_trans (okD_lay 7 _ e1).2 (by decide),by simp only[sgnD];omega⟩,fun ys e=>?_⟩
 cases e
 exact⟨hl,h⟩
def plD:Option (Nat×Nat)→D
 |none=>.non
 |some c=>.tup [.int (c.1:Int),.int (c.2:Int)]
def itD(x:List Rat×Option (Nat×Nat)):D:=.tup [.lst (x.1.map frD),plD x.2]
structure RmOk (qs:List Rat):Prop where
 lo:2≤qs.length
 hi:qs.length≤12
 q:∀q∈qs,0<q∧RB 60 q
structure SGood (S:List (List Rat×Option (Nat×Nat))):Prop where
 rm:∀x∈S,RmOk x.1
 at0:∀x,S[0]?=some x→x.2=none
 at1:∀k x,0<k→S[k]?=some x→∃i j y,x.2=some (i,j)∧i<k∧S[i]?=some y∧j<y.1.length∧(j≠0∨i=0)
theorem SGood.nil:SGood []:=⟨(fun x hx=>by cases hx),(fun x hx=>by simp at hx),fun k x _ hx=>by simp at hx⟩
theorem SGood.snoc{S:List (List Rat×Option (Nat×Nat))}{qs:List Rat}{p:Option (Nat×Nat)}(h:SGood S)(hq:RmOk qs)(h0:S.length=0→p=none)(h1:0<S.length→∃i j y,p=some (i,j)∧S[i]?=some y∧j<y.1.length∧(j≠0∨i=0)):SGood (S++[(qs,p)]):=by
 refine⟨fun x hx=>?_,fun x hx=>?_,fun k x hk hx=>?_⟩
 ·
  rcases List.mem_append.mp hx with hx|hx
  ·
   exact h.rm x hx
  ·
   rw[List.mem_singleton.mp hx];exact hq
 ·
  cases S with
  |nil=>simp at hx;subst hx;exact h0 rfl
  |cons y S=>exact h.at0 x (by simpa using hx)
 ·
  have get:∀i y,S[i]?=some y→(S++[(qs,p)])[i]?=some y:=fun i y e=>by
   rw[List.getElem?_append_left (List.getElem?_eq_some_iff.mp e).1];exact e
  by_cases c:k<S.length
  ·
   rw[List.getElem?_append_left c]at hx
   obtain⟨i,j,y,e1,e2,e3,e4⟩:=h.at1 k x hk hx
   exact⟨i,j,y,e1,e2,get i y e3,e4⟩
  ·
   have hk':k<(S++[(qs,p)]).length:=(List.getElem?_eq_some_iff.mp hx).1
   rw[List.length_append,List.length_singleton]at hk'
   have e:k=S.length:=by omega
   subst e
   rw[List.getElem?_append_right (Nat.le_refl _)]at hx
   simp at hx
   subst hx
   obtain⟨i,j,y,e1,e3,e4⟩:=h1 hk
   exact⟨i,j,y,e1,(List.getElem?_eq_some_iff.mp e3).1,get i y e3,e4⟩
theorem PG.rooms{rs:List D}(h:∀r∈rs,okD 3 r=true∧shortD r=true∧sgnD r≤1300)(hl:rs.length≤150):PG (.lst rs)∧PG (.tup rs):=by
 have e1:okDs 3 rs=true:=okDs_all6 fun d hd=>(h d hd).1
 have e2:shortDs rs=true:=shortDs_all6 fun d hd=>(h d hd).2.1
 have e3:sgnDs rs≤1302*rs.length:=sgnDs_all6 fun d hd=>(h d hd).2.2
 refine⟨⟨by simpa only[okD]using e1,by simpa only[shortD]using e2,by simp only[sgnD];omega,fun ys e=>?_⟩,⟨by simpa only[okD]using e1,by simpa only[shortD]using e2,by simp only[sgnD];omega,fun ys e=>by cases e⟩⟩
 cases e
 omega
theorem PG.int{i:Int}(h:i.natAbs<2^60):PG (.int i):=⟨rfl,by simp only[shortD];exact decide_eq_true (Nat.lt_of_lt_of_le h (Nat.pow_le_pow_right (by decide) (by decide))),by simp only[sgnD];decide,fun rs e=>by cases e⟩
end My
set_option exponentiation.threshold 5000
namespace My
open PySem L2
structure WK (n s:Nat) (d:D):Prop where
 ok:okW d=true
 sh:shortD d=true
 dp:(toP d).depth≤n
 sg:sgnD d≤s
theorem WK.rep{n s:Nat}{d:D}(h:WK n s d)(hn:n≤40)(hs:s≤16777216):RepW d:=⟨h.ok,h.sh,Nat.le_trans h.dp hn,Nat.le_trans h.sg hs⟩
theorem WK.mono{n s m t:Nat}{d:D}(h:WK n s d)(hn:n≤m)(hs:s≤t):WK m t d:=⟨h.ok,h.sh,Nat.le_trans h.dp hn,Nat.le_trans h.sg hs⟩
theorem WK.all{n s:Nat}:∀{ds:List D},(∀d∈ds,WK n s d)→okWs ds=true∧shortDs ds=true∧PyData.depthAll (toPs ds)≤n∧sgnDs ds≤(s+2)*ds.length
 |[],_=>⟨rfl,rfl,Nat.zero_le _,Nat.le_refl _⟩
 | d::ds,h=>by
  have h0:=h d List.mem_cons_self
  obtain⟨h1,h2,h3,h4⟩:=WK.all fun x hx=>h x (List.mem_cons_of_mem _ hx)
  have dp:=h0.dp
  have sg:=h0.sg
  refine⟨by simp only[okWs,h0.ok,h1,Bool.and_self],by simp only[shortDs,h0.sh,h2,Bool.and_self],by simp only[toPs,PyData.depthAll];omega,?_⟩
  simp only[sgnDs,List.length_cons,Nat.mul_add,Nat.mul_one]
  omega
theorem WK.two{n s m t:Nat}{ds:List D}(h:∀d∈ds,WK n s d)(hn:n+1≤m)(hs:(s+2)*ds.length+3≤t):WK m t (.tup ds)∧WK m t (.lst ds):=by
 obtain⟨h1,h2,h3,h4⟩:=WK.all h
 refine⟨⟨by simpa only[okW]using h1,by simpa only[shortD]using h2,Nat.le_trans (Nat.succ_le_succ h3) hn,by simp only[sgnD];omega⟩,⟨by simpa only[okW]using h1,by simpa only[shortD]using h2,Nat.le_trans (Nat.succ_le_succ h3) hn,by simp only[sgnD];omega⟩⟩
theorem short_fr{q:Rat}(h:RB 1900 q):shortD (frD q)=true:=by
 have h2:((q.den:Int)).natAbs<2^1900:=by rw[Int.natAbs_natCast];exact h.2
 simp only[frD,shortD,shortDs,decide_eq_true h.1,decide_eq_true h2,Bool.and_self]
theorem WK.fr{q:Rat}(h:RB 1900 q):WK 1 1300 (frD q):=⟨rfl,short_fr h,Nat.le_refl 1,by show 1211≤1300;decide⟩
theorem WK.int{i:Int}(h:i.natAbs<2^60):WK 0 602 (.int i):=⟨rfl,by simp only[shortD];exact decide_eq_true (Nat.lt_of_lt_of_le h (Nat.pow_le_pow_right (by decide) (by decide))),Nat.le_refl 0,Nat.le_refl _⟩
abbrev Str2:=List (List Rat×Option (Nat×Nat))
def pcD(c:Nat×Nat):D:=.tup [.int (c.1:Int),.int (c.2:Int)]
def hangAt(S:Str2)(i:Nat):Nat×Nat:=((S[i]?).bind (·.2)).getD (0,0)
theorem SGood.hang{S:Str2}(h:SGood S){i:Nat}(h0:0<i)(hi:i<S.length):∃qs,S[i]?=some (qs,some (hangAt S i))∧(hangAt S i).1<i:=by
 have e:=List.getElem?_eq_getElem hi
 obtain⟨a,b,y,e1,e2,e3,_⟩:=h.at1 i _ h0 e
 unfold hangAt
 rw[e]
 refine⟨S[i].1,?_,?_⟩
 ·
  simp only[Option.bind_some,e1,Option.getD_some]
  rw[← e1]
 ·
  simp only[Option.bind_some,e1,Option.getD_some]
  exact e2
def climb(S:Str2):Nat→Nat×Nat→List (Nat×Nat)
 |0,p=>[p]
 |n+1,p=>if p.1=0 then[p]else p::climb S n (hangAt S p.1)
theorem climb_0{S:Str2}{p:Nat×Nat}(h:p.1=0)(n:Nat):climb S n p=[p]:=by
 cases n with
 |zero=>rfl
 |succ n=>exact if_pos h
theorem climb_s{S:Str2}{p:Nat×Nat}(h:p.1≠0)(n:Nat):climb S (n+1) p=p::climb S n (hangAt S p.1):=if_neg h
theorem climb_le{S:Str2}(hS:SGood S):∀(n:Nat)(p:Nat×Nat),p.1<S.length→∀c∈climb S n p,c.1≤p.1
 | 0,p,_,c,hc=>by
  rw[List.mem_singleton.mp hc]
  exact Nat.le_refl _
 | n+1,p,hp,c,hc=>by
  by_cases h0:p.1=0
  ·
   rw[climb_0 h0]at hc
   rw[List.mem_singleton.mp hc]
   exact Nat.le_refl _
  ·
   rw[climb_s h0]at hc
   obtain⟨_,_,lt⟩:=hS.hang (by omega) hp
   rcases List.mem_cons.mp hc with rfl|hc
   ·
    exact Nat.le_refl _
   ·
    have:=climb_le hS n (hangAt S p.1) (by omega) c hc
    omega
theorem climb_nd{S:Str2}(hS:SGood S):∀(n:Nat)(p:Nat×Nat),p.1<S.length→((climb S n p).map (·.1)).Nodup
 |0,p,_=>by simp[climb]
 | n+1,p,hp=>by
  by_cases h0:p.1=0
  ·
   rw[climb_0 h0]
   simp
  ·
   rw[climb_s h0,List.map_cons]
   obtain⟨_,_,lt⟩:=hS.hang (by omega) hp
   refine List.nodup_cons.mpr ⟨fun hm=>?_,climb_nd hS n _ (by omega)⟩
   obtain⟨c,hc,e⟩:=List.mem_map.mp hm
   have:=climb_le hS n (hangAt S p.1) (by omega) c hc
   omega
theorem climb_len{S:Str2}:∀(n:Nat)(p:Nat×Nat),(climb S n p).length≤n+1
 |0,p=>Nat.le_refl _
 | n+1,p=>by
  by_cases h0:p.1=0
  ·
   rw[climb_0 h0]
   simp
  ·
   rw[climb_s h0,List.length_cons]
   have:=climb_len (S:=S) n (hangAt S p.1)
   omega
def prI(c:Nat×Nat):Int×D:=((c.1:Int),.int (c.2:Int))
theorem pcD_pr(cs:List (Nat×Nat)):cs.map pcD=(cs.map prI).map prD:=by rw[List.map_map];rfl
def kvI(c:Nat×Nat):Key×D:=(.inl (c.1:Int),.int (c.2:Int))
theorem dct_fold:∀(cs acc:List (Nat×Nat)),((acc++cs).map (·.1)).Nodup→(cs.map prI).foldl (fun m p=>putD m (.inl p.1) p.2) (acc.map kvI)=(acc++cs).map kvI
 |[],acc,_=>by simp
 | c::cs,acc,hn=>by
  have e:acc++c::cs=(acc++[c])++cs:=by simp
  rw[e]at hn ⊢
  rw[List.map_cons,List.foldl_cons,← dct_fold cs (acc++[c]) hn]
  have hf:((acc.map kvI).any fun p=>decide (p.1=(.inl (c.1:Int):Key)))=false:=by
   rw[List.any_eq_false]
   intro x hx he
   obtain⟨y,hy,rfl⟩:=List.mem_map.mp hx
   have he:=of_decide_eq_true he
   have he:(Sum.inl (y.1:Int):Key)=.inl (c.1:Int):=he
   injection he with he
   rw[List.map_append,List.map_append,List.nodup_append]at hn
   have:=hn.1
   rw[List.nodup_append]at this
   exact this.2.2 y.1 (List.mem_map_of_mem hy) c.1 (by simp) (by omega)
  show List.foldl _ (putD (acc.map kvI) (.inl (c.1:Int)) (.int (c.2:Int))) _=_
  unfold putD
  rw[hf,if_neg (by decide),List.map_append]
  rfl
def thL(cs:List (Nat×Nat))(r:Nat):Option Nat:=match cs with
 |[]=>none
 |c::cs=>if c.1=r then some c.2 else thL cs r
theorem val_kvI(r:Nat):∀cs:List (Nat×Nat),valD (cs.map kvI) (.inl (r:Int))=(thL cs r).map fun (q:Nat)=>D.int (q:Int)
 |[]=>rfl
 | c::cs=>by
  show(if(Sum.inl (c.1:Int):Key)=.inl (r:Int)then some (D.int (c.2:Int))else valD (cs.map kvI) _)=Option.map _ (if c.1=r then some c.2 else thL cs r)
  by_cases h:c.1=r
  ·
   rw[if_pos h,if_pos (by rw[h])]
   rfl
  ·
   rw[if_neg h,if_neg (fun e=>h (by injection e with e;omega))]
   exact val_kvI r cs
theorem val_dct{cs:List (Nat×Nat)}(hn:(cs.map (·.1)).Nodup)(r:Nat):valD (dctOf (cs.map prI)) (.inl (r:Int))=(thL cs r).map fun (q:Nat)=>D.int (q:Int):=by
 unfold dctOf
 have:=dct_fold cs [] (by simpa using hn)
 rw[List.map_nil,List.nil_append]at this
 rw[this]
 exact val_kvI r cs
def trI(x:Nat×Nat×Nat):D:=.tup [.int (x.1:Int),.int (x.2.1:Int),.int (x.2.2:Int)]
def ahF(down:List (Nat×Nat))(c:Nat×Nat):Option (Nat×Nat×Nat):=if(thL down c.1).isSome then none else some (c.1,c.2,0)
def beF(down:List (Nat×Nat))(c:Nat×Nat):Option (Nat×Nat×Nat):=match thL down c.1 with
 |some q=>if c.2=q then none else some (c.1,c.2,q)
 |none=>none
def bhF(up:List (Nat×Nat))(c:Nat×Nat):Option (Nat×Nat×Nat):=if(thL up c.1).isSome then none else some (c.1,0,c.2)
def passL(S:Str2)(one other:Nat×Nat):List (Nat×Nat×Nat) :=
 (climb S one.1 one).filterMap (ahF (climb S other.1 other))++(climb S one.1 one).filterMap (beF (climb S other.1 other))++(climb S other.1 other).reverse.filterMap (bhF (climb S one.1 one))
def realP(S:Str2)(r p:Nat):Nat×Nat:=if 0<r∧p=0 then hangAt S r else(r,p)
def Lead(S:Str2):Nat×Nat→List Nat→List (Nat×Nat×Nat)→Nat×Nat→Prop
 |here,_,[],other=>here=other
 |here,rs,x::T,other=>(∃qs h,S[x.1]?=some (qs,h)∧x.2.1<qs.length∧x.2.2<qs.length)∧x.1∉rs∧x.2.1≠x.2.2∧realP S x.1 x.2.1=here∧Lead S (realP S x.1 x.2.2) (rs++[x.1]) T other
theorem climb_fuel{S:Str2}(hS:SGood S):∀(n m:Nat)(p:Nat×Nat),p.1<S.length→p.1≤n→p.1≤m→climb S n p=climb S m p
 |0,m,p,_,h,_=>by rw[climb_0 (by omega),climb_0 (by omega)]
 | n+1,m,p,hp,h,h'=>by
  by_cases h0:p.1=0
  ·
   rw[climb_0 h0,climb_0 h0]
  ·
   obtain⟨k,rfl⟩:∃k,m=k+1:=⟨m-1,by omega⟩
   obtain⟨_,_,lt⟩:=hS.hang (by omega) hp
   rw[climb_s h0,climb_s h0,climb_fuel hS n k (hangAt S p.1) (by omega) (by omega) (by omega)]
theorem climb_up{S:Str2}(hS:SGood S){p:Nat×Nat}(h0:p.1≠0)(hp:p.1<S.length):climb S p.1 p=p::climb S (hangAt S p.1).1 (hangAt S p.1):=by
 obtain⟨_,_,lt⟩:=hS.hang (by omega) hp
 obtain⟨k,hk⟩:∃k,p.1=k+1:=⟨p.1-1,by omega⟩
 have:climb S p.1 p=climb S (k+1) p:=by rw[← hk]
 rw[this,climb_s h0,climb_fuel hS k (hangAt S p.1).1 _ (by omega) (by omega) (Nat.le_refl _)]
theorem thL_none{cs:List (Nat×Nat)}{r:Nat}(h:∀c∈cs,c.1≠r):thL cs r=none:=by
 induction cs with
 |nil=>rfl
 | cons c cs ih =>
  unfold thL
  rw[if_neg (h c List.mem_cons_self)]
  exact ih fun x hx=>h x (List.mem_cons_of_mem _ hx)
theorem thL_cons{c:Nat×Nat}{cs:List (Nat×Nat)}{r:Nat}(h:c.1≠r):thL (c::cs) r=thL cs r:=if_neg h
theorem thL_self{cs:List (Nat×Nat)}(hn:(cs.map (·.1)).Nodup):∀c∈cs,thL cs c.1=some c.2:=by
 induction cs with
 |nil=>intro c hc;cases hc
 | cons d cs ih =>
  intro c hc
  rw[List.map_cons,List.nodup_cons]at hn
  rcases List.mem_cons.mp hc with rfl|hc
  ·
   exact if_pos rfl
  ·
   rw[thL_cons fun e=>hn.1 (by rw[e];exact List.mem_map_of_mem hc)]
   exact ih hn.2 c hc
theorem fm_congr{α β:Type}{f g:α→Option β}{xs:List α}(h:∀x∈xs,f x=g x):xs.filterMap f=xs.filterMap g:=by
 induction xs with
 |nil=>rfl
 |cons x xs ih=>rw[List.filterMap_cons,List.filterMap_cons,h x List.mem_cons_self,ih fun y hy=>h y (List.mem_cons_of_mem _ hy)]
theorem fm_none{α β:Type}{f:α→Option β}{xs:List α}(h:∀x∈xs,f x=none):xs.filterMap f=[]:=by
 induction xs with
 |nil=>rfl
 |cons x xs ih=>rw[List.filterMap_cons,h x List.mem_cons_self];exact ih fun y hy=>h y (List.mem_cons_of_mem _ hy)
theorem pass_up{S:Str2}(hS:SGood S){p q:Nat×Nat}(hp:p.1<S.length)(hq:q.1<S.length)(h:q.1<p.1):passL S p q=(p.1,p.2,0)::passL S (hangAt S p.1) q:=by
 have lq:=climb_le hS q.1 q hq
 unfold passL
 rw[climb_up hS (by omega) hp]
 have e1:thL (climb S q.1 q) p.1=none:=thL_none fun c hc=>by have:=lq c hc;omega
 have a1:ahF (climb S q.1 q) p=some (p.1,p.2,0):=by unfold ahF;rw[e1];rfl
 have a2:beF (climb S q.1 q) p=none:=by unfold beF;rw[e1]
 have a3:(climb S q.1 q).reverse.filterMap (bhF (p::climb S (hangAt S p.1).1 (hangAt S p.1)))=(climb S q.1 q).reverse.filterMap (bhF (climb S (hangAt S p.1).1 (hangAt S p.1))):=fm_congr fun c hc=>by
  have:=lq c (List.mem_reverse.mp hc)
  unfold bhF
  rw[thL_cons (by omega)]
 rw[List.filterMap_cons,a1,List.filterMap_cons,a2,a3]
 rfl
theorem pass_down{S:Str2}(hS:SGood S){p q:Nat×Nat}(hp:p.1<S.length)(hq:q.1<S.length)(h:p.1<q.1):passL S p q=passL S p (hangAt S q.1)++[(q.1,0,q.2)]:=by
 have lp:=climb_le hS p.1 p hp
 unfold passL
 rw[climb_up hS (by omega) hq]
 have e1:thL (climb S p.1 p) q.1=none:=thL_none fun c hc=>by have:=lp c hc;omega
 have a1:(climb S p.1 p).filterMap (ahF (q::climb S (hangAt S q.1).1 (hangAt S q.1)))=(climb S p.1 p).filterMap (ahF (climb S (hangAt S q.1).1 (hangAt S q.1))):=fm_congr fun c hc=>by
  have:=lp c hc
  unfold ahF
  rw[thL_cons (by omega)]
 have a2:(climb S p.1 p).filterMap (beF (q::climb S (hangAt S q.1).1 (hangAt S q.1)))=(climb S p.1 p).filterMap (beF (climb S (hangAt S q.1).1 (hangAt S q.1))):=fm_congr fun c hc=>by
  have:=lp c hc
  unfold beF
  rw[thL_cons (by omega)]
 have a3:bhF (climb S p.1 p) q=some (q.1,0,q.2):=by unfold bhF;rw[e1];rfl
 rw[a1,a2,List.reverse_cons,List.filterMap_append,List.filterMap_cons,a3]
 simp
theorem pass_same{S:Str2}(hS:SGood S){p q:Nat×Nat}(hp:p.1<S.length)(h:p.1=q.1):passL S p q=if p.2=q.2 then[]else[(p.1,p.2,q.2)]:=by
 obtain⟨r,a⟩:=p
 obtain⟨r',b⟩:=q
 dsimp only at h hp
 subst h
 have tl:∃T:List (Nat×Nat),(∀x:Nat,climb S r (r,x)=(r,x)::T):=by
  by_cases r0:r=0
  ·
   exact⟨[],fun x=>climb_0 r0 _⟩
  ·
   exact⟨climb S (hangAt S r).1 (hangAt S r),fun x=>climb_up hS (p:=(r,x)) r0 hp⟩
 obtain⟨T,hT⟩:=tl
 have nd:(((r,b)::T).map (·.1)).Nodup:=by rw[← hT b];exact climb_nd hS r (r,b) hp
 have nd2:(((r,a)::T).map (·.1)).Nodup:=by rw[← hT a];exact climb_nd hS r (r,a) hp
 have s1:=thL_self nd
 have s2:=thL_self nd2
 unfold passL
 dsimp only
 rw[hT a,hT b]
 have self:∀x:Nat,∀c∈(r,x)::T,∀y,((r,y)::T |>.map (·.1)).Nodup→(thL ((r,y)::T) c.1).isSome=true:=fun x c hc y hn=>by
  rcases List.mem_cons.mp hc with rfl|hc
  ·
   rw[show thL ((r,y)::T) (r,x).1=some y from if_pos rfl]
   rfl
  ·
   rw[thL_self hn c (List.mem_cons_of_mem _ hc)]
   rfl
 have a1:((r,a)::T).filterMap (ahF ((r,b)::T))=[]:=fm_none fun c hc=>by
  unfold ahF
  rw[self a c hc b nd,if_pos rfl]
 have a3:((r,b)::T).reverse.filterMap (bhF ((r,a)::T))=[]:=fm_none fun c hc=>by
  unfold bhF
  rw[self b c (List.mem_reverse.mp hc) a nd2,if_pos rfl]
 have a2:T.filterMap (beF ((r,b)::T))=[]:=fm_none fun c hc=>by
  unfold beF
  rw[s1 c (List.mem_cons_of_mem _ hc)]
  exact if_pos rfl
 have a4:beF ((r,b)::T) (r,a)=if a=b then none else some (r,a,b):=by
  unfold beF
  rw[show thL ((r,b)::T) (r,a).1=some b from if_pos rfl]
 rw[a1,a3,List.filterMap_cons,a4,a2]
 by_cases e:a=b
 ·
  rw[if_pos e,if_pos e]
  rfl
 ·
  rw[if_neg e,if_neg e]
  rfl
def sw3(x:Nat×Nat×Nat):Nat×Nat×Nat:=(x.1,x.2.2,x.2.1)
theorem pass_sym{S:Str2}(hS:SGood S):∀(n:Nat)(p q:Nat×Nat),p.1+q.1≤n→p.1<S.length→q.1<S.length→passL S q p=((passL S p q).reverse).map sw3
 | n,p,q,hn,hp,hq=>by
  rcases Nat.lt_trichotomy p.1 q.1 with h|h|h
  ·
   obtain⟨_,_,lt⟩:=hS.hang (by omega) hq
   rw[pass_up hS hq hp h,pass_down hS hp hq h,List.reverse_append]
   cases n with
   |zero=>omega
   | succ n =>
    rw[pass_sym hS n p (hangAt S q.1) (by omega) hp (by omega)]
    rfl
  ·
   rw[pass_same hS hq h.symm,pass_same hS hp h]
   by_cases e:p.2=q.2
   ·
    rw[if_pos e,if_pos e.symm]
    rfl
   ·
    rw[if_neg e,if_neg (Ne.symm e),h]
    rfl
  ·
   obtain⟨_,_,lt⟩:=hS.hang (by omega) hp
   rw[pass_down hS hq hp h,pass_up hS hp hq h,List.reverse_cons,List.map_append]
   cases n with
   |zero=>omega
   | succ n =>
    rw[pass_sym hS n (hangAt S p.1) q (by omega) (by omega) hq]
    rfl
def PlOk(S:Str2)(p:Nat×Nat):Prop:=(∃qs h,S[p.1]?=some (qs,h)∧p.2<qs.length∧0<qs.length)∧(p.2≠0∨p.1=0)
theorem PlOk.lt{S:Str2}{p:Nat×Nat}(h:PlOk S p):p.1<S.length:=by
 obtain⟨⟨_,_,e,_⟩,_⟩:=h
 exact(List.getElem?_eq_some_iff.mp e).1
theorem PlOk.hang{S:Str2}(hS:SGood S){i:Nat}(h0:0<i)(hi:i<S.length):PlOk S (hangAt S i):=by
 obtain⟨qs,e,lt⟩:=hS.hang h0 hi
 obtain⟨a,b,y,e1,e2,e3,e4,e5⟩:=hS.at1 i _ h0 e
 have e1:some (hangAt S i)=some (a,b):=e1
 injection e1 with e1
 rw[e1]
 exact⟨⟨y.1,y.2,e3,e4,by have:=(hS.rm y (List.mem_of_getElem? e3)).lo;omega⟩,e5⟩
theorem realP_pl{S:Str2}{p:Nat×Nat}(h:PlOk S p):realP S p.1 p.2=p:=by
 unfold realP
 rw[if_neg (by rcases h.2 with h|h<;>omega)]
theorem pass_le{S:Str2}(hS:SGood S):∀(n:Nat)(p q:Nat×Nat),p.1+q.1≤n→p.1<S.length→q.1<S.length→∀x∈passL S p q,x.1≤p.1∨x.1≤q.1
 | n,p,q,hn,hp,hq,x,hx=>by
  rcases Nat.lt_trichotomy p.1 q.1 with h|h|h
  ·
   obtain⟨_,_,lt⟩:=hS.hang (by omega) hq
   rw[pass_down hS hp hq h]at hx
   cases n with
   |zero=>omega
   | succ n =>
    rcases List.mem_append.mp hx with hx|hx
    ·
     rcases pass_le hS n p (hangAt S q.1) (by omega) hp (by omega) x hx with h|h
     ·
      exact .inl h
     ·
      exact .inr (by omega)
    ·
     rw[List.mem_singleton.mp hx]
     exact .inr (Nat.le_refl _)
  ·
   rw[pass_same hS hp h]at hx
   split at hx
   ·
    cases hx
   ·
    rw[List.mem_singleton.mp hx]
    exact .inl (Nat.le_refl _)
  ·
   obtain⟨_,_,lt⟩:=hS.hang (by omega) hp
   rw[pass_up hS hp hq h]at hx
   cases n with
   |zero=>omega
   | succ n =>
    rcases List.mem_cons.mp hx with rfl|hx
    ·
     exact .inl (Nat.le_refl _)
    ·
     rcases pass_le hS n (hangAt S p.1) q (by omega) (by omega) hq x hx with h|h
     ·
      exact .inl (by omega)
     ·
      exact .inr h
theorem Lead.app{S:Str2}:∀{T:List (Nat×Nat×Nat)}{here mid other:Nat×Nat}{rs:List Nat}{U:List (Nat×Nat×Nat)},Lead S here rs T mid→Lead S mid (rs++T.map (·.1)) U other→Lead S here rs (T++U) other
 | [],here,mid,other,rs,U,h1,h2=>by
  have h1:here=mid:=h1
  subst h1
  rw[List.map_nil,List.append_nil]at h2
  exact h2
 |x::T,here,mid,other,rs,U,⟨a,b,c,d,h1⟩,h2=>⟨a,b,c,d,Lead.app h1 (by rw[List.append_assoc];exact h2)⟩
theorem pass_lead{S:Str2}(hS:SGood S):∀(n:Nat)(p q:Nat×Nat)(rs:List Nat),p.1+q.1≤n→PlOk S p→PlOk S q→(∀r∈rs,p.1<r∧q.1<r)→Lead S p rs (passL S p q) q
 | n,p,q,rs,hn,hp,hq,hr=>by
  have lp:=hp.lt
  have lq:=hq.lt
  have nin:∀i,i≤p.1∨i≤q.1→i∉rs:=fun i hi hm=>by have:=hr i hm;omega
  rcases Nat.lt_trichotomy p.1 q.1 with h|h|h
  ·
   obtain⟨_,_,lt⟩:=hS.hang (by omega) lq
   rw[pass_down hS lp lq h]
   cases n with
   |zero=>omega
   | succ n =>
    refine Lead.app (pass_lead hS n p (hangAt S q.1) rs (by omega) hp (PlOk.hang hS (by omega) lq) fun r hm=>⟨(hr r hm).1,by have:=(hr r hm).2;omega⟩) ?_
    obtain⟨⟨qs,hh,e,l1,l2⟩,hz⟩:=id hq
    refine⟨⟨qs,hh,e,l2,l1⟩,fun hm=>?_,fun e=>?_,?_,realP_pl hq⟩
    ·
     rcases List.mem_append.mp hm with hm|hm
     ·
      exact nin _ (.inr (Nat.le_refl _)) hm
     ·
      obtain⟨x,hx,ex⟩:=List.mem_map.mp hm
      have:=pass_le hS _ p (hangAt S q.1) (Nat.le_refl _) lp (by omega) x hx
      dsimp only at ex
      omega
    ·
     dsimp only at e
     omega
    ·
     exact if_pos ⟨by dsimp only;omega,rfl⟩
  ·
   rw[pass_same hS lp h]
   by_cases e:p.2=q.2
   ·
    rw[if_pos e]
    exact Prod.ext h e
   ·
    rw[if_neg e]
    obtain⟨⟨qs,hh,e1,l1,_⟩,_⟩:=id hp
    obtain⟨⟨qs',hh',e1',l1',_⟩,_⟩:=id hq
    rw[← h,e1]at e1'
    cases e1'
    refine⟨⟨qs,hh,e1,l1,l1'⟩,nin _ (.inl (Nat.le_refl _)),e,realP_pl hp,?_⟩
    show realP S p.1 q.2=q
    rw[h]
    exact realP_pl hq
  ·
   obtain⟨_,_,lt⟩:=hS.hang (by omega) lp
   rw[pass_up hS lp lq h]
   cases n with
   |zero=>omega
   | succ n =>
    obtain⟨⟨qs,hh,e,l1,l2⟩,hz⟩:=id hp
    refine⟨⟨qs,hh,e,l1,l2⟩,nin _ (.inl (Nat.le_refl _)),fun e=>?_,realP_pl hp,?_⟩
    ·
     dsimp only at e
     omega
    ·
     have er:realP S p.1 0=hangAt S p.1:=if_pos ⟨by omega,rfl⟩
     show Lead S (realP S p.1 0) _ _ _
     rw[er]
     refine pass_lead hS n (hangAt S p.1) q _ (by omega) (PlOk.hang hS (by omega) lp) hq fun r hm=>?_
     rcases List.mem_append.mp hm with hm|hm
     ·
      have:=hr r hm
      omega
     ·
      rw[List.mem_singleton.mp hm]
      exact⟨lt,h⟩
theorem comp_map3{α:Type}{e1 e2 e3:α→D}{h:α→D}{caps:Ev}{te:W L}{k:List D→Ev→Prop}:∀(as:List α)(acc:List D)(l m n:L),
  (∀a∈as,∀Q:Ev→D→Prop,Q (.d (e1 a)::.d (e2 a)::.d (e3 a)::caps) (h a)→te (.d (e1 a)::.d (e2 a)::.d (e3 a)::caps) fun r ρ3=>toD r fun y=>Q ρ3 y) →
  (∀l' m' n',k (acc++as.map h) (l'::m'::n'::caps))→compL (tgTup [0,1,2]) wTrue te (as.map fun a=>D.tup [e1 a,e2 a,e3 a]) (l::m::n::caps) acc k
 |[],acc,l,m,n,_,fin=>by have:=fin l m n;simpa[compL]using this
 | a::as,acc,l,m,n,step,fin=>by
  show compL (tgTup [0,1,2]) wTrue te (D.tup [e1 a,e2 a,e3 a]::as.map fun a=>D.tup [e1 a,e2 a,e3 a]) (l::m::n::caps) acc k
  unfold compL
  show te (.d (e1 a)::.d (e2 a)::.d (e3 a)::caps) _
  refine step a List.mem_cons_self (fun ρ y=>compL (tgTup [0,1,2]) wTrue te (as.map fun a=>D.tup [e1 a,e2 a,e3 a]) ρ (acc++[y]) k) ?_
  exact comp_map3 as (acc++[h a]) _ _ _ (fun b hb=>step b (List.mem_cons_of_mem _ hb)) (by simpa using fin)
end My
set_option exponentiation.threshold 1000
namespace Hd
open PySem PySem.W PyProof.Rows
abbrev pr:Program:=PySem.Challenge.pw_ringloads_k69_passages_between
def top(i:Nat):Stmt:=pr.main.body.getD i (.Pass ⟨0,0,0,0⟩)
def inCls(st:Stmt)(j:Nat):Stmt:=match st with
 |.ClassDef _ _ _ b ..=>b.getD j (.Pass ⟨0,0,0,0⟩)
 |_=>.Pass ⟨0,0,0,0⟩
def dName(s:Stmt):Str:=match s with
 |.FunctionDef n ..=>n
 |_=>""
def dArgs(s:Stmt):Arguments:=match s with
 |.FunctionDef _ a _ _ _ _ _ _ _ _=>a
 |_=>{posonlyargs:=[],args:=[],vararg:=none,kwonlyargs:=[],kw_defaults:=[],kwarg:=none,defaults:=[] }
def dBody(s:Stmt):List Stmt:=match s with
 |.FunctionDef _ _ b _ _ _ _ _ _ _=>b
 |_=>[]
def dScope(s:Stmt):Scope:=match s with
 |.FunctionDef _ _ _ _ _ _ sc _ _ _=>sc
 |_=>{kind:=.function,names:=[],isGenerator:=false,isCoroutine:=false}
def dPos(s:Stmt):Pos:=match s with
 |.FunctionDef _ _ _ _ _ _ _ _ _ p=>p
 |_=>⟨0,0,0,0⟩
def fdOf (st:Stmt) (q:Str) (g:Addr) (md cd:Value):FuncData:={ name:=dName st,qualname:=q,params:=dArgs st,body:=.stmts (dBody st),scope:=dScope st,globals:=g,closure:=[],defaults:=.none,kwdefaults:=.none,doc:=.none,pyModule:=md,annotations:=none,code:=cd,closureTuple:=.none,builtins:=0 }
noncomputable def kh(P:Params)(x:Str):Int:=PySem.PyData.keyHash P x
def tupO(vs:List Value):Obj:=⟨.type "tuple",none,.seq vs.toArray 0,#[]⟩
def fldO(vs:List Value):Obj:=⟨.none,none,.fields vs.toArray,#[]⟩
def numb:Nat→List Str→List Value
 |_,[]=>[]
 |t,x::r=>.str x t::numb (t+1) r
noncomputable def codeO(st:Stmt)(a t:Nat)(v1 v2:Value)(tm u:Nat):Obj:=⟨.type "code",none,.fields #[.str (dName st) t,.str (dName st) (t+1),.str "/claim/cut.py" (t+2),.int (dPos st).line 0,.int (dArgs st).args.length 0,.int 0 0,.int 0 0,.int 3 0,.ref a,.bool true,.int 181 0,.ref (a+1),.none,v1,v2,.ref tm,.int u 0,.int (dPos st).line 0,.str "/claim/cut.py" (u+1)],#[]⟩
def fnO(st:Stmt)(md:Value)(cd:Nat):Obj:=⟨.type "function",none,.func (fdOf st (dName st) 3 md (.ref cd)),#[]⟩
def tmO(st:Stmt):Obj:=⟨.none,none,.func (fdOf st (dName st) 0 .none .none),#[]⟩
noncomputable def fdef7(st:Stmt)(a t:Nat)(vs:List Str)(md:Value):List Obj:=[tupO [],fldO [],tupO (numb (t+3) vs),tupO [],tmO st,codeO st a t (.ref (a+2)) (.ref (a+3)) (a+4) (t+3+vs.length),fnO st md (a+5)]
noncomputable def fdef5(st:Stmt)(a t:Nat)(md:Value):List Obj:=[tupO [],fldO [],tmO st,codeO st a t .none .none (a+2) (t+3),fnO st md (a+3)]
noncomputable def mainD (P:Params) (nm:Value) (es:List DictEntry) (n:Nat):Obj:=⟨.type "dict",none,.dict (([⟨kh P "__name__",.str "__name__" 165,nm⟩,⟨kh P "__doc__",.str "__doc__" 166,.none⟩,⟨kh P "__package__",.str "__package__" 167,.none⟩,⟨kh P "__loader__",.str "__loader__" 168,.builtin "__main__.__loader__#opaque"⟩,⟨kh P "__spec__",.str "__spec__" 169,.none⟩,⟨kh P "__annotations__",.str "__annotations__" 170,.ref 6⟩,⟨kh P "__builtins__",.str "__builtins__" 171,.ref 4⟩,⟨kh P "__file__",.str "__file__" 173,.str "/claim/cut.py" 172⟩,⟨kh P "__cached__",.str "__cached__" 174,.none⟩]:List DictEntry)++es).toArray n,#[]⟩
noncomputable def modO:Obj:=⟨.type "code",none,.fields #[.str "<module>" 182,.str "<module>" 183,.str "/claim/cut.py" 184,.int 1 0,.int 0 0,.int 0 0,.int 0 0,.int 0 0,.ref 11,.bool false,.int 181 0,.ref 12,.none,.none,.none,.none,.int 185 0,.int 1 0,.str "/claim/cut.py" 186],#[]⟩
noncomputable def frmO:Obj:=⟨.type "frame",none,.plain,#[some (.ref 13),some (.ref 3),some (.ref 3),none,some (.str "__main__" 164),none,some (.ref 0)]⟩
noncomputable def bootL(P:Params):List Obj:=[boot_o_0 P,boot_o_1 P,boot_o_2 P,boot_o_3 P,boot_o_4 P,boot_o_5 P,boot_o_6 P,boot_o_7 P,boot_o_8 P,boot_o_9 P,boot_o_10 P,tupO [],fldO [],modO,frmO]
def life0:Life:=⟨[],[],[],0,[],[],false,#[],[],0,false,false,false,0,[2000,10,10],false,0,true,[],[],0,false⟩
noncomputable def lookO(l:List (Nat×Obj))(b:Nat):Option Obj:=@List.rec (Nat×Obj) (fun _=>Option Obj) none (fun x _ ih=>bif Nat.beq x.1 b then some x.2 else ih) l
noncomputable def obBase(P:Params)(ob:Params→Nat→Obj)(b:Nat):Obj:=bif b.blt 15 then(bootL P).getD b default else ob P b
noncomputable def memN(l:List Nat)(b:Nat):Bool:=@List.rec Nat (fun _=>Bool) false (fun x _ ih=>@Bool.rec (fun _=>Bool) ih true (Nat.beq x b)) l
noncomputable def obAt(ks:List Nat)(P:Params)(ov:List (Nat×Obj))(ob:Params→Nat→Obj)(b j:Nat):Obj:=@Bool.rec (fun _=>Obj) (obBase P ob b) ((lookO ov b).getD default) (memN ks b)
noncomputable def L0(n:Nat)(f:Nat→Obj)(a b j:Nat):BT:=.nil
noncomputable def L1(n:Nat)(f:Nat→Obj)(a b j:Nat):BT:=@Bool.rec (fun _=>BT) .nil (.node (f b) (L0 n f (2*a) (a+b) j) (L0 n f (2*a) (2*a+b) j)) (b.blt n)
noncomputable def L2(n:Nat)(f:Nat→Obj)(a b j:Nat):BT:=@Bool.rec (fun _=>BT) .nil (.node (f b) (L1 n f (2*a) (a+b) j) (L1 n f (2*a) (2*a+b) j)) (b.blt n)
noncomputable def L3(n:Nat)(f:Nat→Obj)(a b j:Nat):BT:=@Bool.rec (fun _=>BT) .nil (.node (f b) (L2 n f (2*a) (a+b) j) (L2 n f (2*a) (2*a+b) j)) (b.blt n)
noncomputable def L4(n:Nat)(f:Nat→Obj)(a b j:Nat):BT:=@Bool.rec (fun _=>BT) .nil (.node (f b) (L3 n f (2*a) (a+b) j) (L3 n f (2*a) (2*a+b) j)) (b.blt n)
noncomputable def L5(n:Nat)(f:Nat→Obj)(a b j:Nat):BT:=@Bool.rec (fun _=>BT) .nil (.node (f b) (L4 n f (2*a) (a+b) j) (L4 n f (2*a) (2*a+b) j)) (b.blt n)
noncomputable def L6(n:Nat)(f:Nat→Obj)(a b j:Nat):BT:=@Bool.rec (fun _=>BT) .nil (.node (f b) (L5 n f (2*a) (a+b) j) (L5 n f (2*a) (2*a+b) j)) (b.blt n)
noncomputable def L7(n:Nat)(f:Nat→Obj)(a b j:Nat):BT:=@Bool.rec (fun _=>BT) .nil (.node (f b) (L6 n f (2*a) (a+b) j) (L6 n f (2*a) (2*a+b) j)) (b.blt n)
noncomputable def L8(n:Nat)(f:Nat→Obj)(a b j:Nat):BT:=@Bool.rec (fun _=>BT) .nil (.node (f b) (L7 n f (2*a) (a+b) j) (L7 n f (2*a) (2*a+b) j)) (b.blt n)
noncomputable def L9(n:Nat)(f:Nat→Obj)(a b j:Nat):BT:=@Bool.rec (fun _=>BT) .nil (.node (f b) (L8 n f (2*a) (a+b) j) (L8 n f (2*a) (2*a+b) j)) (b.blt n)
noncomputable def L10(n:Nat)(f:Nat→Obj)(a b j:Nat):BT:=@Bool.rec (fun _=>BT) .nil (.node (f b) (L9 n f (2*a) (a+b) j) (L9 n f (2*a) (2*a+b) j)) (b.blt n)
noncomputable def L11(n:Nat)(f:Nat→Obj)(a b j:Nat):BT:=@Bool.rec (fun _=>BT) .nil (.node (f b) (L10 n f (2*a) (a+b) j) (L10 n f (2*a) (2*a+b) j)) (b.blt n)
noncomputable def L12(n:Nat)(f:Nat→Obj)(a b j:Nat):BT:=@Bool.rec (fun _=>BT) .nil (.node (f b) (L11 n f (2*a) (a+b) j) (L11 n f (2*a) (2*a+b) j)) (b.blt n)
theorem seg_by{p:Program}{w:World}{m:Nat}{ann:Option Value}{b n:Nat}{s:SharedT}{t:Thread}{r:Option (Flow×SharedT×Code×Pos)}(h:Fast.tw10110043849684766642 Fast.tw14364793385576792824 p w m ann b n s t=r):segRunT treeTable p w m ann b n s t=r:=by
 rw[Fast.te10110043849684766642,Fast.te14364793385576792824];exact h
theorem top_by{p:Program}{w:World}{m:Nat}{ann:Option Value}{n:Nat}{s:Shared}{t:Thread}{r:Option Shared}(h:Fast.tw14082659384304107361 Fast.tw14364793385576792824 p w m ann n s t=r):topRun treeTable p w m ann n s t=r:=by
 rw[Fast.te14082659384304107361,Fast.te14364793385576792824];exact h
theorem den_tw:denote treeTable=Fast.tw11892475500146522536 Fast.tw14364793385576792824:=by rw[← Fast.te11892475500146522536,← Fast.te14364793385576792824]
theorem go_by{p:Program}{w:World}{m:Nat}{ann:Option Value}{n:Nat}{s:Shared}{t:Thread}{r:Option (Shared×Thread)}(h:Fast.tw15667345088766844465 Fast.tw14364793385576792824 p w m ann n s t=r):topGo treeTable p w m ann n s t=r:=by
 rw[Fast.te15667345088766844465,Fast.te14364793385576792824];exact h
theorem rest_eq{b b':List Stmt}(e:b=b'){tb:String→Option Builtin}{p:Program}{w:World}{m:Nat}{ann:Option Value}{n:Nat}{s:Shared}{env:Env}{c:Code}{ps:Pos}{B:List Frame}{r:Option Shared}(h:topRun tb p w m ann n s (restOf b' env c ps B)=r):topRun tb p w m ann n s (restOf b env c ps B)=r:=by rw[e];exact h
noncomputable def f1(P:Params):List Obj:=fdef5 (top 1) 15 189 (.str "ringloads.passages" 187)
noncomputable def f2(P:Params):List Obj:=fdef7 (top 2) 20 195 ["string","place","climbed"] (.str "ringloads.passages" 187)
noncomputable def f4(P:Params):List Obj:=fdef7 (top 4) 27 206 ["_law_script","_law_k","_law_cell"] (.str "law_ringloads_k69_passages_between" 204)
noncomputable def f5(P:Params):List Obj:=fdef7 (top 5) 34 215 ["_law_state","_law_many","_law_digit","_law_drawn","_law_turn"] (.str "law_ringloads_k69_passages_between" 204)
noncomputable def f6(P:Params):List Obj:=fdef7 (top 6) 41 226 ["_law_top","_law_bottom","_law_one","_law_share"] (.str "law_ringloads_k69_passages_between" 204)
noncomputable def f7(P:Params):List Obj:=fdef7 (top 7) 48 236 ["_law_state","_law_least","_law_kind","_law_bottom","_law_top"] (.str "law_ringloads_k69_passages_between" 204)
noncomputable def f8(P:Params):List Obj:=fdef7 (top 8) 55 247 ["_law_state","_law_string_here","_law_ring"] (.str "law_ringloads_k69_passages_between" 204)
noncomputable def f9(P:Params):List Obj:=fdef5 (top 9) 62 256 (.str "law_ringloads_k69_passages_between" 204)
noncomputable def f10(P:Params):List Obj:=fdef7 (top 10) 67 262 ["_law_string_here","_law_ring","_law_place_here"] (.str "law_ringloads_k69_passages_between" 204)
noncomputable def f11(P:Params):List Obj:=fdef7 (top 11) 74 271 ["_law_string_here","_law_one","_law_other","_law_told","_law_here","_law_rings","_law_ring","_law_enters","_law_leaves"] (.str "law_ringloads_k69_passages_between" 204)
noncomputable def f12(P:Params):List Obj:=fdef5 (top 12) 81 286 (.str "law_ringloads_k69_passages_between" 204)
noncomputable def f13(P:Params):List Obj:=fdef7 (top 13) 86 292 ["_law_script","_law_string_here","_law_kept","_law_k","_law_state","_law_one","_law_other"] (.str "law_ringloads_k69_passages_between" 204)
noncomputable def ob(P:Params)(b:Nat):Obj:=(bif b.blt 55 then(bif b.blt 34 then(bif b.blt 20 then(f1 P).getD (b-15) default else(bif b.blt 27 then(f2 P).getD (b-20) default else(f4 P).getD (b-27) default))else(bif b.blt 41 then(f5 P).getD (b-34) default else(bif b.blt 48 then(f6 P).getD (b-41) default else(f7 P).getD (b-48) default)))else(bif b.blt 74 then(bif b.blt 62 then(f8 P).getD (b-55) default else(bif b.blt 67 then(f9 P).getD (b-62) default else(f10 P).getD (b-67) default))else(bif b.blt 81 then(f11 P).getD (b-74) default else(bif b.blt 86 then(f12 P).getD (b-81) default else(f13 P).getD (b-86) default))))
noncomputable def ents(P:Params):List DictEntry:=[(DictEntry.mk (kh P "passages") (.str "passages" 194) (.ref 19)),
 (DictEntry.mk (kh P "climbed_from") (.str "climbed_from" 203) (.ref 26)),
 (DictEntry.mk (kh P "_law_begun") (.str "_law_begun" 214) (.ref 33)),
 (DictEntry.mk (kh P "_law_take") (.str "_law_take" 225) (.ref 40)),
 (DictEntry.mk (kh P "_law_low") (.str "_law_low" 235) (.ref 47)),
 (DictEntry.mk (kh P "_law_amount") (.str "_law_amount" 246) (.ref 54)),
 (DictEntry.mk (kh P "_law_place") (.str "_law_place" 255) (.ref 61)),
 (DictEntry.mk (kh P "_law_string") (.str "_law_string" 261) (.ref 66)),
 (DictEntry.mk (kh P "_law_real") (.str "_law_real" 270) (.ref 73)),
 (DictEntry.mk (kh P "_law_leads") (.str "_law_leads" 285) (.ref 80)),
 (DictEntry.mk (kh P "_law_right") (.str "_law_right" 291) (.ref 85)),
 (DictEntry.mk (kh P "law") (.str "law" 304) (.ref 92))]
noncomputable def plc:List Value:=[(.int 2 0),(.int 0 0),(.ref 18),(.int 11 0),(.int 0 0),(.ref 25),(.int 17 0),(.int 0 0),(.ref 32),(.int 22 0),(.int 0 0),(.ref 39),(.int 33 0),(.int 0 0),(.ref 46),(.int 41 0),(.int 0 0),(.ref 53),(.int 45 0),(.int 0 0),(.ref 60),(.int 50 0),(.int 0 0),(.ref 65),(.int 65 0),(.int 0 0),(.ref 72),(.int 69 0),(.int 0 0),(.ref 79),(.int 80 0),(.int 0 0),(.ref 84),(.int 90 0),(.int 0 0),(.ref 91)]
noncomputable def ov0(P:Params):List (Nat×Obj):=[(12,fldO (plc.take 0))]
noncomputable def T0(P:Params):BT:=L12 15 (fun b=>obAt [12] P (ov0 P) ob b 0) 1 0 0
noncomputable abbrev S0(w:World)(os:OsState):SharedT:=⟨T0 w.params,15,life0,#[],⟨0,0,0,0⟩,187,os⟩
noncomputable def ov1(P:Params):List (Nat×Obj):=[(3,mainD P (.str "law_ringloads_k69_passages_between" 204) ((ents P).take 12) 21),(12,fldO (plc.take 36))]
noncomputable def T1(P:Params):BT:=L12 93 (fun b=>obAt [3,12] P (ov1 P) ob b 1) 1 0 1
noncomputable abbrev S1(w:World)(os:OsState):SharedT:=⟨T1 w.params,93,life0,#[],⟨0,0,0,0⟩,305,os⟩
abbrev env:Env:={scope:=pr.main.scope,locals:=mainNs,globals:=mainNs,cells:=[],code:=.ref 13,frame:=some 14}
abbrev cE:Code:=.body (behindTheImports pr) env
abbrev B:List Frame:=[topFrame ⟨0,0,0,0⟩]
def sts1:List Stmt:=(pr.main.body.drop 0).take 14
theorem pc1(w:World)(os:OsState):segRunT treeTable pr w 11 (some (.ref 6)) 1 391 (S0 w os) (piecesOf sts1 env cE ⟨0,0,0,0⟩ B)=some (.next,S1 w os,cE,⟨90,0,99,46⟩):=seg_by (by kernel_rfl)
noncomputable abbrev H1(P:Params):Heap:=absHeap (T1 P) 93 life0
theorem pre(w:World)(os:OsState):topGo treeTable pr w 11 (some (.ref 6)) 12 ⟨boot_heap w.params,#[],boot_drawn,boot_toks,os⟩ (topStub pr)=some (⟨⟨⟨bootL w.params⟩,life0⟩,#[],⟨0,0,0,0⟩,187,os⟩,⟨denote treeTable cE,cE,⟨0,0,0,0⟩,B⟩):=by rw[den_tw];exact go_by (by kernel_rfl)
theorem block(w:World)(os:OsState):segRun treeTable pr w 11 (some (.ref 6)) 1 1 ⟨⟨⟨bootL w.params⟩,life0⟩,#[],⟨0,0,0,0⟩,187,os⟩ (blockOf (behindTheImports pr) env cE ⟨0,0,0,0⟩ B)=some (.next,(S0 w os).abs,cE,⟨0,0,0,0⟩):=by kernel_rfl
theorem fin(w:World)(os:OsState):topRun treeTable pr w 11 (some (.ref 6)) 2 (S1 w os).abs ⟨doneF .next,cE,⟨90,0,99,46⟩,B⟩=some ⟨H1 w.params,#[],⟨0,0,0,0⟩,305,os⟩:=top_by (by kernel_rfl)
theorem body_eq:behindTheImports pr=(sts1++[]):=by kernel_rfl
theorem run(w:World)(os:OsState):topRun treeTable pr w 11 (some (.ref 6)) (12+(1+(391+2))) ⟨boot_heap w.params,#[],boot_drawn,boot_toks,os⟩ (topStub pr)=some ⟨H1 w.params,#[],⟨0,0,0,0⟩,305,os⟩ :=
 go_top (pre w os) (piece_block (block w os) (rest_eq body_eq (piece_app (segRun_of (pc1 w os)) (piece_nil (fin w os)))))
abbrev q:Program:=view pr [13]
noncomputable def loose:List Str:=(["passages","climbed_from","_law_begun","_law_take","_law_low","_law_amount","_law_place","_law_string","_law_real","_law_leads","_law_right"]:List String).map Str.ofString
noncomputable def Kf(P:Params):Frag:=(3,((ov1 P).getD 0 (0,default)).2)::[(18,(f1 P).getD 3 default),(19,(f1 P).getD 4 default),(25,(f2 P).getD 5 default),(26,(f2 P).getD 6 default),(32,(f4 P).getD 5 default),(33,(f4 P).getD 6 default),(39,(f5 P).getD 5 default),(40,(f5 P).getD 6 default),(46,(f6 P).getD 5 default),(47,(f6 P).getD 6 default),(53,(f7 P).getD 5 default),(54,(f7 P).getD 6 default),(60,(f8 P).getD 5 default),(61,(f8 P).getD 6 default),(65,(f9 P).getD 3 default),(66,(f9 P).getD 4 default),(72,(f10 P).getD 5 default),(73,(f10 P).getD 6 default),(79,(f11 P).getD 5 default),(80,(f11 P).getD 6 default),(84,(f12 P).getD 3 default),(85,(f12 P).getD 4 default),(91,(f13 P).getD 5 default),(92,(f13 P).getD 6 default)]
noncomputable abbrev as:List Addr:=[3,18,19,25,26,32,33,39,40,46,47,53,54,60,61,65,66,72,73,79,80,84,85,91,92]
noncomputable abbrev Hk:Hook:=kHook Kf as (fun _=>by kernel_rfl)
abbrev Xt:Shared→Bool:=fun s=>xlAt q [] s && recOk (RowW.records PySem.Challenge.rw_ringloads_k69_passages_between.row.toRowW) s
theorem size (w:World):((boot_heap w.params).isNs mainGlobals && (#[]:Array GenState).size == 0,(boot_heap w.params).objs.size,(boot_heap w.params).nsMap mainGlobals "__annotations__")=(true,11,some (.ref 6)):=by kernel_rfl
theorem look1(w:World)(os:OsState):(staticsOk (importedModules pr.main.body) (boot_heap w.params) (H1 w.params) && namesBound pr (H1 w.params) && gensDone ⟨H1 w.params,#[],⟨0,0,0,0⟩,305,os⟩ && laidKept (boot_heap w.params) (H1 w.params))=true:=by kernel_rfl
theorem look2(w:World)(os:OsState):openSeen q loose (importedModules pr.main.body) Xt true ⟨H1 w.params,#[],⟨0,0,0,0⟩,305,os⟩=openGood q loose:=by rw[Fast.te4187177175401517315];kernel_rfl
theorem look3(w:World)(os:OsState):Hk.obs ⟨H1 w.params,#[],⟨0,0,0,0⟩,305,os⟩=Hk.val w:=by kernel_rfl
theorem opened:opening pr=plainProg pr.main.scope.names:=by kernel_rfl
theorem left:LeftO pr q loose Xt Hk.obs Hk.val 1480:=LeftO.of_pieces (M:=(12+(1+(391+2)))) (boot_open opened (by decide) (fun s=>by kernel_rfl)) size run (by decide +kernel) (fun w=>funext fun os=>looks_pair (look1 w os) (looks_pair (look2 w os) (look3 w os)))
end Hd
namespace My
open PySem L2
local macro_rules | `(tactic| walk_at "w")=>do
 let ids:=("takeW_bx takeW_d tupOf_bx wDGet wDIn dicV keyOf noLr_dic flatL_dic varW_d varW_own varW_bx movW_d movW_own movW_bx selW_own selW_d selW_bx pkW_own wPeekS pkS_own trdW_lst pkW_bx pkW_d pkB_own pkB_bx pkB_d fzW_own fzW_d toDB_t toDB_o eraK_nil eraK_cons noLr_un noLr_d noLr_own noLr_bx noLrs_nil noLrs_cons flatL_bx opEqS wSeq wIf wTest wBin wUn wVar wMove wC wSet wRet wDrop wNext wCall wCallB wCallD aVal aVar aNil toD toDs toInt isBl wTup wLst wNot wAnd wOr wAndV wFrz wIsOwn wIxV wSetV wApp wPeek wPeekB noL noLs flatOwn flatL_un flatL_d flatL_own List.all_cons List.all_nil Bool.and_true Bool.true_and ownV wPar wFor wRng1 wRng2 wSrc wRevS wChain itemsOf_lst itemsOf_tup itemsOf_fr tgName tgTup_tup tgTup_ask tgTup_fr tgNames opAdd opSub opMulI opDiv opMod opPow opLt opLe opGt opGe opEq opNe opNeg opIx_lst opIx_tup opIx_str ix_ring0 ix_ring1 ix_ask0 ix_ask1 ix_ask2 ix_ask3 ix_fr0 ix_fr1 ix_cut0 ix_cut1 ix_g0 ix_g1 noL_cut shape_cut eqD_cut eqD_fr shape_fr noL_fr noLs_frs noLs_cuts noLs_ints shape_on shape_back shape_way way_on way_back List.length_map rooms_len opLen_lst opLen_tup opLen_str opLen_fr opLen_ring opLen_ask isTy_tup_fr isTy_lst_fr isTy_int_fr isTy_bool_fr isTy_str_fr isTy_tup_ring noLs_frL frL_len opAbs opMin opMax opInt opList opIsT isTy_non isTy_bl isTy_int isTy_str isTy_tup isTy_lst isTy_tup_g isTy_tup_cut isTy_tup_ask opLen_cut opLen_g opInF beq_self_eq_true String.reduceBEq String.reduceEq reduceCtorEq wPart wRev wComp capsOf putAll unsAt shapeD_int shapeD_bl shapeD_non eqD_int eqD_str eqD_bl List.getElem?_cons_zero List.getElem?_cons_succ List.set_cons_zero List.set_cons_succ List.cons_append List.nil_append List.replicate_succ List.replicate_zero List.map_cons List.map_nil List.drop_succ_cons List.drop_zero Option.getD_some true_and decide_eq_true_eq Bool.not_eq_true' decide_eq_false_iff_not ite_true ite_false Bool.false_eq_true Bool.true_eq_false if_true if_false List.length_cons List.length_nil Nat.reduceAdd Nat.reduceSub atI_0 atI_1 atI_2 atI_3 atI_4 ix30 ix31 ix32 Option.some.injEq exists_eq_left' exists_eq_left".splitOn " ").toArray.map fun s=>Lean.mkIdent ((s.splitOn ".").foldl Lean.Name.mkStr Lean.Name.anonymous)
 `(tactic| try simp only [$[$ids:ident],*])
local macro_rules | `(tactic| walk_at "o")=>`(tactic| first | exact Or.inl rfl | exact Or.inr rfl)
abbrev s_climbed_from:Stmt:=Hd.top 2
noncomputable abbrev N_climbed_from:List Str:=["string","place","climbed"]
abbrev s_passages:Stmt:=Hd.top 1
noncomputable abbrev N_passages:List Str:=["string","one","other","up","down","here","there","ahead","between","behind"]
abbrev s__law_take:Stmt:=Hd.top 5
noncomputable abbrev N__law_take:List Str:=["_law_state","_law_many","_law_digit","_law_drawn","_law_turn"]
abbrev s__law_low:Stmt:=Hd.top 6
noncomputable abbrev N__law_low:List Str:=["_law_top","_law_bottom","_law_one","_law_share"]
abbrev s__law_amount:Stmt:=Hd.top 7
noncomputable abbrev N__law_amount:List Str:=["_law_state","_law_least","_law_kind","_law_bottom","_law_top"]
abbrev s__law_place:Stmt:=Hd.top 8
noncomputable abbrev N__law_place:List Str:=["_law_state","_law_string_here","_law_ring"]
abbrev s__law_string:Stmt:=Hd.top 9
noncomputable abbrev N__law_string:List Str:=["_law_state","_law_most","_law_places","_law_string_here","_law_shape","_law_k","_law_kind","_law_rooms","_law_at"]
abbrev s__law_begun:Stmt:=Hd.top 4
noncomputable abbrev N__law_begun:List Str:=["_law_script","_law_k","_law_cell"]
abbrev s__law_real:Stmt:=Hd.top 10
noncomputable abbrev N__law_real:List Str:=["_law_string_here","_law_ring","_law_place_here"]
abbrev s__law_leads:Stmt:=Hd.top 11
noncomputable abbrev N__law_leads:List Str:=["_law_string_here","_law_one","_law_other","_law_told","_law_here","_law_rings","_law_ring","_law_enters","_law_leaves"]
abbrev s__law_right:Stmt:=Hd.top 12
noncomputable abbrev N__law_right:List Str:=["_law_string_here","_law_one","_law_other","_law_told","_law_back","_law_kept"]
abbrev s_law:Stmt:=Hd.top 13
noncomputable abbrev N_law:List Str:=["_law_script","_law_string_here","_law_kept","_law_k","_law_state","_law_one","_law_other"]
def fs_climbed_from:FS:=fun ls post=>∃(S:Str2)(p:Nat×Nat),ls=[.d (.lst (S.map itD)),.d (pcD p)]∧SGood S∧S.length≤60∧p.1<S.length∧∀a,post (.own a ((climb S p.1 p).map pcD)) ls
def b_climbed_from_0:W Fl:=(wDrop (wApp 2 (wBin opIx (wBin opIx (wVar 0) (wBin opIx (wIsOwn 2 (wIxV 2 (wUn opNeg (wC (.int 1)))) (wBin opIx (wVar 2) (wUn opNeg (wC (.int 1))))) (wC (.int 0)))) (wC (.int 1)))))
def m_climbed_from:W Fl:=(wSeq (wSet 2 (wLst (aVal (wVar 1) aNil)))
  (wSeq (wWhile (wTest (wBin opNe (wBin opIx (wIsOwn 2 (wIxV 2 (wUn opNeg (wC (.int 1)))) (wBin opIx (wVar 2) (wUn opNeg (wC (.int 1))))) (wC (.int 0))) (wC (.int 0)))) b_climbed_from_0)
  (wRet (wMove 2))))
theorem sat_climbed_from:∀ls post,ls.length=2→fs_climbed_from ls post→m_climbed_from (ls++List.replicate 1 .un) (okEnd ls post):=by
 rintro ls post - ⟨S,p,rfl,hS,hl,hp,h⟩
 unfold m_climbed_from
 walk_at "w"
 refine⟨by decide,fun a=>?_⟩
 refine⟨fun n ρ=>∃(pre:List (Nat×Nat))(c:Nat×Nat),ρ=[.d (.lst (S.map itD)),.d (pcD p),.own a ((pre++[c]).map pcD)]∧c.1≤n∧c.1<S.length∧pre.length+n≤60∧climb S p.1 p=pre++climb S n c,⟨p.1,[],p,rfl,Nat.le_refl _,hp,by simp;omega,rfl⟩,?_⟩
 rintro n ρ ⟨pre,c,rfl,h1,h2,h3,h4⟩
 walk_at "w"
 have el:atI ((pre++[c]).map pcD) (-1)=some (pcD c):=by
  refine atI_neg1 ?_
  rw[List.map_append,List.map_singleton,List.length_append,List.length_singleton,Nat.add_sub_cancel,List.getElem?_append_right (Nat.le_refl _),Nat.sub_self]
  rfl
 have e0:∀k:L→Prop,k (.d (.int (c.1:Int)))→opIx (pcD c) (.int 0) k:=fun k hk=>⟨_,atI_0,hk⟩
 refine⟨_,el,e0 _ ?_⟩
 dsimp only
 refine⟨shape_ok (n:=1) rfl (by decide),?_⟩
 by_cases c0:c.1=0
 ·
  rw[c0]
  rw[if_neg (by decide +kernel)]
  rw[climb_0 c0]at h4
  rw[← h4]
  exact⟨_,back_d (back_d back0),h a⟩
 ·
  rw[if_pos (by simp;omega)]
  obtain⟨qs,e1,e2⟩:=hS.hang (by omega) h2
  unfold b_climbed_from_0
  walk_at "w"
  refine⟨_,el,e0 _ ?_⟩
  walk_at "w"
  have ev:atI (S.map itD) (c.1:Int)=some (itD (qs,some (hangAt S c.1))):=atI_nat (by rw[List.getElem?_map,e1];rfl)
  obtain⟨m,rfl⟩:∃m,n=m+1:=⟨n-1,by omega⟩
  rw[climb_s c0]at h4
  refine⟨_,ev,_,atI_1,?_⟩
  dsimp only
  refine⟨Nat.lt_of_le_of_lt (show(pre++[c]).length≤61 by rw[List.length_append,List.length_singleton];omega) (by decide),m,by omega,pre++[c],hangAt S c.1,?_,by omega,by omega,?_,?_⟩
  ·
   rw[List.map_append (l₂:=[hangAt S c.1])]
   rfl
  ·
   rw[List.length_append,List.length_singleton]
   omega
  ·
   rw[h4,List.append_assoc]
   rfl
def fs_passages:FS:=fun ls post=>∃(S:Str2)(one other:Nat×Nat),ls=[.d (.lst (S.map itD)),.d (pcD one),.d (pcD other)]∧SGood S∧S.length≤60∧one.1<S.length∧other.1<S.length∧∀a,post (.own a ((passL S one other).map trI)) ls
def b_passages_0:W L:=(wTup (aVal (wVar 0) (aVal (wC (.int 0)) (aVal (wVar 1) aNil))))
def c_passages_6:W Fl:=(wRet (wBin opAdd (wBin opAdd (wVar 7) (wVar 8)) (wVar 9)))
def b_passages_1:W L:=(wTup (aVal (wVar 0) (aVal (wVar 1) (aVal (wDGet 2 (wVar 0)) aNil))))
def c_passages_5:W Fl:=(wSeq (wSet 9 (wComp 2 [5] (wRevS (wVar 4)) (tgTup [0,1]) (wTest (wDIn true 2 (wVar 0))) b_passages_0))
  c_passages_6)
def b_passages_2:W L:=(wTup (aVal (wVar 0) (aVal (wVar 1) (aVal (wC (.int 0)) aNil))))
def c_passages_4:W Fl:=(wSeq (wSet 8 (wComp 2 [6] (wSrc (wVar 3)) (tgTup [0,1]) (wAnd (wTest (wDIn false 2 (wVar 0))) (wTest (wBin opNe (wVar 1) (wDGet 2 (wVar 0))))) b_passages_1))
  c_passages_5)
def c_passages_3:W Fl:=(wSeq (wSet 7 (wComp 2 [6] (wSrc (wVar 3)) (tgTup [0,1]) (wTest (wDIn true 2 (wVar 0))) b_passages_2))
  c_passages_4)
def c_passages_2:W Fl:=(wSeq (wSet 6 (wDOf (wVar 4)))
  c_passages_3)
def c_passages_1:W Fl:=(wSeq (wSet 5 (wDOf (wVar 3)))
  c_passages_2)
def c_passages_0:W Fl:=(wSeq (wSet 4 (wFrz (wCall fs_climbed_from (aVal (wVar 0) (aVal (wVar 2) aNil)))))
  c_passages_1)
def m_passages:W Fl:=(wSeq (wSet 3 (wFrz (wCall fs_climbed_from (aVal (wVar 0) (aVal (wVar 1) aNil)))))
  c_passages_0)
theorem sat_passages:∀ls post,ls.length=3→fs_passages ls post→m_passages (ls++List.replicate 7 .un) (okEnd ls post):=by
 rintro ls post - ⟨S,one,other,rfl,hS,hl,h1,h2,h⟩
 unfold m_passages
 walk_at "w"
 refine⟨S,one,rfl,hS,hl,h1,fun a1=>?_⟩
 walk_at "w"
 unfold c_passages_0
 walk_at "w"
 refine⟨S,other,rfl,hS,hl,h2,fun a2=>?_⟩
 have nu:=climb_nd hS one.1 one h1
 have nd:=climb_nd hS other.1 other h2
 have lu:=climb_len (S:=S) one.1 one
 have ld:=climb_len (S:=S) other.1 other
 unfold passL at h
 generalize climb S one.1 one=up at nu lu h
 generalize climb S other.1 other=down at nd ld h
 walk_at "w"
 unfold c_passages_1
 walk_at "w"
 unfold wDOf
 walk_at "w"
 refine⟨up.map prI,by rw[pcD_pr],by rw[List.length_map];omega,fun a3=>?_⟩
 walk_at "w"
 unfold c_passages_2
 walk_at "w"
 unfold wDOf
 walk_at "w"
 refine⟨down.map prI,by rw[pcD_pr],by rw[List.length_map];omega,fun a4=>?_⟩
 walk_at "w"
 have vu:=val_dct nu
 have vd:=val_dct nd
 generalize dctOf (up.map prI)=du at vu
 generalize dctOf (down.map prI)=dd at vd
 unfold c_passages_3
 walk_at "w"
 have sz:∀us:List (Nat×Nat),us.length≤100→us.length≤sizeLine:=fun us h=>Nat.le_trans h (by decide)
 refine⟨sz _ (by omega),?_⟩
 refine comp_pure2 (e1:=fun c:Nat×Nat=>D.int (c.1:Int)) (e2:=fun c:Nat×Nat=>D.int (c.2:Int)) (h:=fun c=>(ahF down c).map trI) up [] _ _ (fun c hc Q q=>?_) fun l' m'=>?_
 ·
  unfold ahF at q
  walk_at "w"
  rw[vd]
  cases e:thL down c.1 with
  | some x =>
   rw[e]at q
   exact q
  | none =>
   rw[e]at q
   unfold b_passages_2
   walk_at "w"
   exact⟨by decide,q⟩
 walk_at "w"
 intro a5
 walk_at "w"
 unfold c_passages_4
 walk_at "w"
 refine⟨sz _ (by omega),?_⟩
 refine comp_pure2 (e1:=fun c:Nat×Nat=>D.int (c.1:Int)) (e2:=fun c:Nat×Nat=>D.int (c.2:Int)) (h:=fun c=>(beF down c).map trI) up [] _ _ (fun c hc Q q=>?_) fun l' m'=>?_
 ·
  unfold beF at q
  walk_at "w"
  rw[vd]
  cases e:thL down c.1 with
  | none =>
   rw[e]at q
   exact q
  | some x =>
   rw[e]at q
   walk_at "w"
   rw[if_pos (show(Option.map (fun (q:Nat)=>D.int (q:Int)) (some x)).isSome=true from rfl)]
   refine⟨_,rfl,shape_ok (n:=1) rfl (by decide),?_⟩
   by_cases g:c.2=x
   ·
    have q:=q
    dsimp only at q
    rw[if_pos g]at q
    rw[if_neg (by rw[g];simp)]
    exact q
   ·
    have q:=q
    dsimp only at q
    rw[if_neg g]at q
    rw[if_pos (by simp;omega)]
    unfold b_passages_1
    walk_at "w"
    rw[vd,e]
    exact⟨_,rfl,by decide,q⟩
 walk_at "w"
 intro a6
 walk_at "w"
 unfold c_passages_5
 walk_at "w"
 have er:(down.map pcD).reverse=down.reverse.map pcD:=List.map_reverse.symm
 rw[er]
 refine⟨by rw[List.length_map,List.length_reverse];exact sz _ (by omega),?_⟩
 refine comp_pure2 (e1:=fun c:Nat×Nat=>D.int (c.1:Int)) (e2:=fun c:Nat×Nat=>D.int (c.2:Int)) (h:=fun c=>(bhF up c).map trI) down.reverse [] _ _ (fun c hc Q q=>?_) fun l' m'=>?_
 ·
  unfold bhF at q
  walk_at "w"
  rw[vu]
  cases e:thL up c.1 with
  | some x =>
   rw[e]at q
   exact q
  | none =>
   rw[e]at q
   unfold b_passages_0
   walk_at "w"
   exact⟨by decide,q⟩
 walk_at "w"
 intro a7
 walk_at "w"
 unfold c_passages_6
 walk_at "w"
 have l1:=List.length_filterMap_le (fun c=>Option.map trI (ahF down c)) up
 have l2:=List.length_filterMap_le (fun c=>Option.map trI (beF down c)) up
 have l3:=List.length_filterMap_le (fun c=>Option.map trI (bhF up c)) down.reverse
 rw[List.length_reverse]at l3
 have big:∀n:Nat,n≤300→n≤sizeLine:=fun n h=>Nat.le_trans h (by decide)
 refine⟨big _ (by omega),fun _=>⟨big _ (by rw[List.length_append];omega),fun a8=>⟨_,back_d (back_d (back_d back0)),?_⟩⟩⟩
 have:=h a8
 rw[List.map_append,List.map_append,List.map_filterMap,List.map_filterMap,List.map_filterMap]at this
 exact this
def fs__law_take:FS:=fun ls post=>∃(a:Addr)(xs:List D)(m:Int),ls=[.own a xs,.d (.int m)]∧StOk xs∧0<m∧m≤10^60∧∀(r:Int)(ys:List D),StOk ys→0≤r→r<m→post (.d (.int r)) [.own a ys,.d (.int m)]
def b__law_take_0:W Fl:=(wSeq (wSetV 0 (wC (.int 1)) (wBin opMod (wBin opAdd (wBin opMulI (wIsOwn 0 (wIxV 0 (wC (.int 1))) (wBin opIx (wVar 0) (wC (.int 1)))) (wC (.int 39373))) (wC (.int 17))) (wC (.int 2147483647))))
  (wSet 3 (wFrz (wBin opAdd (wBin opMulI (wVar 3) (wC (.int 2147483629))) (wBin opMod (wBin opMulI (wIsOwn 0 (wIxV 0 (wC (.int 1))) (wBin opIx (wVar 0) (wC (.int 1)))) (wIsOwn 0 (wIxV 0 (wC (.int 1))) (wBin opIx (wVar 0) (wC (.int 1))))) (wC (.int 2147483629)))))))
def m__law_take:W Fl:=(wSeq (wIf (wTest (wIsOwn 0 (wIxV 0 (wC (.int 2))) (wBin opIx (wVar 0) (wC (.int 2))))) (wSeq (wSet 2 (wBin opMod (wIsOwn 0 (wIxV 0 (wC (.int 0))) (wBin opIx (wVar 0) (wC (.int 0)))) (wVar 1)))
  (wSeq (wSetV 0 (wC (.int 0)) (wBin opDiv (wIsOwn 0 (wIxV 0 (wC (.int 0))) (wBin opIx (wVar 0) (wC (.int 0)))) (wVar 1)))
  (wSeq (wSetV 0 (wC (.int 2)) (wBin opGt (wIsOwn 0 (wIxV 0 (wC (.int 0))) (wBin opIx (wVar 0) (wC (.int 0)))) (wC (.int 0))))
  (wRet (wMove 2))))) wNext)
  (wSeq (wSet 3 (wC (.int 0)))
  (wSeq (wFor (wRng1 (wBin opAdd (wC (.int 1)) (wBin opMulI (wC (.int 8)) (wCallD opInt (aVal (wBin opGt (wVar 1) (wBin opPow (wC (.int 10)) (wC (.int 6)))) aNil))))) (tgName 4) b__law_take_0)
  (wRet (wBin opMod (wBin opDiv (wVar 3) (wC (.int 64))) (wVar 1))))))
theorem take_loop{a:Addr}{c:Int}{m x2:L}{post:Fl→Ev→Prop}:∀(items:List D)(sd dr:Int)(j:Nat)(x4:L),j+items.length≤100→0≤sd→sd<2147483647→0≤dr→dr<2^(40*j) →
  (∀sd' dr' x',0≤sd'→sd' < 2147483647→0≤dr'→post .nx [.own a [.int c,.int sd',.bl false],m,x2,.d (.int dr'),x']) →
  wForL (tgName 4) b__law_take_0 items [.own a [.int c,.int sd,.bl false],m,x2,.d (.int dr),x4] post
 |[],sd,dr,j,x4,_,h0,h1,h2,h3,h=>h sd dr x4 h0 h1 h2
 | y::items,sd,dr,j,x4,hl,h0,h1,h2,h3,h=>by
  unfold wForL b__law_take_0
  walk_at "w"
  obtain⟨r0,r1⟩:=fmod_rng (sd*39373+17) (m:=2147483647) (by decide)
  generalize (sd*39373+17).fmod 2147483647=s' at r0 r1 ⊢
  obtain⟨q0,q1⟩:=fmod_rng (s'*s') (m:=2147483629) (by decide)
  generalize (s'*s').fmod 2147483629=t' at q0 q1 ⊢
  have hl':j+(items.length+1)≤100:=hl
  have b1:bitsOk sd:=bits_le (n:=40) h0 (by omega) (by decide)
  have b2:bitsOk s':=bits_le (n:=40) r0 (by omega) (by decide)
  have b3:bitsOk dr:=bits_le (n:=40*j) h2 h3 (by omega)
  have b4:bitsOk 39373:=bits_small (by decide)
  have b5:bitsOk 2147483629:=bits_small (by decide)
  refine⟨b1,b4,by decide,b3,b5,b2,b2,by decide,?_⟩
  refine take_loop items s' (dr*2147483629+t') (j+1) _ (by omega) r0 r1 (by omega) ?_ h
  have e:(2:Int)^(40*(j+1))=2^(40*j)*1099511627776:=by
   rw[Nat.mul_succ,Int.pow_add];rfl
  omega
theorem sat__law_take:∀ls post,ls.length=2→fs__law_take ls post→m__law_take (ls++List.replicate 3 .un) (okEnd ls post):=by
 rintro ls post - ⟨a,xs,m,rfl,⟨c,sd,t,rfl,h0,h1⟩,hm,hM,h⟩
 unfold m__law_take
 have hm0:m≠0:=by omega
 have hmz:=small9000 (by omega) hM
 cases t with
 | true =>
  walk_at "w"
  obtain⟨r0,r1⟩:=fmod_rng c hm
  exact⟨hm0,hm0,hmz,_,back_own List.mem_cons_self (back_d back0),h _ _ ⟨_,_,_,rfl,h0,h1⟩ r0 r1⟩
 | false =>
  walk_at "w"
  refine⟨by decide,by decide,by decide,bits_small (by decide),bits_small (by split<;>decide),⟨by split<;>decide,by split<;>decide⟩,?_⟩
  refine take_loop (c:=c) _ sd 0 0 _ (by simp only[rngD,List.length_map,List.length_range];split<;>decide) h0 h1 (by decide) (by decide) fun sd' dr' x' g0 g1 g2=>?_
  walk_at "w"
  obtain⟨r0,r1⟩:=fmod_rng (dr'.fdiv 64) hm
  exact⟨by decide,by decide,hm0,_,back_own List.mem_cons_self (back_d back0),h _ _ ⟨_,_,_,rfl,g0,g1⟩ r0 r1⟩
def fs__law_low:FS:=fun ls post=>∃t b:Int,ls=[.d (.int t),.d (.int b)]∧b≠0∧b.natAbs<2^9000∧post (.d (frD (Rat.divInt t b))) ls
def b__law_low_0:W Fl:=(wPar 2 3 (wBin opMod (wVar 3) (wVar 2)) (wVar 2))
def m__law_low:W Fl:=(wSeq (wSet 2 (wFrz (wCallD opAbs (aVal (wVar 0) aNil))))
  (wSeq (wSet 3 (wFrz (wCallD opAbs (aVal (wVar 1) aNil))))
  (wSeq (wWhile (wTest (wBin opNe (wVar 2) (wC (.int 0)))) b__law_low_0)
  (wSeq (wIf (wTest (wBin opLt (wVar 1) (wC (.int 0)))) (wSet 3 (wBin opSub (wC (.int 0)) (wVar 3))) wNext)
  (wRet (wTup (aVal (wBin opDiv (wVar 0) (wVar 3)) (aVal (wBin opDiv (wVar 1) (wVar 3)) aNil))))))))
theorem sat__law_low:∀ls post,ls.length=2→fs__law_low ls post→m__law_low (ls++List.replicate 2 .un) (okEnd ls post):=by
 rintro ls post - ⟨t,b,rfl,hb,hz,h⟩
 unfold m__law_low
 walk_at "w"
 have h1:=share_ne (t:=t) hb
 have h2:=Nat.lt_of_le_of_lt (share_le (t:=t) hb) hz
 have fin:∀{g:Int}{ρ:Ev},g=shareOf t b→g≠0∧g.natAbs<2^9000∧g≠0∧g.natAbs<2^9000∧2≤sizeLine∧okEnd [.d (.int t),.d (.int b)] post (.rt (.d (.tup [.int (t.fdiv g),.int (b.fdiv g)]))) ρ:=fun {g ρ} e=>by
  have e1:g≠0:=by rw[e];exact h1
  have e2:g.natAbs<2^9000:=by rw[e];exact h2
  refine⟨e1,e2,e1,e2,by decide,_,back_d (back_d back0),?_⟩
  rw[low_pair hb e]
  exact h
 refine⟨fun n ρ=>∃x y:Int,ρ=[.d (.int t),.d (.int b),.d (.int x),.d (.int y)]∧0≤x∧0≤y∧Int.gcd x y=Int.gcd t b∧n=x.natAbs,⟨_,_,_,rfl,by split<;>omega,by split<;>omega,?_,rfl⟩,?_⟩
 ·
  have e1:(if t<0 then -t else t)=(t.natAbs:Int):=by split<;>omega
  have e2:(if b<0 then -b else b)=(b.natAbs:Int):=by split<;>omega
  rw[e1,e2]
  simp[Int.gcd]
 ·
  rintro n ρ ⟨x,y,rfl,x0,y0,hg,rfl⟩
  unfold b__law_low_0
  walk_at "w"
  split
  ·
   rename_i hx
   have hx:x≠0:=by simpa using hx
   refine⟨hx,_,natAbs_fmod_lt y hx,_,_,rfl,(fmod_rng y (by omega)).1,x0,?_,rfl⟩
   rw[Int.gcd_comm,gcd_fmod,Int.gcd_comm]
   exact hg
  ·
   rename_i hx
   have hx:x=0:=by simpa using hx
   subst hx
   have hy:y=(Int.gcd t b:Int):=by rw[← hg,Int.gcd_zero_left];omega
   split
   ·
    rename_i hlt
    exact fin (by simp[shareOf,hlt,hy])
   ·
    rename_i hlt
    exact fin (by simp[shareOf,hlt,hy])
def fs__law_amount:FS:=fun ls post=>∃(a:Addr)(xs:List D)(least kind:Int),ls=[.own a xs,.d (.int least),.d (.int kind)]∧StOk xs∧0≤least∧least≤1∧0≤kind∧kind<5 ∧
 ∀(q:Rat)(ys:List D),StOk ys→0≤q→(least=1→0<q)→RB 60 q→post (.d (frD q)) [.own a ys,.d (.int least),.d (.int kind)]
def c__law_amount_1:W Fl:=(wRet (wCall fs__law_low (aVal (wVar 4) (aVal (wVar 3) aNil))))
def c__law_amount_0:W Fl:=(wSeq (wSet 4 (wFrz (wBin opAdd (wVar 1) (wCallB fs__law_take 0 0 (aVar 0 (aVal (wBin opIx (wLst (aVal (wC (.int 3)) (aVal (wC (.int 10)) (aVal (wC (.int 10)) (aVal (wC (.int 40)) (aVal (wBin opPow (wC (.int 10)) (wC (.int 12))) aNil)))))) (wVar 2)) aNil))))))
  c__law_amount_1)
def m__law_amount:W Fl:=(wSeq (wSet 3 (wFrz (wBin opAdd (wC (.int 1)) (wCallB fs__law_take 0 0 (aVar 0 (aVal (wBin opIx (wLst (aVal (wC (.int 1)) (aVal (wC (.int 1)) (aVal (wC (.int 4)) (aVal (wC (.int 12)) (aVal (wC (.int 12)) aNil)))))) (wVar 2)) aNil))))))
  c__law_amount_0)
theorem amount_ok{t b:Int}(h0:0≤t)(h1:t<2^59)(h2:0<b)(h3:b<2^59):0≤Rat.divInt t b∧(0<t→0<Rat.divInt t b)∧RB 60 (Rat.divInt t b):=by
 have e:=Rat.divInt_nonneg (a:=t) (b:=b) h0 (by omega)
 refine⟨e,fun ht=>?_,RB.of_divInt (by omega) ?_ ?_⟩
 ·
  refine Rat.lt_of_le_of_ne e fun z=>?_
  have:Rat.divInt 0 1=Rat.divInt t b:=by rw[← z];rfl
  rw[Rat.divInt_eq_divInt_iff (by decide) (by omega)]at this
  omega
 ·
  have:(2:Int)^59=((2^59:Nat):Int):=by decide
  have:(2:Nat)^59<2^60:=by decide
  omega
 ·
  have:(2:Int)^59=((2^59:Nat):Int):=by decide
  have:(2:Nat)^59<2^60:=by decide
  omega
theorem amt_1{k:Int}(h0:0≤k)(h1:k<5):∃m:Int,atI [D.int 1,.int 1,.int 4,.int 12,.int 12] k=some (.int m)∧1≤m∧m≤12:=by
 obtain rfl|rfl|rfl|rfl|rfl:k=0∨k=1∨k=2∨k=3∨k=4:=by omega
 all_goals exact⟨_,rfl,by decide,by decide⟩
theorem amt_2{k:Int}(h0:0≤k)(h1:k<5):∃m:Int,atI [D.int 3,.int 10,.int 10,.int 40,.int (10^12)] k=some (.int m)∧1≤m∧m≤10^12:=by
 obtain rfl|rfl|rfl|rfl|rfl:k=0∨k=1∨k=2∨k=3∨k=4:=by omega
 all_goals exact⟨_,rfl,by decide,by decide⟩
theorem sat__law_amount:∀ls post,ls.length=3→fs__law_amount ls post→m__law_amount (ls++List.replicate 2 .un) (okEnd ls post):=by
 rintro ls post - ⟨a,xs,least,kind,rfl,hx,l0,l1,k0,k1,h⟩
 obtain⟨m1,e1,m10,m11⟩:=amt_1 k0 k1
 obtain⟨m2,e2,m20,m21⟩:=amt_2 k0 k1
 unfold m__law_amount
 walk_at "w"
 refine⟨by decide,fun _=>⟨_,e1,a,xs,m1,rfl,hx,by omega,by omega,fun r ys hy r0 r1=>⟨ys,rfl,?_⟩⟩⟩
 unfold c__law_amount_0
 walk_at "w"
 refine⟨by decide,by decide,by decide,by decide,fun _=>⟨_,e2,a,ys,m2,rfl,hy,by omega,by omega,fun s zs hz s0 s1=>⟨zs,rfl,?_⟩⟩⟩
 unfold c__law_amount_1
 walk_at "w"
 obtain⟨a1,a2,a3⟩:=amount_ok (t:=least+s) (b:=1+r) (by omega) (by omega) (by omega) (by omega)
 exact⟨_,_,rfl,by omega,small9000 (by omega) (by omega),_,back_own (by simp) (back_d (back_d back0)),h _ zs hz a1 (fun e=>a2 (by omega)) a3⟩
def fs__law_place:FS:=fun ls post=>∃(a:Addr)(xs:List D)(S:List (List Rat×Option (Nat×Nat))),ls=[.own a xs,.d (.lst (S.map itD))]∧StOk xs∧1≤S.length∧S.length≤6∧(∀x∈S,RmOk x.1) ∧
 ∀(i j:Nat)(y:List Rat×Option (Nat×Nat))(ys:List D),StOk ys→S[i]?=some y→j<y.1.length→(j≠0∨i=0)→post (.d (.tup [.int (i:Int),.int (j:Int)])) [.own a ys,.d (.lst (S.map itD))]
def c__law_place_1:W Fl:=(wRet (wTup (aVal (wVar 2) (aVal (wFrz (wBin opAdd (wC (.int 1)) (wCallB fs__law_take 0 0 (aVar 0 (aVal (wBin opSub (wCallD opLen (aVal (wBin opIx (wBin opIx (wVar 1) (wVar 2)) (wC (.int 0))) aNil)) (wC (.int 1))) aNil))))) aNil))))
def c__law_place_0:W Fl:=(wSeq (wIf (wTest (wBin opEq (wVar 2) (wC (.int 0)))) (wRet (wTup (aVal (wC (.int 0)) (aVal (wFrz (wCallB fs__law_take 0 0 (aVar 0 (aVal (wFrz (wCallD opLen (aVal (wBin opIx (wBin opIx (wVar 1) (wC (.int 0))) (wC (.int 0))) aNil))) aNil)))) aNil)))) wNext)
  c__law_place_1)
def m__law_place:W Fl:=(wSeq (wSet 2 (wFrz (wCallB fs__law_take 0 0 (aVar 0 (aVal (wFrz (wCallD opLen (aVal (wVar 1) aNil))) aNil)))))
  c__law_place_0)
theorem sat__law_place:∀ls post,ls.length=2→fs__law_place ls post→m__law_place (ls++List.replicate 1 .un) (okEnd ls post):=by
 rintro ls post - ⟨a,xs,S,rfl,hx,l1,l2,hr,h⟩
 have at_:∀i:Nat,i<S.length→∃y,S[i]?=some y∧atI (S.map itD) (i:Int)=some (itD y)∧RmOk y.1:=fun i hi=>by
  have e:S[i]?=some S[i]:=List.getElem?_eq_getElem hi
  exact⟨S[i],e,atI_nat (by rw[List.getElem?_map,e];rfl),hr _ (List.getElem_mem hi)⟩
 unfold m__law_place
 walk_at "w"
 refine⟨a,xs,S.length,rfl,hx,by omega,by omega,fun r ys hy r0 r1=>⟨ys,rfl,?_⟩⟩
 unfold c__law_place_0
 walk_at "w"
 by_cases c:r=0
 ·
  rw[if_pos c]
  obtain⟨y,e1,e2,e3⟩:=at_ 0 (by omega)
  refine⟨_,e2,?_⟩
  unfold itD
  walk_at "w"
  have hl:=e3.hi
  have hl2:=e3.lo
  refine⟨a,ys,y.1.length,rfl,hy,by omega,by omega,fun s zs hz s0 s1=>⟨zs,rfl,?_⟩⟩
  walk_at "w"
  have:=h 0 s.toNat y zs hz e1 (by omega) (.inr rfl)
  rw[Int.toNat_of_nonneg s0]at this
  exact⟨by decide,_,back_own (by simp) (back_d back0),this⟩
 ·
  rw[if_neg c]
  unfold c__law_place_1
  obtain⟨y,e1,e2,e3⟩:=at_ r.toNat (by omega)
  rw[Int.toNat_of_nonneg r0]at e2
  walk_at "w"
  refine⟨_,e2,?_⟩
  unfold itD
  walk_at "w"
  have hl:=e3.hi
  have hl2:=e3.lo
  refine⟨a,ys,(y.1.length:Int)-1,rfl,hy,by omega,by omega,fun s zs hz s0 s1=>⟨zs,rfl,?_⟩⟩
  walk_at "w"
  have:=h r.toNat (1+s).toNat y zs hz e1 (by omega) (.inl (by omega))
  rw[Int.toNat_of_nonneg r0,Int.toNat_of_nonneg (by omega)]at this
  exact⟨by decide,_,back_own (by simp) (back_d back0),this⟩
def fs__law_string:FS:=fun ls post=>∃(a:Addr)(xs:List D)(m n:Nat),ls=[.own a xs,.d (.int (m:Int)),.d (.int (n:Int))]∧StOk xs∧1≤m∧m≤6∧2≤n∧n≤12 ∧
 ∀(S:List (List Rat×Option (Nat×Nat)))(c:Addr)(ys:List D),StOk ys→SGood S→1≤S.length→S.length≤m→post (.own c (S.map itD)) [.own a ys,.d (.int (m:Int)),.d (.int (n:Int))]
def c__law_string_b1_4:W Fl:=(wDrop (wApp 3 (wTup (aVal (wVar 7) (aVal (wVar 8) aNil)))))
def c__law_string_b1_3:W Fl:=(wSeq (wIf (wTest (wBin opGt (wVar 5) (wC (.int 0)))) (wSeq (wSet 8 (wFrz (wPeekS 3 0 (wCallB fs__law_place 0 0 (aVar 0 (aVal (wVar 3) aNil))))))
  (wIf (wTest (wBin opEq (wVar 4) (wC (.int 1)))) (wSet 8 (wTup (aVal (wBin opSub (wVar 5) (wC (.int 1))) (aVal (wBin opSub (wCallD opLen (aVal (wBin opIx (wIsOwn 3 (wIxV 3 (wBin opSub (wVar 5) (wC (.int 1)))) (wBin opIx (wVar 3) (wBin opSub (wVar 5) (wC (.int 1))))) (wC (.int 0))) aNil)) (wC (.int 1))) aNil)))) wNext)) wNext)
  c__law_string_b1_4)
def c__law_string_b1_2:W Fl:=(wSeq (wIf (wAnd (wTest (wBin opGt (wVar 5) (wC (.int 0)))) (wTest (wBin opEq (wVar 4) (wC (.int 2))))) (wSet 7 (wFrz (wCallD opList (aVal (wBin opIx (wIsOwn 3 (wIxV 3 (wC (.int 0))) (wBin opIx (wVar 3) (wC (.int 0)))) (wC (.int 0))) aNil)))) wNext)
  c__law_string_b1_3)
def b__law_string_0:W L:=(wCallB fs__law_amount 0 1 (aVar 1 (aVal (wC (.int 1)) (aVal (wVar 2) aNil))))
def c__law_string_b1_1:W Fl:=(wSeq (wSet 8 (wC .non))
  c__law_string_b1_2)
def c__law_string_b1_0:W Fl:=(wSeq (wSet 7 (wComp 1 [0,6] (wRng1 (wBin opAdd (wC (.int 2)) (wCallB fs__law_take 0 0 (aVar 0 (aVal (wBin opSub (wVar 2) (wC (.int 1))) aNil))))) (tgName 0) wTrue b__law_string_0))
  c__law_string_b1_1)
def b__law_string_1:W Fl:=(wSeq (wSet 6 (wFrz (wCallB fs__law_take 0 0 (aVar 0 (aVal (wC (.int 4)) aNil)))))
  c__law_string_b1_0)
def m__law_string:W Fl:=(wSeq (wSet 3 (wLst aNil))
  (wSeq (wSet 4 (wFrz (wCallB fs__law_take 0 0 (aVar 0 (aVal (wC (.int 3)) aNil)))))
  (wSeq (wFor (wRng1 (wBin opAdd (wC (.int 1)) (wCallB fs__law_take 0 0 (aVar 0 (aVal (wVar 1) aNil))))) (tgName 5) b__law_string_1)
  (wRet (wMove 3)))))
theorem ls_comp{k:W Fl}{a c:Addr}{ys L5:List D}{x1 sh kk x7 x8:L}{n:Nat}{kind:Int}{post:Fl→Ev→Prop}(hy:StOk ys)(n1:2≤n)(n2:n≤12)(k0:0≤kind)(k1:kind<5)
  (h:∀(qs:List Rat)(zs:List D)(d:Addr),StOk zs→RmOk qs→k [.own a zs,x1,.d (.int (n:Int)),.own c L5,sh,kk,.d (.int kind),.own d (qs.map frD),x8] post) :
  wSeq (wSet 7 (wComp 1 [0,6] (wRng1 (wBin opAdd (wC (.int 2)) (wCallB fs__law_take 0 0 (aVar 0 (aVal (wBin opSub (wVar 2) (wC (.int 1))) aNil))))) (tgName 0) wTrue b__law_string_0)) k [.own a ys,x1,.d (.int (n:Int)),.own c L5,sh,kk,.d (.int kind),x7,x8] post:=by
 walk_at "w"
 refine⟨a,ys,(n:Int)-1,rfl,hy,by omega,by omega,fun r zs hz r0 r1=>⟨zs,rfl,?_⟩⟩
 walk_at "w"
 have rl:(rngD 0 (2+r).toNat).length=(2+r).toNat:=by simp[rngD]
 refine⟨⟨by omega,by omega⟩,?_,?_⟩
 ·
  rw[rl]
  exact Nat.le_trans (show(2+r).toNat≤20 by omega) (by decide)
 refine comp_inv _ (fun j ρ acc=>∃(qs:List Rat)(ws:List D)(l:L),ρ=[l,.own a ws,.d (.int kind)]∧acc=qs.map frD∧qs.length=j∧StOk ws∧∀q∈qs,0<q∧RB 60 q) _ _ ⟨[],zs,_,rfl,rfl,rfl,hz,by simp⟩ ?_ ?_
 ·
  rintro j x ρ acc hj ⟨qs,ws,l,rfl,rfl,hl,hw,hq⟩ Q g
  unfold b__law_string_0
  walk_at "w"
  refine⟨a,ws,1,kind,rfl,hw,by decide,by decide,k0,k1,fun q vs hv q0 q1 qb=>⟨vs,rfl,?_⟩⟩
  walk_at "w"
  refine g _ _ ⟨qs++[q],vs,_,rfl,by rw[List.map_append];rfl,by rw[List.length_append,List.length_singleton,hl],hv,fun z hz=>?_⟩
  rcases List.mem_append.mp hz with hz|hz
  ·
   exact hq z hz
  ·
   rw[List.mem_singleton.mp hz]
   exact⟨q1 rfl,qb⟩
 ·
  rintro ρ acc ⟨qs,ws,l,rfl,rfl,hl,hw,hq⟩ d
  rw[rl]at hl
  exact h qs ws d hw ⟨by omega,by omega,hq⟩
theorem ls_copy{k:W Fl}{a c:Addr}{ys:List D}{S:List (List Rat×Option (Nat×Nat))}{x1 x2 kind x8:L}{sh:Int}{qs:List Rat}{d:Addr}{j:Nat}{post:Fl→Ev→Prop}(hj:j=S.length)(hS:SGood S)(hq:RmOk qs)
  (h:∀(qs:List Rat)(x:L),x=.d (.lst (qs.map frD))∨(∃d,x=.own d (qs.map frD))→RmOk qs→k [.own a ys,x1,x2,.own c (S.map itD),.d (.int sh),.d (.int (j:Int)),kind,x,x8] post) :
  wSeq (wIf (wAnd (wTest (wBin opGt (wVar 5) (wC (.int 0)))) (wTest (wBin opEq (wVar 4) (wC (.int 2))))) (wSet 7 (wFrz (wCallD opList (aVal (wBin opIx (wIsOwn 3 (wIxV 3 (wC (.int 0))) (wBin opIx (wVar 3) (wC (.int 0)))) (wC (.int 0))) aNil)))) wNext) k [.own a ys,x1,x2,.own c (S.map itD),.d (.int sh),.d (.int (j:Int)),kind,.own d (qs.map frD),x8] post:=by
 walk_at "w"
 have no:=h qs (.own d (qs.map frD)) (.inr ⟨d,rfl⟩) hq
 by_cases c1:0<(j:Int)
 ·
  rw[if_pos c1]
  by_cases c2:sh=2
  ·
   rw[if_pos c2]
   have h0:0<S.length:=by omega
   have e0:S[0]?=some S[0]:=List.getElem?_eq_getElem h0
   refine⟨itD S[0],atI_nat (j:=0) (by rw[List.getElem?_map,e0];rfl),?_⟩
   unfold itD
   walk_at "w"
   exact fun _=>h _ _ (.inl rfl) (hS.rm _ (List.getElem_mem h0))
  ·
   rw[if_neg c2]
   exact no
 ·
  rw[if_neg c1]
  exact no
theorem noLs_St{ys:List D}(h:StOk ys):noLs ys=true:=by
 obtain⟨_,_,_,rfl,_⟩:=h
 rfl
theorem ls_at{k:W Fl}{a c:Addr}{ys:List D}{S:List (List Rat×Option (Nat×Nat))}{x1 x2 kind x7:L}{sh:Int}{j:Nat}{post:Fl→Ev→Prop}(hj:j=S.length)(h6:S.length≤6)(hy:StOk ys)(hS:SGood S)(h7:flatL x7=true)(hk:flatL kind=true)(hx1:flatL x1=true)(hx2:flatL x2=true)
  (h:∀(p:Option (Nat×Nat))(zs:List D),StOk zs→(S.length=0→p=none)→(0<S.length→∃i j y,p=some (i,j)∧S[i]?=some y∧j<y.1.length∧(j≠0∨i=0))→k [.own a zs,x1,x2,.own c (S.map itD),.d (.int sh),.d (.int (j:Int)),kind,x7,.d (plD p)] post) :
  wSeq (wIf (wTest (wBin opGt (wVar 5) (wC (.int 0)))) (wSeq (wSet 8 (wFrz (wPeekS 3 0 (wCallB fs__law_place 0 0 (aVar 0 (aVal (wVar 3) aNil))))))
  (wIf (wTest (wBin opEq (wVar 4) (wC (.int 1)))) (wSet 8 (wTup (aVal (wBin opSub (wVar 5) (wC (.int 1))) (aVal (wBin opSub (wCallD opLen (aVal (wBin opIx (wIsOwn 3 (wIxV 3 (wBin opSub (wVar 5) (wC (.int 1)))) (wBin opIx (wVar 3) (wBin opSub (wVar 5) (wC (.int 1))))) (wC (.int 0))) aNil)) (wC (.int 1))) aNil)))) wNext)) wNext) k [.own a ys,x1,x2,.own c (S.map itD),.d (.int sh),.d (.int (j:Int)),kind,x7,.d .non] post:=by
 walk_at "w"
 by_cases c1:0<(j:Int)
 ·
  rw[if_pos c1]
  have h0:1≤S.length:=by omega
  refine⟨by decide,by rw[noLs_St hy,hx1,hx2,hk,h7];rfl,a,ys,S,rfl,hy,h0,h6,hS.rm,fun i j' y zs hz e1 e2 e3=>⟨zs,rfl,rfl,zs,noLs_St hz,rfl,?_⟩⟩
  walk_at "w"
  by_cases c2:sh=1
  ·
   rw[if_pos c2]
   have hj1:j-1<S.length:=by omega
   have e0:S[j-1]?=some S[j-1]:=List.getElem?_eq_getElem hj1
   have hr:=hS.rm _ (List.getElem_mem hj1)
   refine⟨itD S[j-1],?_,?_⟩
   ·
    rw[show(j:Int)-1=((j-1:Nat):Int) by omega]
    exact atI_nat (by rw[List.getElem?_map,e0];rfl)
   unfold itD
   walk_at "w"
   have:=h (some (j-1,S[j-1].1.length-1)) zs hz (fun z=>by omega) fun _=>⟨_,_,_,rfl,e0,by have:=hr.lo;omega,.inl (by have:=hr.lo;omega)⟩
   have e5:plD (some (j-1,S[j-1].1.length-1))=.tup [.int ((j:Int)-1),.int ((S[j-1].1.length:Int)-1)]:=by
    have:=hr.lo
    show D.tup [.int ((j-1:Nat):Int),.int ((S[j-1].1.length-1:Nat):Int)]=_
    rw[show((j-1:Nat):Int)=(j:Int)-1 by omega,show((S[j-1].1.length-1:Nat):Int)=(S[j-1].1.length:Int)-1 by omega]
   rw[e5]at this
   exact⟨by decide,this⟩
  ·
   rw[if_neg c2]
   exact h (some (i,j')) zs hz (fun z=>by omega) fun _=>⟨i,j',y,rfl,e1,e2,e3⟩
 ·
  rw[if_neg c1]
  exact h none ys hy (fun _=>rfl) fun z=>by omega
theorem sat__law_string:∀ls post,ls.length=3→fs__law_string ls post→m__law_string (ls++List.replicate 6 .un) (okEnd ls post):=by
 rintro ls post - ⟨a,xs,m,n,rfl,hx,m1,m2,n1,n2,h⟩
 unfold m__law_string
 walk_at "w"
 refine⟨by decide,fun c=>?_⟩
 refine⟨a,xs,3,rfl,hx,by decide,by decide,fun sh ys hy s0 s1=>⟨ys,rfl,?_⟩⟩
 walk_at "w"
 refine⟨a,ys,m,rfl,hy,by omega,by omega,fun r zs hz r0 r1=>⟨zs,rfl,?_⟩⟩
 walk_at "w"
 refine⟨⟨by omega,by omega⟩,?_⟩
 refine forR0_inv (1+r).toNat (fun k ρ=>∃(S:List (List Rat×Option (Nat×Nat)))(ws:List D)(x5 x6 x7 x8:L),ρ=[.own a ws,.d (.int (m:Int)),.d (.int (n:Int)),.own c (S.map itD),.d (.int sh),x5,x6,x7,x8]∧StOk ws∧SGood S∧S.length=k) _ ⟨[],_,_,_,_,_,rfl,hz,SGood.nil,rfl⟩ ?_ ?_
 ·
  rintro k ρ hk ⟨S,ws,x5,x6,x7,x8,rfl,hw,hS,hl⟩ Q g1 g2 g3 g4
  unfold b__law_string_1
  walk_at "w"
  refine⟨a,ws,4,rfl,hw,by decide,by decide,fun kind us hu k0 k1=>⟨us,rfl,?_⟩⟩
  walk_at "w"
  unfold c__law_string_b1_0
  refine ls_comp hu n1 n2 k0 (by omega) fun qs vs d hv hq=>?_
  unfold c__law_string_b1_1
  walk_at "w"
  unfold c__law_string_b1_2
  refine ls_copy hl.symm hS hq fun qs' x hx' hq'=>?_
  unfold c__law_string_b1_3
  have fx:flatL x=true:=by
   rcases hx' with rfl|⟨d',rfl⟩
   ·
    rfl
   ·
    rw[flatL_own]
    exact noLs_frs _
  refine ls_at hl.symm (by omega) hv hS fx rfl rfl rfl fun p ts ht p0 p1=>?_
  unfold c__law_string_b1_4
  have go:Q .nx [.own a ts,.d (.int (m:Int)),.d (.int (n:Int)),.own c ((S++[(qs',p)]).map itD),.d (.int sh),.d (.int (k:Int)),.d (.int kind),.d (.lst (qs'.map frD)),.d (plD p)]:=g1 _ ⟨S++[(qs',p)],ts,_,_,_,_,rfl,ht,hS.snoc hq' p0 p1,by rw[List.length_append,List.length_singleton,hl]⟩
  rw[List.map_append]at go
  rcases hx' with rfl|⟨d',rfl⟩
  ·
   walk_at "w"
   exact⟨by decide,Nat.lt_of_lt_of_le (show S.length<10 by omega) (by decide),go⟩
  ·
   walk_at "w"
   exact⟨by decide,Nat.lt_of_lt_of_le (show S.length<10 by omega) (by decide),go⟩
 ·
  rintro ρ ⟨S,ws,x5,x6,x7,x8,rfl,hw,hS,hl⟩
  walk_at "w"
  exact⟨_,back_own (by simp) (back_d (back_d back0)),h S c ws hw hS (by omega) (by omega)⟩
def fs__law_begun:FS:=fun ls post=>∃(ns:List Int)(k:Int),ls=[.d (.lst (ns.map .int)),.d (.int k)]∧0≤k∧k≤100∧∀a xs,StOk xs→post (.own a xs) ls
def m__law_begun:W Fl:=(wSeq (wSet 2 (wC (.int 0)))
  (wSeq (wIf (wTest (wBin opLt (wVar 1) (wCallD opLen (aVal (wVar 0) aNil)))) (wSet 2 (wBin opIx (wVar 0) (wVar 1))) wNext)
  (wRet (wLst (aVal (wVar 2) (aVal (wBin opMod (wBin opAdd (wBin opAdd (wBin opMod (wVar 2) (wC (.int 2147483587))) (wBin opMulI (wBin opMulI (wC (.int 48271)) (wVar 1)) (wVar 1))) (wC (.int 13))) (wC (.int 2147483587))) (aVal (wBin opGe (wVar 2) (wBin opPow (wC (.int 10)) (wC (.int 18)))) aNil)))))))
theorem sat__law_begun:∀ls post,ls.length=2→fs__law_begun ls post→m__law_begun (ls++List.replicate 1 .un) (okEnd ls post):=by
 rintro ls post - ⟨ns,k,rfl,h0,h1,h⟩
 unfold m__law_begun
 have fin:∀(c:Int)(ρ:Ev)(e:ρ=[.d (.lst (ns.map .int)),.d (.int k),.d (.int c)]),∀a:Addr,okEnd [.d (.lst (ns.map .int)),.d (.int k)] post (.rt (.own a [.int c,.int ((c.fmod 2147483587+48271*k*k+13).fmod 2147483587),.bl (decide ((10:Int)^18≤c))])) ρ:=fun c ρ e a=>by
  refine⟨_,back_d (back_d back0),h a _ ⟨_,_,_,rfl,?_,?_⟩⟩
  ·
   rw[Int.fmod_eq_emod_of_nonneg _ (by decide)];exact Int.emod_nonneg _ (by decide)
  ·
   rw[Int.fmod_eq_emod_of_nonneg _ (by decide)]
   have:=Int.emod_lt_of_pos (c.fmod 2147483587+48271*k*k+13) (b:=2147483587) (by decide)
   omega
 have hb1:bitsOk 48271:=bits_small (by decide)
 have hb2:bitsOk k:=bits_small (Nat.lt_of_le_of_lt (show k.natAbs≤100 by omega) (by decide))
 have hb3:bitsOk (48271*k):=bits_small (Nat.lt_of_le_of_lt (show(48271*k).natAbs≤4827100 by omega) (by decide))
 walk_at "w"
 try rw[List.length_map]
 split
 ·
  rename_i hk
  have hk:k<(ns.length:Int):=by simpa using hk
  have hi:k.toNat<ns.length:=by omega
  refine⟨.int ns[k.toNat],atI_of h0 (by rw[List.getElem?_map,List.getElem?_eq_getElem hi];rfl),?_⟩
  exact⟨by decide,hb1,hb2,hb3,hb2,by decide,by decide,by decide,by decide,by decide,fin _ _ rfl⟩
 ·
  exact⟨by decide,hb1,hb2,hb3,hb2,by decide,by decide,by decide,by decide,by decide,fin _ _ rfl⟩
def fs__law_real:FS:=fun ls post=>∃(S:Str2)(r p:Nat),ls=[.d (.lst (S.map itD)),.d (.int (r:Int)),.d (.int (p:Int))]∧SGood S∧r<S.length∧post (.d (pcD (realP S r p))) ls
def m__law_real:W Fl:=(wSeq (wIf (wAnd (wTest (wBin opGt (wVar 1) (wC (.int 0)))) (wTest (wBin opEq (wVar 2) (wC (.int 0))))) (wRet (wBin opIx (wBin opIx (wVar 0) (wVar 1)) (wC (.int 1)))) wNext)
  (wRet (wTup (aVal (wVar 1) (aVal (wVar 2) aNil)))))
theorem sat__law_real:∀ls post,ls.length=3→fs__law_real ls post→m__law_real (ls++List.replicate 0 .un) (okEnd ls post):=by
 rintro ls post - ⟨S,r,p,rfl,hS,hr,h⟩
 unfold realP at h
 unfold m__law_real
 walk_at "w"
 by_cases r0:0<(r:Int)
 ·
  rw[if_pos r0]
  by_cases p0:p=0
  ·
   rw[if_pos (by omega)]at h
   rw[if_pos (by omega)]
   obtain⟨qs,e1,e2⟩:=hS.hang (by omega) hr
   have ev:atI (S.map itD) (r:Int)=some (itD (qs,some (hangAt S r))):=atI_nat (by rw[List.getElem?_map,e1];rfl)
   exact⟨_,ev,_,atI_1,_,back_d (back_d (back_d back0)),h⟩
  ·
   rw[if_neg (by omega)]at h
   rw[if_neg (by omega)]
   exact⟨by decide,_,back_d (back_d (back_d back0)),h⟩
 ·
  rw[if_neg r0]
  rw[if_neg (by omega)]at h
  exact⟨by decide,_,back_d (back_d (back_d back0)),h⟩
def fs__law_leads:FS:=fun ls post=>∃(S:Str2)(one other:Nat×Nat)(T:List (Nat×Nat×Nat)),ls=[.d (.lst (S.map itD)),.d (pcD one),.d (pcD other),.d (.lst (T.map trI))]∧SGood S∧T.length≤200∧Lead S one [] T other∧post (.d (.bl true)) ls
def c__law_leads_b1_2:W Fl:=(wSet 4 (wFrz (wCall fs__law_real (aVal (wVar 0) (aVal (wVar 6) (aVal (wVar 8) aNil))))))
def c__law_leads_b1_1:W Fl:=(wSeq (wDrop (wApp 5 (wVar 6)))
  c__law_leads_b1_2)
def c__law_leads_b1_0:W Fl:=(wSeq (wIf (wOr (wNot (wTest (wChain opLe opLt (wC (.int 0)) (wVar 7) (wCallD opLen (aVal (wBin opIx (wBin opIx (wVar 0) (wVar 6)) (wC (.int 0))) aNil))))) (wNot (wTest (wChain opLe opLt (wC (.int 0)) (wVar 8) (wCallD opLen (aVal (wBin opIx (wBin opIx (wVar 0) (wVar 6)) (wC (.int 0))) aNil)))))) (wRet (wC (.bl false))) wNext)
  c__law_leads_b1_1)
def b__law_leads_0:W Fl:=(wSeq (wIf (wOr (wPeekB 5 (wTest (wBin (opInF false) (wVar 6) (wVar 5)))) (wOr (wTest (wBin opEq (wVar 7) (wVar 8))) (wTest (wBin opNe (wCall fs__law_real (aVal (wVar 0) (aVal (wVar 6) (aVal (wVar 7) aNil)))) (wVar 4))))) (wRet (wC (.bl false))) wNext)
  c__law_leads_b1_0)
def m__law_leads:W Fl:=(wSeq (wSet 4 (wVar 1))
  (wSeq (wSet 5 (wLst aNil))
  (wSeq (wFor (wSrc (wVar 3)) (tgTup [6,7,8]) b__law_leads_0)
  (wRet (wBin opEq (wVar 4) (wVar 2))))))
theorem sat__law_leads:∀ls post,ls.length=4→fs__law_leads ls post→m__law_leads (ls++List.replicate 5 .un) (okEnd ls post):=by
 rintro ls post - ⟨S,one,other,T,rfl,hS,hl,hL,h⟩
 unfold m__law_leads
 walk_at "w"
 refine⟨by decide,fun a=>?_⟩
 refine forT_inv (enc:=trI) T (fun pre ρ=>∃(here:Nat×Nat)(rs:List Nat)(suf:List (Nat×Nat×Nat))(x6 x7 x8:L),(flatL x6=true∧flatL x7=true∧flatL x8=true)∧ρ=[.d (.lst (S.map itD)),.d (pcD one),.d (pcD other),.d (.lst (T.map trI)),.d (pcD here),.own a (rs.map fun (s:Nat)=>D.int (s:Int)),x6,x7,x8]∧T=pre++suf∧rs.length≤pre.length∧Lead S here rs suf other) _ ⟨one,[],T,_,_,_,⟨flatL_un,flatL_un,flatL_un⟩,rfl,rfl,Nat.le_refl _,hL⟩ ?_ ?_
 ·
  rintro pre x suf0 ρ eT ⟨here,rs,suf,x6,x7,x8,⟨f6,f7,f8⟩,rfl,eS,hr,hD⟩ Q g1 g2 g3 g4
  have es:suf=x::suf0:=List.append_cancel_left (eS.symm.trans eT)
  subst es
  obtain⟨⟨qs,hh,eq,l1,l2⟩,nr,ne,rl,hD⟩:=hD
  have hx:x.1<S.length:=(List.getElem?_eq_some_iff.mp eq).1
  have lT:pre.length≤200:=by
   have:=congrArg List.length eT
   rw[List.length_append]at this
   omega
  obtain⟨r,en,lv⟩:=x
  dsimp only at eq l1 l2 nr ne rl hD hx
  show tgTup [6,7,8] (D.tup [D.int (r:Int),D.int (en:Int),D.int (lv:Int)]) _ _
  unfold b__law_leads_0
  walk_at "w"
  have okh:okD 1 (pcD here)=true:=rfl
  have fl:(rs.map fun (s:Nat)=>D.int (s:Int)).all flatD=true:=by
   rw[List.all_map,List.all_eq_true]
   exact fun _ _=>rfl
  refine⟨rfl,fl,?_⟩
  rw[inF_ints,if_neg (by rw[decide_eq_false nr];decide),if_neg (by omega)]
  refine⟨S,r,en,rfl,hS,hx,?_⟩
  rw[rl]
  dsimp only
  refine⟨shape_ok okh (by decide),shape_ok okh (by decide),?_⟩
  rw[if_neg (by rw[eqD_refl okh];decide)]
  have ev:atI (S.map itD) (r:Int)=some (itD (qs,hh)):=atI_nat (by rw[List.getElem?_map,eq];rfl)
  unfold c__law_leads_b1_0
  walk_at "w"
  rw[if_pos (by omega)]
  refine⟨_,ev,_,atI_0,?_⟩
  walk_at "w"
  rw[if_neg (fun z=>z (by omega)),if_pos (by omega)]
  refine⟨_,ev,_,atI_0,?_⟩
  walk_at "w"
  rw[if_neg (fun z=>z (by omega))]
  unfold c__law_leads_b1_1
  walk_at "w"
  refine⟨Nat.lt_of_le_of_lt (show rs.length≤200 by omega) (by decide),?_⟩
  unfold c__law_leads_b1_2
  walk_at "w"
  refine⟨S,r,lv,rfl,hS,hx,?_⟩
  dsimp only
  refine g1 _ ⟨realP S r lv,rs++[r],suf0,.d (.int (r:Int)),.d (.int (en:Int)),.d (.int (lv:Int)),⟨rfl,rfl,rfl⟩,?_,by rw[eT];simp,by simp;omega,hD⟩
  rw[List.map_append]
  rfl
 ·
  rintro ρ ⟨here,rs,suf,x6,x7,x8,_,rfl,eS,hr,hD⟩
  have es:suf=[]:=by
   have:=congrArg List.length eS
   rw[List.length_append]at this
   exact List.length_eq_zero_iff.mp (by omega)
  subst es
  have hD:here=other:=hD
  subst hD
  walk_at "w"
  have ok:okD 1 (pcD here)=true:=rfl
  refine⟨shape_ok ok (by decide),shape_ok ok (by decide),_,back_d (back_d (back_d (back_d back0))),?_⟩
  rw[eqD_refl ok]
  exact h
def fs__law_right:FS:=fun ls post=>∃(S:Str2)(one other:Nat×Nat),ls=[.d (.lst (S.map itD)),.d (pcD one),.d (pcD other)]∧SGood S∧S.length≤60∧PlOk S one∧PlOk S other∧post (.d (.bl true)) ls
def c__law_right_5:W Fl:=(wRet (wAndV (wBin opEq (wCall fs_passages (aVal (wVar 0) (aVal (wVar 2) (aVal (wVar 1) aNil)))) (wVar 4)) (wBin opEq (wCall fs_passages (aVal (wVar 0) (aVal (wVar 1) (aVal (wVar 2) aNil)))) (wVar 5))))
def c__law_right_4:W Fl:=(wSeq (wDrop (wApp 3 (wC .non)))
  c__law_right_5)
def b__law_right_0:W L:=(wTup (aVal (wVar 0) (aVal (wVar 2) (aVal (wVar 1) aNil))))
def c__law_right_3:W Fl:=(wSeq (wSet 5 (wFrz (wPeek 3 (wCallD opList (aVal (wVar 3) aNil)))))
  c__law_right_4)
def c__law_right_2:W Fl:=(wSeq (wSet 4 (wComp 3 [] (wSrc (wPeek 3 (wRev (wVar 3)))) (tgTup [0,1,2]) wTrue b__law_right_0))
  c__law_right_3)
def b__law_right_1:W L:=(wVar 0)
def c__law_right_1:W Fl:=(wSeq (wIf (wOr (wNot (wTest (wPeek 3 (wCall fs__law_leads (aVal (wVar 0) (aVal (wVar 1) (aVal (wVar 2) (aVal (wVar 3) aNil)))))))) (wAnd (wTest (wBin opEq (wVar 1) (wVar 2))) (wPeekB 3 (wTest (wBin opNe (wVar 3) (wLst aNil)))))) (wRet (wC (.bl false))) wNext)
  c__law_right_2)
def c__law_right_0:W Fl:=(wSeq (wIf (wOr (wNot (wTest (wPeek 3 (wUn (opIsT "list") (wVar 3))))) (wTest (wBin opNe (wPeek 3 (wComp 1 [] (wSrc (wVar 3)) (tgName 0) (wOr (wNot (wTest (wUn (opIsT "tuple") (wVar 0)))) (wTest (wBin opNe (wCallD opLen (aVal (wVar 0) aNil)) (wC (.int 3))))) b__law_right_1)) (wLst aNil)))) (wRet (wC (.bl false))) wNext)
  c__law_right_1)
def m__law_right:W Fl:=(wSeq (wSet 3 (wCall fs_passages (aVal (wVar 0) (aVal (wVar 1) (aVal (wVar 2) aNil)))))
  c__law_right_0)
theorem pass_len{S:Str2}(p q:Nat×Nat):(passL S p q).length≤p.1+1+(p.1+1)+(q.1+1):=by
 unfold passL
 have a:=climb_len (S:=S) p.1 p
 have b:=climb_len (S:=S) q.1 q
 have c1:=List.length_filterMap_le (ahF (climb S q.1 q)) (climb S p.1 p)
 have c2:=List.length_filterMap_le (beF (climb S q.1 q)) (climb S p.1 p)
 have c3:=List.length_filterMap_le (bhF (climb S p.1 p)) (climb S q.1 q).reverse
 rw[List.length_reverse]at c3
 rw[List.length_append,List.length_append]
 omega
theorem sat__law_right:∀ls post,ls.length=3→fs__law_right ls post→m__law_right (ls++List.replicate 3 .un) (okEnd ls post):=by
 rintro ls post - ⟨S,one,other,rfl,hS,hl,h1,h2,h⟩
 have l1:=h1.lt
 have l2:=h2.lt
 have hL:=pass_lead hS _ one other [] (Nat.le_refl _) h1 h2 (fun r hr=>by cases hr)
 unfold m__law_right
 walk_at "w"
 refine⟨S,one,other,rfl,hS,hl,l1,l2,fun a1=>?_⟩
 walk_at "w"
 unfold c__law_right_0
 walk_at "w"
 have pl:=pass_len (S:=S) one other
 refine⟨Nat.le_trans (show _≤200 by omega) (by decide),?_⟩
 refine comp_pure (h:=fun _=>none) (passL S one other) [] _ (fun x hx Q q=>?_) fun l'=>?_
 ·
  unfold trI
  walk_at "w"
  rw[if_neg (by decide +kernel)]
  exact q
 rw[show(passL S one other).filterMap (fun _=>(none:Option D))=[]from fm_none fun _ _=>rfl]
 intro a2
 refine⟨rfl,Nat.zero_le _,fun a3=>⟨shape_ok (n:=1) rfl (by decide),shape_ok (n:=1) rfl (by decide),?_⟩⟩
 rw[if_neg (by decide +kernel)]
 unfold c__law_right_1
 walk_at "w"
 have rest:c__law_right_2 [.d (.lst (S.map itD)),.d (pcD one),.d (pcD other),.own a1 ((passL S one other).map trI),.un,.un] (okEnd [.d (.lst (S.map itD)),.d (pcD one),.d (pcD other)] post):=by
  have nl:∀xs:List (Nat×Nat×Nat),noLs (xs.map trI)=true:=fun xs=>by
   induction xs with
   |nil=>rfl
   | cons x xs ih =>
    rw[List.map_cons]
    simp only[noLs,ih,Bool.and_true]
    rfl
  unfold c__law_right_2
  walk_at "w"
  intro a5
  rw[← List.map_reverse]
  refine⟨nl _,by rw[List.length_map,List.length_reverse];exact Nat.le_trans (show _≤200 by omega) (by decide),?_⟩
  refine comp_map3 (e1:=fun x:Nat×Nat×Nat=>D.int (x.1:Int)) (e2:=fun x:Nat×Nat×Nat=>D.int (x.2.1:Int)) (e3:=fun x:Nat×Nat×Nat=>D.int (x.2.2:Int)) (h:=fun x=>trI (sw3 x)) (passL S one other).reverse [] _ _ _ (fun x hx Q q=>?_) fun l' m' n'=>?_
  ·
   unfold b__law_right_0
   walk_at "w"
   exact⟨by decide,q⟩
  intro a6
  have eb:([]:List D)++(passL S one other).reverse.map (fun x=>trI (sw3 x))=(passL S other one).map trI:=by
   rw[pass_sym hS _ one other (Nat.le_refl _) l1 l2,List.map_map]
   rfl
  rw[eb]
  unfold c__law_right_3
  walk_at "w"
  refine⟨nl _,fun a7=>⟨nl _,?_⟩⟩
  unfold c__law_right_4
  walk_at "w"
  refine⟨by exact Nat.lt_of_le_of_lt (show(passL S one other).length≤200 by omega) (by decide),?_⟩
  unfold c__law_right_5
  walk_at "w"
  have ok:∀xs:List (Nat×Nat×Nat),okD 2 (.lst (xs.map trI))=true:=fun xs=>by
   simp only[okD]
   exact okDs_map _ fun _ _=>rfl
  refine⟨S,other,one,rfl,hS,hl,l2,l1,fun a8=>?_⟩
  dsimp only
  refine⟨shape_ok (ok _) (by decide),shape_ok (ok _) (by decide),?_⟩
  rw[if_pos (eqD_refl (ok _))]
  refine⟨S,one,other,rfl,hS,hl,l1,l2,fun a9=>?_⟩
  dsimp only
  refine⟨shape_ok (ok _) (by decide),shape_ok (ok _) (by decide),_,back_d (back_d (back_d back0)),?_⟩
  rw[eqD_refl (ok _)]
  exact h
 have ec:eqD (pcD one) (pcD other)=decide (one=other):=eqD_cut one other
 refine⟨S,one,other,passL S one other,rfl,hS,by omega,hL,?_⟩
 refine⟨rfl,?_⟩
 dsimp only
 rw[if_neg (by decide)]
 refine⟨shape_ok (n:=1) rfl (by decide),shape_ok (n:=1) rfl (by decide),?_⟩
 rw[ec]
 by_cases e:one=other
 ·
  rw[if_pos (decide_eq_true e)]
  have e0:passL S one other=[]:=by
   subst e
   rw[pass_same hS l1 rfl,if_pos rfl]
  refine⟨Nat.zero_le _,fun a4=>?_⟩
  rw[e0]at rest ⊢
  refine⟨shape_ok (n:=1) rfl (by decide),shape_ok (n:=1) rfl (by decide),?_⟩
  rw[if_neg (by decide +kernel)]
  exact rest
 ·
  rw[if_neg (by rw[decide_eq_false e];decide)]
  exact rest
def fs_law:FS:=fun ls post=>∃ns:List Int,ls=[.d (.lst (ns.map .int))]∧ns.length≤63∧post (.d (.bl true)) ls
theorem law_holds{ns:List Int}(hl:ns.length≤63):fs_law [.d (.lst (ns.map .int))] (fun r _=>r=.d (.bl true)):=⟨ns,rfl,hl,rfl⟩
def c_law_b1_2:W Fl:=(wIf (wOr (wNot (wTest (wCall fs__law_right (aVal (wVar 1) (aVal (wVar 5) (aVal (wVar 6) aNil)))))) (wNot (wTest (wCall fs__law_right (aVal (wVar 1) (aVal (wVar 5) (aVal (wVar 5) aNil))))))) (wRet (wC (.bl false))) wNext)
def c_law_b1_1:W Fl:=(wSeq (wSet 6 (wFrz (wCallB fs__law_place 0 4 (aVar 4 (aVal (wVar 1) aNil)))))
  c_law_b1_2)
def c_law_b1_0:W Fl:=(wSeq (wSet 5 (wFrz (wCallB fs__law_place 0 4 (aVar 4 (aVal (wVar 1) aNil)))))
  c_law_b1_1)
def b_law_0:W Fl:=(wSeq (wSet 4 (wCall fs__law_begun (aVal (wVar 0) (aVal (wVar 3) aNil))))
  c_law_b1_0)
def c_law_2:W Fl:=(wRet (wBin opEqS (wCallD opReprW (aVal (wVar 1) aNil)) (wVar 2)))
def c_law_1:W Fl:=(wSeq (wFor (wRng2 (wC (.int 1)) (wCallD opMax (aVal (wC (.int 2)) (aVal (wFrz (wCallD opMin (aVal (wFrz (wCallD opLen (aVal (wVar 0) aNil))) (aVal (wC (.int 31)) aNil)))) aNil)))) (tgName 3) b_law_0)
  c_law_2)
def c_law_0:W Fl:=(wSeq (wSet 2 (wFrz (wCallD opReprW (aVal (wVar 1) aNil))))
  c_law_1)
def m_law:W Fl:=(wSeq (wSet 1 (wFrz (wCall fs__law_string (aVal (wCall fs__law_begun (aVal (wVar 0) (aVal (wC (.int 0)) aNil))) (aVal (wC (.int 6)) (aVal (wC (.int 12)) aNil))))))
  c_law_0)
theorem rep_S{S:Str2}(hS:SGood S)(h6:S.length≤6):RepW (.lst (S.map itD)):=by
 refine((WK.two (n:=3) (s:=100000) (m:=4) (t:=700000) (fun y hy=>?_) (by decide) (by rw[List.length_map];omega)).2).rep (by decide) (by decide)
 obtain⟨x,hx,rfl⟩:=List.mem_map.mp hy
 have hr:=hS.rm x hx
 have h12:=hr.hi
 have hf:WK 2 20000 (.lst (x.1.map frD)):=(WK.two (n:=1) (s:=1300) (fun y hy=>by
  obtain⟨q,hq,rfl⟩:=List.mem_map.mp hy
  exact WK.fr ((hr.q q hq).2.mono (by decide))) (by decide) (by rw[List.length_map];omega)).2
 have hp:WK 2 20000 (plD x.2):=by
  obtain⟨k,hk,e⟩:=List.getElem_of_mem hx
  have e':S[k]?=some x:=by rw[List.getElem?_eq_getElem hk,e]
  by_cases k0:k=0
  ·
   subst k0
   rw[hS.at0 x e']
   exact⟨rfl,rfl,Nat.zero_le _,by decide⟩
  ·
   obtain⟨i,j,y,e1,e2,e3,e4,_⟩:=hS.at1 k x (by omega) e'
   rw[e1]
   have hy:=(hS.rm y (List.mem_of_getElem? e3)).hi
   refine(WK.two (n:=0) (s:=602) (m:=2) (t:=20000) (fun z hz=>?_) (by decide) (by simp)).1
   simp only[List.mem_cons,List.not_mem_nil,or_false]at hz
   rcases hz with rfl|rfl
   ·
    exact WK.int (by rw[Int.natAbs_natCast];exact Nat.lt_of_le_of_lt (show i≤60 by omega) (by decide))
   ·
    exact WK.int (by rw[Int.natAbs_natCast];exact Nat.lt_of_le_of_lt (show j≤60 by omega) (by decide))
 refine(WK.two (n:=2) (s:=20000) (m:=3) (t:=100000) (fun z hz=>?_) (by decide) (by simp)).1
 simp only[List.mem_cons,List.not_mem_nil,or_false]at hz
 rcases hz with rfl|rfl
 ·
  exact hf
 ·
  exact hp
theorem sat_law:∀ls post,ls.length=1→fs_law ls post→m_law (ls++List.replicate 6 .un) (okEnd ls post):=by
 rintro ls post - ⟨ns,rfl,hl,h⟩
 unfold m_law
 walk_at "w"
 refine⟨ns,0,rfl,by decide,by decide,fun a0 xs0 hx0=>?_⟩
 walk_at "w"
 refine⟨a0,xs0,6,12,rfl,hx0,by decide,by decide,by decide,by decide,fun S c ys hy hS s1 s6=>?_⟩
 walk_at "w"
 have rp:=rep_S hS s6
 unfold c_law_0
 walk_at "w"
 refine⟨_,rfl,rp,?_⟩
 walk_at "w"
 unfold c_law_1
 walk_at "w"
 have hm:∃m:Int,(if(if 31<(ns.length:Int)then 31 else(ns.length:Int)) > 2 then if 31<(ns.length:Int)then 31 else(ns.length:Int)else 2)=m∧2≤m∧m≤31:=⟨_,rfl,by split<;>(try split)<;>omega,by split<;>(try split)<;>omega⟩
 obtain⟨m,em,m2,m31⟩:=hm
 rw[em]
 refine⟨⟨by decide,by decide⟩,⟨by omega,by omega⟩,?_⟩
 have pk:∀(i j:Nat)(y:List Rat×Option (Nat×Nat)),S[i]?=some y→j<y.1.length→(j≠0∨i=0)→PlOk S (i,j):=fun i j y e1 e2 e3=>⟨⟨y.1,y.2,e1,e2,by omega⟩,e3⟩
 refine forR_inv 1 _ (fun j ρ=>∃(x3 x4 x5 x6:L),ρ=[.d (.lst (ns.map .int)),.d (.lst (S.map itD)),.d (.str (reprD (.lst (S.map itD)))),x3,x4,x5,x6]) _ ⟨_,_,_,_,rfl⟩ ?_ ?_
 ·
  rintro j ρ hj ⟨x3,x4,x5,x6,rfl⟩ Q g1 g2 g3 g4
  unfold b_law_0
  walk_at "w"
  refine⟨ns,1+(j:Int),rfl,by omega,by omega,fun b xs hx=>?_⟩
  walk_at "w"
  unfold c_law_b1_0
  walk_at "w"
  refine⟨b,xs,S,rfl,hx,s1,s6,hS.rm,fun i j y ys hy e1 e2 e3=>⟨ys,rfl,?_⟩⟩
  walk_at "w"
  unfold c_law_b1_1
  walk_at "w"
  refine⟨b,ys,S,rfl,hy,s1,s6,hS.rm,fun i2 j2 y2 zs hz e4 e5 e6=>⟨zs,rfl,?_⟩⟩
  walk_at "w"
  unfold c_law_b1_2
  walk_at "w"
  refine⟨S,(i,j),(i2,j2),rfl,hS,by omega,pk i j y e1 e2 e3,pk i2 j2 y2 e4 e5 e6,?_⟩
  walk_at "w"
  refine⟨S,(i,j),(i,j),rfl,hS,by omega,pk i j y e1 e2 e3,pk i j y e1 e2 e3,?_⟩
  walk_at "w"
  exact g1 _ ⟨_,_,_,_,rfl⟩
 ·
  rintro ρ ⟨x3,x4,x5,x6,rfl⟩
  unfold c_law_2
  walk_at "w"
  refine⟨_,rfl,rp,?_⟩
  walk_at "w"
  exact⟨_,back_d back0,h⟩
structure Tx (K:PySem.W.Frag) (mg:Str→Option Value) (ad:Nat→Addr) (fd:Nat→FuncData):Prop where
 x_climbed_from:FX K mg "climbed_from" s_climbed_from (ad 0) (fd 0) ["string","place"]
 x_passages:FX K mg "passages" s_passages (ad 1) (fd 1) ["string","one","other"]
 x__law_take:FX K mg "_law_take" s__law_take (ad 2) (fd 2) ["_law_state","_law_many"]
 x__law_low:FX K mg "_law_low" s__law_low (ad 3) (fd 3) ["_law_top","_law_bottom"]
 x__law_amount:FX K mg "_law_amount" s__law_amount (ad 4) (fd 4) ["_law_state","_law_least","_law_kind"]
 x__law_place:FX K mg "_law_place" s__law_place (ad 5) (fd 5) ["_law_state","_law_string_here"]
 x__law_string:FX K mg "_law_string" s__law_string (ad 6) (fd 6) ["_law_state","_law_most","_law_places"]
 x__law_begun:FX K mg "_law_begun" s__law_begun (ad 7) (fd 7) ["_law_script","_law_k"]
 x__law_real:FX K mg "_law_real" s__law_real (ad 8) (fd 8) ["_law_string_here","_law_ring","_law_place_here"]
 x__law_leads:FX K mg "_law_leads" s__law_leads (ad 9) (fd 9) ["_law_string_here","_law_one","_law_other","_law_told"]
 x__law_right:FX K mg "_law_right" s__law_right (ad 10) (fd 10) ["_law_string_here","_law_one","_law_other"]
 x_law:FX K mg "law" s_law (ad 11) (fd 11) ["_law_script"]
 z_abs:mg "abs"=none
 z_dict:mg "dict"=none
 z_int:mg "int"=none
 z_isinstance:mg "isinstance"=none
 z_len:mg "len"=none
 z_list:mg "list"=none
 z_max:mg "max"=none
 z_min:mg "min"=none
 z_range:mg "range"=none
 z_repr:mg "repr"=none
 z_reversed:mg "reversed"=none
 z_tuple:mg "tuple"=none
section
variable{P:Program}{w:World}{K:PySem.W.Frag}{mg:Str→Option Value}{base:Heap}{ad:Nat→Addr}{fd:Nat→FuncData}
theorem sc_climbed_from:FnScope N_climbed_from ["string","place"] (defScope s_climbed_from):=⟨rfl,rfl,rfl,by decide +kernel,rfl,by decide +kernel,by decide +kernel⟩
theorem ok_climbed_from(T:Tx K mg ad fd):FnOk P w K mg base CX0 1 (ad 0) (fd 0) ["string","place"] (spF K 2 fs_climbed_from) :=
 fn_ok (k:=0) T.x_climbed_from.f sc_climbed_from m_climbed_from (fun cdv A outer s H E hr=>(pms_cons (pm_set (i:=2) sc_climbed_from.nd rfl (by walk_at "o") (pl_lst (pal_val (pl_var 1) pal_nil)))
  (pms_cons (pm_while PassesOwn.never (pbc (od_ne hr.units) (pl_ix (pl_own (pl_ixV 2 (pl_neg pl_int) (fun _ _=>rfl)) (pl_ix (pl_var 2) (pl_neg pl_int) (fun _ _=>rfl))) pl_int (fun _ _=>rfl)) pl_int (nomark _)) (pms_one (pm_expr (pl_append 2 (pl_ix (pl_ix (pl_var 0) (pl_ix (pl_own (pl_ixV 2 (pl_neg pl_int) (fun _ _=>rfl)) (pl_ix (pl_var 2) (pl_neg pl_int) (fun _ _=>rfl))) pl_int (fun _ _=>rfl)) (fun _ _=>rfl)) pl_int (fun _ _=>rfl))))))
  (pms_one (pm_ret (pl_move 2))))))
  sat_climbed_from
theorem sc_passages:FnScope N_passages ["string","one","other"] (defScope s_passages):=⟨rfl,rfl,rfl,by decide +kernel,rfl,by decide +kernel,by decide +kernel⟩
theorem ok_passages(T:Tx K mg ad fd):FnOk P w K mg base CX0 2 (ad 1) (fd 1) ["string","one","other"] (spF K 3 fs_passages) :=
 fn_ok (k:=1) T.x_passages.f sc_passages m_passages (fun cdv A outer s H E hr=>by exact(@pms_cons _ _ _ _ _ (@pm_set _ _ _ 3 _ _ _ sc_passages.nd rfl (by walk_at "o") (@pl_frz _ _ _ (pl_cx (ok_climbed_from T) T.x_climbed_from hr (@pal_val _ _ _ _ _ _ (pl_var 0) (@pal_val _ _ _ _ _ _ (pl_var 1) pal_nil (by kernel_rfl)) (by kernel_rfl)))) (by kernel_rfl) (by first | exact .inl rfl | exact .inr rfl)) (@pms_cons _ _ _ _ _ (@pm_set _ _ _ 4 _ _ _ sc_passages.nd rfl (by walk_at "o") (@pl_frz _ _ _ (pl_cx (ok_climbed_from T) T.x_climbed_from hr (@pal_val _ _ _ _ _ _ (pl_var 0) (@pal_val _ _ _ _ _ _ (pl_var 2) pal_nil (by kernel_rfl)) (by kernel_rfl)))) (by kernel_rfl) (by first | exact .inl rfl | exact .inr rfl)) (@pms_cons _ _ _ _ _ (@pm_set _ _ _ 5 _ _ _ sc_passages.nd rfl (by walk_at "o") (pl_dictL rfl T.z_dict rfl (pl_var 3)) (by kernel_rfl) (by first | exact .inl rfl | exact .inr rfl)) (@pms_cons _ _ _ _ _ (@pm_set _ _ _ 6 _ _ _ sc_passages.nd rfl (by walk_at "o") (pl_dictL rfl T.z_dict rfl (pl_var 4)) (by kernel_rfl) (by first | exact .inl rfl | exact .inr rfl)) (@pms_cons _ _ _ _ _ (pm_setC sc_passages.nd (j:=7) rfl (by walk_at "o") (sc:=(defScope s_passages)) (N:=N_passages) (Nt:=[ "r" ,"p" ]) (Nf:=[ "there" ]) (fi:=[6]) rfl rfl rfl (pil_seq (pl_var 3)) rfl (by decide +kernel) (by decide +kernel) (by decide +kernel) (by decide) rfl (by decide +kernel) (by decide) (fun _ _ _ _=>(tc_tup rfl (tcs_cons (i:=0) (by decide) (show(([ "r" ,"p" ]:List Str)++([ "there" ]:List Str)).Nodup by decide +kernel) rfl (Or.inl rfl) (tcs_cons (i:=1) (by decide) (show(([ "r" ,"p" ]:List Str)++([ "there" ]:List Str)).Nodup by decide +kernel) rfl (Or.inl rfl) tcs_nil)))) (fun _ _ _ _=>(pif_one (pb_dnin 2 (pl_var 0) rfl))) (fun _ _ _ _=>(@pl_tup _ _ _ _ _ _ (@pal_val _ _ _ _ _ _ (pl_var 0) (@pal_val _ _ _ _ _ _ (pl_var 1) (@pal_val _ _ _ _ _ _ pl_int pal_nil (by kernel_rfl)) (by kernel_rfl)) (by kernel_rfl))))) (@pms_cons _ _ _ _ _ (pm_setC sc_passages.nd (j:=8) rfl (by walk_at "o") (sc:=(defScope s_passages)) (N:=N_passages) (Nt:=[ "r" ,"p" ]) (Nf:=[ "there" ]) (fi:=[6]) rfl rfl rfl (pil_seq (pl_var 3)) rfl (by decide +kernel) (by decide +kernel) (by decide +kernel) (by decide) rfl (by decide +kernel) (by decide) (fun _ _ _ _=>(tc_tup rfl (tcs_cons (i:=0) (by decide) (show(([ "r" ,"p" ]:List Str)++([ "there" ]:List Str)).Nodup by decide +kernel) rfl (Or.inl rfl) (tcs_cons (i:=1) (by decide) (show(([ "r" ,"p" ]:List Str)++([ "there" ]:List Str)).Nodup by decide +kernel) rfl (Or.inl rfl) tcs_nil)))) (fun _ _ _ _=>(pif_one (PBw.pb (pbw_and (pb_din 2 (pl_var 0) rfl) (pbw_and1 (pbc (od_ne hr.units) (pl_var 1) (pl_dget 2 (pl_var 0) (fun _ _=>rfl)) (nomark _))))))) (fun _ _ _ _=>(@pl_tup _ _ _ _ _ _ (@pal_val _ _ _ _ _ _ (pl_var 0) (@pal_val _ _ _ _ _ _ (pl_var 1) (@pal_val _ _ _ _ _ _ (pl_dget 2 (pl_var 0) (fun _ _=>rfl)) pal_nil (by kernel_rfl)) (by kernel_rfl)) (by kernel_rfl))))) (@pms_cons _ _ _ _ _ (pm_setC sc_passages.nd (j:=9) rfl (by walk_at "o") (sc:=(defScope s_passages)) (N:=N_passages) (Nt:=[ "r" ,"p" ]) (Nf:=[ "here" ]) (fi:=[5]) rfl rfl rfl (pil_rev rfl T.z_reversed (pl_var 4)) rfl (by decide +kernel) (by decide +kernel) (by decide +kernel) (by decide) rfl (by decide +kernel) (by decide) (fun _ _ _ _=>(tc_tup rfl (tcs_cons (i:=0) (by decide) (show(([ "r" ,"p" ]:List Str)++([ "here" ]:List Str)).Nodup by decide +kernel) rfl (Or.inl rfl) (tcs_cons (i:=1) (by decide) (show(([ "r" ,"p" ]:List Str)++([ "here" ]:List Str)).Nodup by decide +kernel) rfl (Or.inl rfl) tcs_nil)))) (fun _ _ _ _=>(pif_one (pb_dnin 2 (pl_var 0) rfl))) (fun _ _ _ _=>(@pl_tup _ _ _ _ _ _ (@pal_val _ _ _ _ _ _ (pl_var 0) (@pal_val _ _ _ _ _ _ pl_int (@pal_val _ _ _ _ _ _ (pl_var 1) pal_nil (by kernel_rfl)) (by kernel_rfl)) (by kernel_rfl))))) (@pms_one _ _ _ (@pm_ret _ _ _ _ (@pl_bin _ _ _ _ _ _ _ _ od_add (@pl_bin _ _ _ _ _ _ _ _ od_add (pl_var 7) (pl_var 8)) (pl_var 9))))))))))))
  sat_passages
theorem sc__law_take:FnScope N__law_take ["_law_state","_law_many"] (defScope s__law_take):=⟨rfl,rfl,rfl,by decide +kernel,rfl,by decide +kernel,by decide +kernel⟩
theorem ok__law_take(T:Tx K mg ad fd):FnOk P w K mg base CX0 1 (ad 2) (fd 2) ["_law_state","_law_many"] (spF K 2 fs__law_take) :=
 fn_ok (k:=0) T.x__law_take.f sc__law_take m__law_take (fun cdv A outer s H E hr=>(pms_cons (pm_if (pb_val (pl_own (pl_ixV 0 pl_int (fun _ _=>rfl)) (pl_ix (pl_var 0) pl_int (fun _ _=>rfl)))) (pms_cons (pm_set (i:=2) sc__law_take.nd rfl (by walk_at "o") (pl_bin od_mod (pl_own (pl_ixV 0 pl_int (fun _ _=>rfl)) (pl_ix (pl_var 0) pl_int (fun _ _=>rfl))) (pl_var 1)))
  (pms_cons (pm_setV 0 pl_int (pl_bin od_div (pl_own (pl_ixV 0 pl_int (fun _ _=>rfl)) (pl_ix (pl_var 0) pl_int (fun _ _=>rfl))) (pl_var 1)))
  (pms_cons (pm_setV 0 pl_int (pl_cmp od_gt (pl_own (pl_ixV 0 pl_int (fun _ _=>rfl)) (pl_ix (pl_var 0) pl_int (fun _ _=>rfl))) pl_int (nomark _)))
  (pms_one (pm_ret (pl_move 2)))))) pms_nil)
  (pms_cons (pm_set (i:=3) sc__law_take.nd rfl (by walk_at "o") pl_int)
  (pms_cons (pm_for PassesOwn.never rfl (pil_rng1 rfl T.z_range (pl_bin od_add pl_int (pl_bin od_mulI pl_int (pl_callTD cd_int rfl T.z_int (by decide +kernel) (pal_val (pl_cmp od_gt (pl_var 1) (pl_bin od_pow pl_int pl_int) (nomark _)) pal_nil))))) (tg_name (i:=4) sc__law_take.nd rfl (by walk_at "o")) (pms_cons (pm_setV 0 pl_int (pl_bin od_mod (pl_bin od_add (pl_bin od_mulI (pl_own (pl_ixV 0 pl_int (fun _ _=>rfl)) (pl_ix (pl_var 0) pl_int (fun _ _=>rfl))) pl_int) pl_int) pl_int))
  (pms_one (pm_set (i:=3) sc__law_take.nd rfl (by walk_at "o") (pl_frz (pl_bin od_add (pl_bin od_mulI (pl_var 3) pl_int) (pl_bin od_mod (pl_bin od_mulI (pl_own (pl_ixV 0 pl_int (fun _ _=>rfl)) (pl_ix (pl_var 0) pl_int (fun _ _=>rfl))) (pl_own (pl_ixV 0 pl_int (fun _ _=>rfl)) (pl_ix (pl_var 0) pl_int (fun _ _=>rfl)))) pl_int)))))))
  (pms_one (pm_ret (pl_bin od_mod (pl_bin od_div (pl_var 3) pl_int) (pl_var 1))))))))
  sat__law_take
theorem sc__law_low:FnScope N__law_low ["_law_top","_law_bottom"] (defScope s__law_low):=⟨rfl,rfl,rfl,by decide +kernel,rfl,by decide +kernel,by decide +kernel⟩
theorem ok__law_low(T:Tx K mg ad fd):FnOk P w K mg base CX0 1 (ad 3) (fd 3) ["_law_top","_law_bottom"] (spF K 2 fs__law_low) :=
 fn_ok (k:=0) T.x__law_low.f sc__law_low m__law_low (fun cdv A outer s H E hr=>(pms_cons (pm_set (i:=2) sc__law_low.nd rfl (by walk_at "o") (pl_frz (pl_callD cd_abs rfl T.z_abs (by decide +kernel) (pal_val (pl_var 0) pal_nil))))
  (pms_cons (pm_set (i:=3) sc__law_low.nd rfl (by walk_at "o") (pl_frz (pl_callD cd_abs rfl T.z_abs (by decide +kernel) (pal_val (pl_var 1) pal_nil))))
  (pms_cons (pm_while PassesOwn.never (pbc (od_ne hr.units) (pl_var 2) pl_int (nomark _)) (pms_one (pm_par (i:=2) (j:=3) rfl sc__law_low.nd rfl rfl (by decide) rfl rfl (pl_bin od_mod (pl_var 3) (pl_var 2)) (pl_var 2) rfl)))
  (pms_cons (pm_if (pbc od_lt (pl_var 1) pl_int (nomark _)) (pms_one (pm_set (i:=3) sc__law_low.nd rfl (by walk_at "o") (pl_bin od_sub pl_int (pl_var 3)))) pms_nil)
  (pms_one (pm_ret (pl_tup (pal_val (pl_bin od_div (pl_var 0) (pl_var 3)) (pal_val (pl_bin od_div (pl_var 1) (pl_var 3)) pal_nil))))))))))
  sat__law_low
theorem sc__law_amount:FnScope N__law_amount ["_law_state","_law_least","_law_kind"] (defScope s__law_amount):=⟨rfl,rfl,rfl,by decide +kernel,rfl,by decide +kernel,by decide +kernel⟩
theorem ok__law_amount(T:Tx K mg ad fd):FnOk P w K mg base CX0 2 (ad 4) (fd 4) ["_law_state","_law_least","_law_kind"] (spF K 3 fs__law_amount) :=
 fn_ok (k:=1) T.x__law_amount.f sc__law_amount m__law_amount (fun cdv A outer s H E hr=>by exact(@pms_cons _ _ _ _ _ (@pm_set _ _ _ 3 _ _ _ sc__law_amount.nd rfl (by walk_at "o") (@pl_frz _ _ _ (@pl_bin _ _ _ _ _ _ _ _ od_add pl_int (pl_cxB (ok__law_take T) T.x__law_take hr 0 0 (pal_var 0 (@pal_val _ _ _ _ _ _ (@pl_ix _ _ _ _ _ _ (@pl_lst _ _ _ _ _ (@pal_val _ _ _ _ _ _ pl_int (@pal_val _ _ _ _ _ _ pl_int (@pal_val _ _ _ _ _ _ pl_int (@pal_val _ _ _ _ _ _ pl_int (@pal_val _ _ _ _ _ _ pl_int pal_nil (by kernel_rfl)) (by kernel_rfl)) (by kernel_rfl)) (by kernel_rfl)) (by kernel_rfl))) (pl_var 2) (fun _ _=>rfl)) pal_nil (by kernel_rfl)))))) (by kernel_rfl) (by first | exact .inl rfl | exact .inr rfl)) (@pms_cons _ _ _ _ _ (@pm_set _ _ _ 4 _ _ _ sc__law_amount.nd rfl (by walk_at "o") (@pl_frz _ _ _ (@pl_bin _ _ _ _ _ _ _ _ od_add (pl_var 1) (pl_cxB (ok__law_take T) T.x__law_take hr 0 0 (pal_var 0 (@pal_val _ _ _ _ _ _ (@pl_ix _ _ _ _ _ _ (@pl_lst _ _ _ _ _ (@pal_val _ _ _ _ _ _ pl_int (@pal_val _ _ _ _ _ _ pl_int (@pal_val _ _ _ _ _ _ pl_int (@pal_val _ _ _ _ _ _ pl_int (@pal_val _ _ _ _ _ _ (@pl_bin _ _ _ _ _ _ _ _ od_pow pl_int pl_int) pal_nil (by kernel_rfl)) (by kernel_rfl)) (by kernel_rfl)) (by kernel_rfl)) (by kernel_rfl))) (pl_var 2) (fun _ _=>rfl)) pal_nil (by kernel_rfl)))))) (by kernel_rfl) (by first | exact .inl rfl | exact .inr rfl)) (@pms_one _ _ _ (@pm_ret _ _ _ _ (pl_cx (ok__law_low T) T.x__law_low hr (@pal_val _ _ _ _ _ _ (pl_var 4) (@pal_val _ _ _ _ _ _ (pl_var 3) pal_nil (by kernel_rfl)) (by kernel_rfl))))))))
  sat__law_amount
theorem sc__law_place:FnScope N__law_place ["_law_state","_law_string_here"] (defScope s__law_place):=⟨rfl,rfl,rfl,by decide +kernel,rfl,by decide +kernel,by decide +kernel⟩
theorem ok__law_place(T:Tx K mg ad fd):FnOk P w K mg base CX0 2 (ad 5) (fd 5) ["_law_state","_law_string_here"] (spF K 2 fs__law_place) :=
 fn_ok (k:=1) T.x__law_place.f sc__law_place m__law_place (fun cdv A outer s H E hr=>(pms_cons (pm_set (i:=2) sc__law_place.nd rfl (by walk_at "o") (pl_frz (pl_cxB (ok__law_take T) T.x__law_take hr 0 0 (pal_var 0 (pal_val (pl_frz (pl_callD cd_len rfl T.z_len (by decide +kernel) (pal_val (pl_var 1) pal_nil))) pal_nil)))))
  (pms_cons (pm_if (pbc (od_eq hr.units) (pl_var 2) pl_int (nomark _)) (pms_one (pm_ret (pl_tup (pal_val pl_int (pal_val (pl_frz (pl_cxB (ok__law_take T) T.x__law_take hr 0 0 (pal_var 0 (pal_val (pl_frz (pl_callD cd_len rfl T.z_len (by decide +kernel) (pal_val (pl_ix (pl_ix (pl_var 1) pl_int (fun _ _=>rfl)) pl_int (fun _ _=>rfl)) pal_nil))) pal_nil)))) pal_nil))))) pms_nil)
  (pms_one (pm_ret (pl_tup (pal_val (pl_var 2) (pal_val (pl_frz (pl_bin od_add pl_int (pl_cxB (ok__law_take T) T.x__law_take hr 0 0 (pal_var 0 (pal_val (pl_bin od_sub (pl_callD cd_len rfl T.z_len (by decide +kernel) (pal_val (pl_ix (pl_ix (pl_var 1) (pl_var 2) (fun _ _=>rfl)) pl_int (fun _ _=>rfl)) pal_nil)) pl_int) pal_nil))))) pal_nil))))))))
  sat__law_place
theorem sc__law_string:FnScope N__law_string ["_law_state","_law_most","_law_places"] (defScope s__law_string):=⟨rfl,rfl,rfl,by decide +kernel,rfl,by decide +kernel,by decide +kernel⟩
theorem ok__law_string(T:Tx K mg ad fd):FnOk P w K mg base CX0 3 (ad 6) (fd 6) ["_law_state","_law_most","_law_places"] (spF K 3 fs__law_string) :=
 fn_ok (k:=2) T.x__law_string.f sc__law_string m__law_string (fun cdv A outer s H E hr=>by exact(@pms_cons _ _ _ _ _ (@pm_set _ _ _ 3 _ _ _ sc__law_string.nd rfl (by walk_at "o") (@pl_lst _ _ _ _ _ pal_nil) (by kernel_rfl) (by first | exact .inl rfl | exact .inr rfl)) (@pms_cons _ _ _ _ _ (@pm_set _ _ _ 4 _ _ _ sc__law_string.nd rfl (by walk_at "o") (@pl_frz _ _ _ (pl_cxB (ok__law_take T) T.x__law_take hr 0 0 (pal_var 0 (@pal_val _ _ _ _ _ _ pl_int pal_nil (by kernel_rfl))))) (by kernel_rfl) (by first | exact .inl rfl | exact .inr rfl)) (@pms_cons _ _ _ _ _ (pm_for PassesOwn.never rfl (pil_rng1 rfl T.z_range (@pl_bin _ _ _ _ _ _ _ _ od_add pl_int (pl_cxB (ok__law_take T) T.x__law_take hr 0 0 (pal_var 0 (@pal_val _ _ _ _ _ _ (pl_var 1) pal_nil (by kernel_rfl)))))) (tg_name (i:=5) sc__law_string.nd rfl (by walk_at "o")) (@pms_cons _ _ _ _ _ (@pm_set _ _ _ 6 _ _ _ sc__law_string.nd rfl (by walk_at "o") (@pl_frz _ _ _ (pl_cxB (ok__law_take T) T.x__law_take hr 0 0 (pal_var 0 (@pal_val _ _ _ _ _ _ pl_int pal_nil (by kernel_rfl))))) (by kernel_rfl) (by first | exact .inl rfl | exact .inr rfl)) (@pms_cons _ _ _ _ _ (pm_setC sc__law_string.nd (j:=7) rfl (by walk_at "o") (sc:=(defScope s__law_string)) (N:=N__law_string) (Nt:=[ "_law_tie" ]) (Nf:=[ "_law_state" ,"_law_kind" ]) (fi:=[0,6]) rfl rfl rfl (pil_rng1 rfl T.z_range (@pl_bin _ _ _ _ _ _ _ _ od_add pl_int (pl_cxB (ok__law_take T) T.x__law_take hr 0 0 (pal_var 0 (@pal_val _ _ _ _ _ _ (@pl_bin _ _ _ _ _ _ _ _ od_sub (pl_var 2) pl_int) pal_nil (by kernel_rfl)))))) rfl (by decide +kernel) (by decide +kernel) (by decide +kernel) (by decide) rfl (by decide +kernel) (by decide) (fun _ _ _ _=>(tc_name (by decide) (show(([ "_law_tie" ]:List Str)++([ "_law_state" ,"_law_kind" ]:List Str)).Nodup by decide +kernel) rfl (Or.inl rfl))) (fun _ _ _ _=>pif_nil) (fun _ _ _ _=>(pl_cxB (ok__law_amount T) T.x__law_amount hr 0 1 (pal_var 1 (@pal_val _ _ _ _ _ _ pl_int (@pal_val _ _ _ _ _ _ (pl_var 2) pal_nil (by kernel_rfl)) (by kernel_rfl)))))) (@pms_cons _ _ _ _ _ (@pm_set _ _ _ 8 _ _ _ sc__law_string.nd rfl (by walk_at "o") pl_non (by kernel_rfl) (by first | exact .inl rfl | exact .inr rfl)) (@pms_cons _ _ _ _ _ (@pm_if _ _ _ _ _ _ _ _ (PBw.pb (pbw_and (pbc od_gt (pl_var 5) pl_int (nomark _)) (pbw_and1 (pbc (od_eq hr.units) (pl_var 4) pl_int (nomark _))))) (@pms_one _ _ _ (@pm_set _ _ _ 7 _ _ _ sc__law_string.nd rfl (by walk_at "o") (@pl_frz _ _ _ (pl_callTD cd_list rfl T.z_list (by decide +kernel) (@pal_val _ _ _ _ _ _ (@pl_ix _ _ _ _ _ _ (@pl_own _ _ _ _ _ (pl_ixV 3 pl_int (fun _ _=>rfl)) (@pl_ix _ _ _ _ _ _ (pl_var 3) pl_int (fun _ _=>rfl))) pl_int (fun _ _=>rfl)) pal_nil (by kernel_rfl)))) (by kernel_rfl) (by first | exact .inl rfl | exact .inr rfl))) pms_nil) (@pms_cons _ _ _ _ _ (@pm_if _ _ _ _ _ _ _ _ (pbc od_gt (pl_var 5) pl_int (nomark _)) (@pms_cons _ _ _ _ _ (@pm_set _ _ _ 8 _ _ _ sc__law_string.nd rfl (by walk_at "o") (@pl_frz _ _ _ (pl_peekS 3 0 (pl_cxB (ok__law_place T) T.x__law_place hr 0 0 (pal_var 0 (@pal_val _ _ _ _ _ _ (pl_var 3) pal_nil (by kernel_rfl)))))) (by kernel_rfl) (by first | exact .inl rfl | exact .inr rfl)) (@pms_one _ _ _ (@pm_if _ _ _ _ _ _ _ _ (pbc (od_eq hr.units) (pl_var 4) pl_int (nomark _)) (@pms_one _ _ _ (@pm_set _ _ _ 8 _ _ _ sc__law_string.nd rfl (by walk_at "o") (@pl_tup _ _ _ _ _ _ (@pal_val _ _ _ _ _ _ (@pl_bin _ _ _ _ _ _ _ _ od_sub (pl_var 5) pl_int) (@pal_val _ _ _ _ _ _ (@pl_bin _ _ _ _ _ _ _ _ od_sub (pl_callD cd_len rfl T.z_len (by decide +kernel) (@pal_val _ _ _ _ _ _ (@pl_ix _ _ _ _ _ _ (@pl_own _ _ _ _ _ (pl_ixV 3 (@pl_bin _ _ _ _ _ _ _ _ od_sub (pl_var 5) pl_int) (fun _ _=>rfl)) (@pl_ix _ _ _ _ _ _ (pl_var 3) (@pl_bin _ _ _ _ _ _ _ _ od_sub (pl_var 5) pl_int) (fun _ _=>rfl))) pl_int (fun _ _=>rfl)) pal_nil (by kernel_rfl))) pl_int) pal_nil (by kernel_rfl)) (by kernel_rfl))) (by kernel_rfl) (by first | exact .inl rfl | exact .inr rfl))) pms_nil))) pms_nil) (@pms_one _ _ _ (pm_expr (pl_append 3 (@pl_tup _ _ _ _ _ _ (@pal_val _ _ _ _ _ _ (pl_var 7) (@pal_val _ _ _ _ _ _ (pl_var 8) pal_nil (by kernel_rfl)) (by kernel_rfl)))))))))))) (@pms_one _ _ _ (@pm_ret _ _ _ _ (pl_move 3)))))))
  sat__law_string
theorem sc__law_begun:FnScope N__law_begun ["_law_script","_law_k"] (defScope s__law_begun):=⟨rfl,rfl,rfl,by decide +kernel,rfl,by decide +kernel,by decide +kernel⟩
theorem ok__law_begun(T:Tx K mg ad fd):FnOk P w K mg base CX0 1 (ad 7) (fd 7) ["_law_script","_law_k"] (spF K 2 fs__law_begun) :=
 fn_ok (k:=0) T.x__law_begun.f sc__law_begun m__law_begun (fun cdv A outer s H E hr=>(pms_cons (pm_set (i:=2) sc__law_begun.nd rfl (by walk_at "o") pl_int)
  (pms_cons (pm_if (pbc od_lt (pl_var 1) (pl_callD cd_len rfl T.z_len (by decide +kernel) (pal_val (pl_var 0) pal_nil)) (nomark _)) (pms_one (pm_set (i:=2) sc__law_begun.nd rfl (by walk_at "o") (pl_ix (pl_var 0) (pl_var 1) (fun _ _=>rfl)))) pms_nil)
  (pms_one (pm_ret (pl_lst (pal_val (pl_var 2) (pal_val (pl_bin od_mod (pl_bin od_add (pl_bin od_add (pl_bin od_mod (pl_var 2) pl_int) (pl_bin od_mulI (pl_bin od_mulI pl_int (pl_var 1)) (pl_var 1))) pl_int) pl_int) (pal_val (pl_cmp od_ge (pl_var 2) (pl_bin od_pow pl_int pl_int) (nomark _)) pal_nil)))))))))
  sat__law_begun
theorem sc__law_real:FnScope N__law_real ["_law_string_here","_law_ring","_law_place_here"] (defScope s__law_real):=⟨rfl,rfl,rfl,by decide +kernel,rfl,by decide +kernel,by decide +kernel⟩
theorem ok__law_real(T:Tx K mg ad fd):FnOk P w K mg base CX0 1 (ad 8) (fd 8) ["_law_string_here","_law_ring","_law_place_here"] (spF K 3 fs__law_real) :=
 fn_ok (k:=0) T.x__law_real.f sc__law_real m__law_real (fun cdv A outer s H E hr=>(pms_cons (pm_if (PBw.pb (pbw_and (pbc od_gt (pl_var 1) pl_int (nomark _)) (pbw_and1 (pbc (od_eq hr.units) (pl_var 2) pl_int (nomark _))))) (pms_one (pm_ret (pl_ix (pl_ix (pl_var 0) (pl_var 1) (fun _ _=>rfl)) pl_int (fun _ _=>rfl)))) pms_nil)
  (pms_one (pm_ret (pl_tup (pal_val (pl_var 1) (pal_val (pl_var 2) pal_nil)))))))
  sat__law_real
theorem sc__law_leads:FnScope N__law_leads ["_law_string_here","_law_one","_law_other","_law_told"] (defScope s__law_leads):=⟨rfl,rfl,rfl,by decide +kernel,rfl,by decide +kernel,by decide +kernel⟩
theorem ok__law_leads(T:Tx K mg ad fd):FnOk P w K mg base CX0 2 (ad 9) (fd 9) ["_law_string_here","_law_one","_law_other","_law_told"] (spF K 4 fs__law_leads) :=
 fn_ok (k:=1) T.x__law_leads.f sc__law_leads m__law_leads (fun cdv A outer s H E hr=>(pms_cons (pm_set (i:=4) sc__law_leads.nd rfl (by walk_at "o") (pl_var 1))
  (pms_cons (pm_set (i:=5) sc__law_leads.nd rfl (by walk_at "o") (pl_lst pal_nil))
  (pms_cons (pm_for PassesOwn.never rfl (pil_seq (pl_var 3)) (tg_tup rfl (tgs_cons (i:=6) sc__law_leads.nd rfl (by walk_at "o") (tgs_cons (i:=7) sc__law_leads.nd rfl (by walk_at "o") (tgs_cons (i:=8) sc__law_leads.nd rfl (by walk_at "o") tgs_nil)))) (pms_cons (pm_if (PBw.pb (pbw_or (pb_peek 5 (pbc od_in (pl_var 6) (pl_var 5) rfl)) (pbw_or (pbc (od_eq hr.units) (pl_var 7) (pl_var 8) (nomark _)) (pbw_or1 (pbc (od_ne hr.units) (pl_cx (ok__law_real T) T.x__law_real hr (pal_val (pl_var 0) (pal_val (pl_var 6) (pal_val (pl_var 7) pal_nil)))) (pl_var 4) (nomark _)))))) (pms_one (pm_ret pl_bl)) pms_nil)
  (pms_cons (pm_if (PBw.pb (pbw_or (pb_not (pb_chain ci_le ci_lt pl_int (pl_var 7) (pl_callD cd_len rfl T.z_len (by decide +kernel) (pal_val (pl_ix (pl_ix (pl_var 0) (pl_var 6) (fun _ _=>rfl)) pl_int (fun _ _=>rfl)) pal_nil)))) (pbw_or1 (pb_not (pb_chain ci_le ci_lt pl_int (pl_var 8) (pl_callD cd_len rfl T.z_len (by decide +kernel) (pal_val (pl_ix (pl_ix (pl_var 0) (pl_var 6) (fun _ _=>rfl)) pl_int (fun _ _=>rfl)) pal_nil))))))) (pms_one (pm_ret pl_bl)) pms_nil)
  (pms_cons (pm_expr (pl_append 5 (pl_var 6)))
  (pms_one (pm_set (i:=4) sc__law_leads.nd rfl (by walk_at "o") (pl_frz (pl_cx (ok__law_real T) T.x__law_real hr (pal_val (pl_var 0) (pal_val (pl_var 6) (pal_val (pl_var 8) pal_nil)))))))))))
  (pms_one (pm_ret (pl_cmp (od_eq hr.units) (pl_var 4) (pl_var 2) (nomark _))))))))
  sat__law_leads
theorem sc__law_right:FnScope N__law_right ["_law_string_here","_law_one","_law_other"] (defScope s__law_right):=⟨rfl,rfl,rfl,by decide +kernel,rfl,by decide +kernel,by decide +kernel⟩
theorem ok__law_right(T:Tx K mg ad fd):FnOk P w K mg base CX0 3 (ad 10) (fd 10) ["_law_string_here","_law_one","_law_other"] (spF K 3 fs__law_right) :=
 fn_ok (k:=2) T.x__law_right.f sc__law_right m__law_right (fun cdv A outer s H E hr=>by exact(@pms_cons _ _ _ _ _ (@pm_set _ _ _ 3 _ _ _ sc__law_right.nd rfl (by walk_at "o") (pl_cx (ok_passages T) T.x_passages hr (@pal_val _ _ _ _ _ _ (pl_var 0) (@pal_val _ _ _ _ _ _ (pl_var 1) (@pal_val _ _ _ _ _ _ (pl_var 2) pal_nil (by kernel_rfl)) (by kernel_rfl)) (by kernel_rfl))) (by kernel_rfl) (by first | exact .inl rfl | exact .inr rfl)) (@pms_cons _ _ _ _ _ (@pm_if _ _ _ _ _ _ _ _ (PBw.pb (pbw_or (pb_not (pb_val (pl_peek 3 (pl_isT kit_list rfl T.z_isinstance rfl T.z_list (by decide +kernel) (pl_var 3))))) (pbw_or1 (pbc (od_ne hr.units) (pl_peek 3 (pl_comp (sc:=(defScope s__law_right)) (N:=N__law_right) (Nt:=[ "_law_step" ]) (Nf:=[]) (fi:=[]) rfl rfl rfl (pil_seq (pl_var 3)) rfl (by decide +kernel) (by decide +kernel) (by decide +kernel) (by decide) rfl (by decide +kernel) (by decide) (fun _ _ _ _=>(tc_name (by decide) (show(([ "_law_step" ]:List Str)++([]:List Str)).Nodup by decide +kernel) rfl (Or.inl rfl))) (fun _ _ _ _=>(pif_one (PBw.pb (pbw_or (pb_not (pb_val (pl_isT kit_tuple rfl T.z_isinstance rfl T.z_tuple (by decide +kernel) (pl_var 0)))) (pbw_or1 (pbc (od_ne hr.units) (pl_callD cd_len rfl T.z_len (by decide +kernel) (@pal_val _ _ _ _ _ _ (pl_var 0) pal_nil (by kernel_rfl))) pl_int (nomark _))))))) (fun _ _ _ _=>(pl_var 0)))) (@pl_lst _ _ _ _ _ pal_nil) (nomark _))))) (@pms_one _ _ _ (@pm_ret _ _ _ _ pl_bl)) pms_nil) (@pms_cons _ _ _ _ _ (@pm_if _ _ _ _ _ _ _ _ (PBw.pb (pbw_or (pb_not (pb_val (pl_peek 3 (pl_cx (ok__law_leads T) T.x__law_leads hr (@pal_val _ _ _ _ _ _ (pl_var 0) (@pal_val _ _ _ _ _ _ (pl_var 1) (@pal_val _ _ _ _ _ _ (pl_var 2) (@pal_val _ _ _ _ _ _ (pl_var 3) pal_nil (by kernel_rfl)) (by kernel_rfl)) (by kernel_rfl)) (by kernel_rfl)))))) (pbw_or1 (PBw.pb (pbw_and (pbc (od_eq hr.units) (pl_var 1) (pl_var 2) (nomark _)) (pbw_and1 (pb_peek 3 (pbc (od_ne hr.units) (pl_var 3) (@pl_lst _ _ _ _ _ pal_nil) (nomark _))))))))) (@pms_one _ _ _ (@pm_ret _ _ _ _ pl_bl)) pms_nil) (@pms_cons _ _ _ _ _ (pm_setC sc__law_right.nd (j:=4) rfl (by walk_at "o") (sc:=(defScope s__law_right)) (N:=N__law_right) (Nt:=[ "_law_ring" ,"_law_enters" ,"_law_leaves" ]) (Nf:=[]) (fi:=[]) rfl rfl rfl (pil_seq (pl_peek 3 (pl_rev (pl_var 3)))) rfl (by decide +kernel) (by decide +kernel) (by decide +kernel) (by decide) rfl (by decide +kernel) (by decide) (fun _ _ _ _=>(tc_tup rfl (tcs_cons (i:=0) (by decide) (show(([ "_law_ring" ,"_law_enters" ,"_law_leaves" ]:List Str)++([]:List Str)).Nodup by decide +kernel) rfl (Or.inl rfl) (tcs_cons (i:=1) (by decide) (show(([ "_law_ring" ,"_law_enters" ,"_law_leaves" ]:List Str)++([]:List Str)).Nodup by decide +kernel) rfl (Or.inl rfl) (tcs_cons (i:=2) (by decide) (show(([ "_law_ring" ,"_law_enters" ,"_law_leaves" ]:List Str)++([]:List Str)).Nodup by decide +kernel) rfl (Or.inl rfl) tcs_nil))))) (fun _ _ _ _=>pif_nil) (fun _ _ _ _=>(@pl_tup _ _ _ _ _ _ (@pal_val _ _ _ _ _ _ (pl_var 0) (@pal_val _ _ _ _ _ _ (pl_var 2) (@pal_val _ _ _ _ _ _ (pl_var 1) pal_nil (by kernel_rfl)) (by kernel_rfl)) (by kernel_rfl))))) (@pms_cons _ _ _ _ _ (@pm_set _ _ _ 5 _ _ _ sc__law_right.nd rfl (by walk_at "o") (@pl_frz _ _ _ (pl_peek 3 (pl_callTD cd_list rfl T.z_list (by decide +kernel) (@pal_val _ _ _ _ _ _ (pl_var 3) pal_nil (by kernel_rfl))))) (by kernel_rfl) (by first | exact .inl rfl | exact .inr rfl)) (@pms_cons _ _ _ _ _ (pm_expr (pl_append 3 pl_non)) (@pms_one _ _ _ (@pm_ret _ _ _ _ (pl_and (pl_cmp (od_eq hr.units) (pl_cx (ok_passages T) T.x_passages hr (@pal_val _ _ _ _ _ _ (pl_var 0) (@pal_val _ _ _ _ _ _ (pl_var 2) (@pal_val _ _ _ _ _ _ (pl_var 1) pal_nil (by kernel_rfl)) (by kernel_rfl)) (by kernel_rfl))) (pl_var 4) (nomark _)) (pl_one (pl_cmp (od_eq hr.units) (pl_cx (ok_passages T) T.x_passages hr (@pal_val _ _ _ _ _ _ (pl_var 0) (@pal_val _ _ _ _ _ _ (pl_var 1) (@pal_val _ _ _ _ _ _ (pl_var 2) pal_nil (by kernel_rfl)) (by kernel_rfl)) (by kernel_rfl))) (pl_var 5) (nomark _)))))))))))))
  sat__law_right
theorem sc_law:FnScope N_law ["_law_script"] (defScope s_law):=⟨rfl,rfl,rfl,by decide +kernel,rfl,by decide +kernel,by decide +kernel⟩
theorem ok_law(T:Tx K mg ad fd):FnOk P w K mg base CX0 4 (ad 11) (fd 11) ["_law_script"] (spF K 1 fs_law) :=
 fn_ok (k:=3) T.x_law.f sc_law m_law (fun cdv A outer s H E hr=>by exact(@pms_cons _ _ _ _ _ (@pm_set _ _ _ 1 _ _ _ sc_law.nd rfl (by walk_at "o") (@pl_frz _ _ _ (pl_cx (ok__law_string T) T.x__law_string hr (@pal_val _ _ _ _ _ _ (pl_cx (ok__law_begun T) T.x__law_begun hr (@pal_val _ _ _ _ _ _ (pl_var 0) (@pal_val _ _ _ _ _ _ pl_int pal_nil (by kernel_rfl)) (by kernel_rfl))) (@pal_val _ _ _ _ _ _ pl_int (@pal_val _ _ _ _ _ _ pl_int pal_nil (by kernel_rfl)) (by kernel_rfl)) (by kernel_rfl)))) (by kernel_rfl) (by first | exact .inl rfl | exact .inr rfl)) (@pms_cons _ _ _ _ _ (@pm_set _ _ _ 2 _ _ _ sc_law.nd rfl (by walk_at "o") (@pl_frz _ _ _ (pl_callD (cd_reprW hr) rfl T.z_repr (by decide +kernel) (@pal_val _ _ _ _ _ _ (pl_var 1) pal_nil (by kernel_rfl)))) (by kernel_rfl) (by first | exact .inl rfl | exact .inr rfl)) (@pms_cons _ _ _ _ _ (pm_for PassesOwn.never rfl (pil_rng2 rfl T.z_range pl_int (pl_callD (cd_max rfl) rfl T.z_max (by decide +kernel) (@pal_val _ _ _ _ _ _ pl_int (@pal_val _ _ _ _ _ _ (@pl_frz _ _ _ (pl_callD (cd_min rfl) rfl T.z_min (by decide +kernel) (@pal_val _ _ _ _ _ _ (@pl_frz _ _ _ (pl_callD cd_len rfl T.z_len (by decide +kernel) (@pal_val _ _ _ _ _ _ (pl_var 0) pal_nil (by kernel_rfl)))) (@pal_val _ _ _ _ _ _ pl_int pal_nil (by kernel_rfl)) (by kernel_rfl)))) pal_nil (by kernel_rfl)) (by kernel_rfl)))) (tg_name (i:=3) sc_law.nd rfl (by walk_at "o")) (@pms_cons _ _ _ _ _ (@pm_set _ _ _ 4 _ _ _ sc_law.nd rfl (by walk_at "o") (pl_cx (ok__law_begun T) T.x__law_begun hr (@pal_val _ _ _ _ _ _ (pl_var 0) (@pal_val _ _ _ _ _ _ (pl_var 3) pal_nil (by kernel_rfl)) (by kernel_rfl))) (by kernel_rfl) (by first | exact .inl rfl | exact .inr rfl)) (@pms_cons _ _ _ _ _ (@pm_set _ _ _ 5 _ _ _ sc_law.nd rfl (by walk_at "o") (@pl_frz _ _ _ (pl_cxB (ok__law_place T) T.x__law_place hr 0 4 (pal_var 4 (@pal_val _ _ _ _ _ _ (pl_var 1) pal_nil (by kernel_rfl))))) (by kernel_rfl) (by first | exact .inl rfl | exact .inr rfl)) (@pms_cons _ _ _ _ _ (@pm_set _ _ _ 6 _ _ _ sc_law.nd rfl (by walk_at "o") (@pl_frz _ _ _ (pl_cxB (ok__law_place T) T.x__law_place hr 0 4 (pal_var 4 (@pal_val _ _ _ _ _ _ (pl_var 1) pal_nil (by kernel_rfl))))) (by kernel_rfl) (by first | exact .inl rfl | exact .inr rfl)) (@pms_one _ _ _ (@pm_if _ _ _ _ _ _ _ _ (PBw.pb (pbw_or (pb_not (pb_val (pl_cx (ok__law_right T) T.x__law_right hr (@pal_val _ _ _ _ _ _ (pl_var 1) (@pal_val _ _ _ _ _ _ (pl_var 5) (@pal_val _ _ _ _ _ _ (pl_var 6) pal_nil (by kernel_rfl)) (by kernel_rfl)) (by kernel_rfl))))) (pbw_or1 (pb_not (pb_val (pl_cx (ok__law_right T) T.x__law_right hr (@pal_val _ _ _ _ _ _ (pl_var 1) (@pal_val _ _ _ _ _ _ (pl_var 5) (@pal_val _ _ _ _ _ _ (pl_var 5) pal_nil (by kernel_rfl)) (by kernel_rfl)) (by kernel_rfl)))))))) (@pms_one _ _ _ (@pm_ret _ _ _ _ pl_bl)) pms_nil)))))) (@pms_one _ _ _ (@pm_ret _ _ _ _ (pl_cmp od_eqS (pl_callD (cd_reprW hr) rfl T.z_repr (by decide +kernel) (@pal_val _ _ _ _ _ _ (pl_var 1) pal_nil (by kernel_rfl))) (pl_var 2) (nomark _))))))))
  sat_law
end
noncomputable def adF(i:Nat):Addr:=([26,19,40,47,54,61,66,33,73,80,85,92]:List Addr).getD i 0
abbrev md0:Value:=(.str "ringloads.passages" 187)
abbrev md1:Value:=(.str "law_ringloads_k69_passages_between" 204)
noncomputable def fdF(i:Nat):FuncData:=[fdM "climbed_from" s_climbed_from md0 25,fdM "passages" s_passages md0 18,fdM "_law_take" s__law_take md1 39,fdM "_law_low" s__law_low md1 46,fdM "_law_amount" s__law_amount md1 53,fdM "_law_place" s__law_place md1 60,fdM "_law_string" s__law_string md1 65,fdM "_law_begun" s__law_begun md1 32,fdM "_law_real" s__law_real md1 72,fdM "_law_leads" s__law_leads md1 79,fdM "_law_right" s__law_right md1 84,fdM "law" s_law md1 91].getD i (fdM "law" s_law md0 0)
theorem tx{Pm:Params}{h:Heap}{mg:Str→Option Value}(X:(Hd.Kf Pm).In h)(G:h.Ns mainGlobals mg):Tx (Hd.Kf Pm) mg adF fdF where
 x_climbed_from:=FX.mk' X G (a:=26) (c:=25) (md:=md0) (by kernel_rfl) (by kernel_rfl) (by kernel_rfl) (by kernel_rfl) fun _ _ _ _ _ _ u l=>match u,l with | [_,_],_=>rfl
 x_passages:=FX.mk' X G (a:=19) (c:=18) (md:=md0) (by kernel_rfl) (by kernel_rfl) (by kernel_rfl) (by kernel_rfl) fun _ _ _ _ _ _ u l=>match u,l with | [_,_,_],_=>rfl
 x__law_take:=FX.mk' X G (a:=40) (c:=39) (md:=md1) (by kernel_rfl) (by kernel_rfl) (by kernel_rfl) (by kernel_rfl) fun _ _ _ _ _ _ u l=>match u,l with | [_,_],_=>rfl
 x__law_low:=FX.mk' X G (a:=47) (c:=46) (md:=md1) (by kernel_rfl) (by kernel_rfl) (by kernel_rfl) (by kernel_rfl) fun _ _ _ _ _ _ u l=>match u,l with | [_,_],_=>rfl
 x__law_amount:=FX.mk' X G (a:=54) (c:=53) (md:=md1) (by kernel_rfl) (by kernel_rfl) (by kernel_rfl) (by kernel_rfl) fun _ _ _ _ _ _ u l=>match u,l with | [_,_,_],_=>rfl
 x__law_place:=FX.mk' X G (a:=61) (c:=60) (md:=md1) (by kernel_rfl) (by kernel_rfl) (by kernel_rfl) (by kernel_rfl) fun _ _ _ _ _ _ u l=>match u,l with | [_,_],_=>rfl
 x__law_string:=FX.mk' X G (a:=66) (c:=65) (md:=md1) (by kernel_rfl) (by kernel_rfl) (by kernel_rfl) (by kernel_rfl) fun _ _ _ _ _ _ u l=>match u,l with | [_,_,_],_=>rfl
 x__law_begun:=FX.mk' X G (a:=33) (c:=32) (md:=md1) (by kernel_rfl) (by kernel_rfl) (by kernel_rfl) (by kernel_rfl) fun _ _ _ _ _ _ u l=>match u,l with | [_,_],_=>rfl
 x__law_real:=FX.mk' X G (a:=73) (c:=72) (md:=md1) (by kernel_rfl) (by kernel_rfl) (by kernel_rfl) (by kernel_rfl) fun _ _ _ _ _ _ u l=>match u,l with | [_,_,_],_=>rfl
 x__law_leads:=FX.mk' X G (a:=80) (c:=79) (md:=md1) (by kernel_rfl) (by kernel_rfl) (by kernel_rfl) (by kernel_rfl) fun _ _ _ _ _ _ u l=>match u,l with | [_,_,_,_],_=>rfl
 x__law_right:=FX.mk' X G (a:=85) (c:=84) (md:=md1) (by kernel_rfl) (by kernel_rfl) (by kernel_rfl) (by kernel_rfl) fun _ _ _ _ _ _ u l=>match u,l with | [_,_,_],_=>rfl
 x_law:=FX.mk' X G (a:=92) (c:=91) (md:=md1) (by kernel_rfl) (by kernel_rfl) (by kernel_rfl) (by kernel_rfl) fun _ _ _ _ _ _ u l=>match u,l with | [_],_=>rfl
 z_abs:=PySem.W.mg_none_of X G (by kernel_rfl)
 z_dict:=PySem.W.mg_none_of X G (by kernel_rfl)
 z_int:=PySem.W.mg_none_of X G (by kernel_rfl)
 z_isinstance:=PySem.W.mg_none_of X G (by kernel_rfl)
 z_len:=PySem.W.mg_none_of X G (by kernel_rfl)
 z_list:=PySem.W.mg_none_of X G (by kernel_rfl)
 z_max:=PySem.W.mg_none_of X G (by kernel_rfl)
 z_min:=PySem.W.mg_none_of X G (by kernel_rfl)
 z_range:=PySem.W.mg_none_of X G (by kernel_rfl)
 z_repr:=PySem.W.mg_none_of X G (by kernel_rfl)
 z_reversed:=PySem.W.mg_none_of X G (by kernel_rfl)
 z_tuple:=PySem.W.mg_none_of X G (by kernel_rfl)
theorem walkF(w:World)(mg:Str→Option Value)(fa:Addr)(h:Heap)(X:(Hd.Kf w.params).In h)(G:h.Ns mainGlobals mg) (hmg:mg "law"=some (.ref fa)) :
  ∃ fd:FuncData,(∀(s:Shared)(u:Value),BindsTo s fd ⟨[u],[]⟩ [("_law_script",u)])∧∀ base:Heap,(Hd.Kf w.params).In base→base.Ns mainGlobals mg→FnOk PySem.Challenge.pw_ringloads_k69_passages_between w (Hd.Kf w.params) mg base CX0 4 fa fd ["_law_script"] (spF (Hd.Kf w.params) 1 fs_law):=by
 have T:=tx X G
 have e:=hmg.symm.trans T.x_law.m
 cases e
 exact⟨_,fun s v=>.of_eq rfl,fun base _ _=>ok_law T⟩
theorem tabR(w:World):∀x∈L2.lamNames,PySem.W.tabIn (Hd.Kf w.params) x=none∨((PyProof.Rows.recsOf Hd.q).find? fun e=>e.name == x).isSome=true:=by
 intro x hx
 simp only[L2.lamNames,List.mem_cons,List.not_mem_nil,or_false]at hx
 rcases hx with rfl|rfl|rfl
 ·
  exact .inl (by kernel_rfl)
 ·
  exact .inl (by kernel_rfl)
 ·
  exact .inl (by kernel_rfl)
theorem walk{l:PySem.W.OpenLaw}{q:Program}{loose:List Str}{XP:(Str→Option Value)→Heap→Prop}{YP:World→Heap→Prop}{d:DefRec}{K:Params→PySem.W.Frag}(hn:l.most=some 63)(hq:PyProof.Rows.importsNone q=true)(hdf:d.params.defaults=[])
  (hY:∀(w:World)(h:Heap),YP w h→(K w.params).In h) (hto:∀w:World,L2.tabsOk (K w.params)=true) (hrc:∀(w:World),∀x∈L2.lamNames,PySem.W.tabIn (K w.params) x=none∨((PyProof.Rows.recsOf q).find? fun e=>e.name == x).isSome=true)
  (F:∀(w:World)(mg:Str→Option Value)(fa:Addr)(h:Heap),(K w.params).In h→h.Ns mainGlobals mg→mg d.name=some (.ref fa) →
   ∃ fd:FuncData,(∀(s:Shared)(u:Value),BindsTo s fd ⟨[u],[]⟩ [("_law_script",u)])∧∀ base:Heap,(K w.params).In base→base.Ns mainGlobals mg→FnOk l.prog w (K w.params) mg base CX0 4 fa fd ["_law_script"] (spF (K w.params) 1 fs_law)) :
  PySem.W.WalkO q loose XP YP l.row.toRowW d [] (fun f vs=>PySem.call f vs) :=
 L2.walk_of (n:=63) (k:=4) (x:="_law_script") (CX:=fun _=>CX0) (sp:=fun w=>spF (K w.params) 1 fs_law) hn hq (by decide) hdf ⟨rfl,by decide,by decide,rfl⟩ hY hto hrc F (fun _ H a ns hl hO hS=>law_start hl hO hS (law_holds hl)) fun _ _ _ _ _ z=>z
end My
open PySem PySem.W PyProof.Rows
abbrev PySem.W.Fast.tw13509153296275940163:PySem.Program:=PySem.Challenge.pw_ringloads_k69_passages_between
theorem PySem.W.Fast.te13509153296275940163:PySem.Challenge.pw_ringloads_k69_passages_between=PySem.W.Fast.tw13509153296275940163:=rfl
set_option maxRecDepth 100000 in
theorem PySem.Challenge.cw_ringloads_k69_passages_between_holds : PySem.Challenge.rw_ringloads_k69_passages_between.Holds := by
 w_on;o_law
 refine PySem.W.holds_open (q:=Hd.q) (loose:=Hd.loose) (Xt:=Hd.Xt) (XP:=XL Hd.q []) (Yf:=Hook.obs Hd.Hk) (Ya:=Hook.val Hd.Hk) (YP:=Hook.says Hd.Hk) (N:=_) Hd.left (Hook.of Hd.Hk) (Hook.keeps Hd.Hk) (fun s e=>xl_of s (Bool.and_eq_true_iff.mp e).1) XL.keeps (by rfl) (by rfl) (by rfl) (fun s e=>recFacts_of (Bool.and_eq_true_iff.mp e).2) (by rfl) (by assumption) (by decide +kernel) ⟨rfl,rfl,rfl,rfl,rfl,by decide +kernel⟩ ?hw ?hc
 case hw=>w_witness2
 case hc=>exact My.walk (l:=PySem.Challenge.rw_ringloads_k69_passages_between) (K:=Hd.Kf) rfl (by decide +kernel) rfl (fun w h Y=>PySem.W.kIn_of Y) (fun w=>by kernel_rfl) My.tabR My.walkF