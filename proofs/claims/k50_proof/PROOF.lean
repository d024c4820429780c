import PyProof.Rows.All
import Wide.All
import OpenK.AllK
import Wide.FinOn
import Lean
import PyProof.EqAt
import PyProof.EqKinds
import PyProof.TupleCall
import PyProof.ExcArgs
import KE.KIsAll
import PyProof.ExcInit
import PyProof.StationsW
import PyProof.NsDelKeeps
import PyProof.RulesAs
import PyProof.PassesOwn
import PyProof.ExcBaseAll.ValueError
import PyProof.InstStoreFacts
import PyProof.Rows.EqDataRows
import PyProof.ReprRoads
import PyProof.Rows.Range3
import PyProof.ConsumeWalk
import PyProof.FString5
import PyProof.ReprLen
import PyProof.Rows.TupAdd
import PyProof.Rows.RuleIs
import PyProof.ListNew
import KE.KRevIter
import PyProof.Rows.SeqMore2
import PyProof.ListRange
import KE.KEqDict
import PyProof.NeKinds
import PyProof.CallStr
import PySem.Challenge.RW_ringloads_k50_best_ways_told
set_option Elab.async false
set_option linter.all false
set_option maxRecDepth 100000
set_option maxHeartbeats 0
namespace L2
open PySem PySem.Spec PyProof.Rows
abbrev Key:=Sum Int Str
def Gx:Key→Value→Bool
 |.inl k,v=>Value.isInt k v
 |.inr x,v=>Value.isStrOf x v
def keyH(w:World):Key→Int
 |.inl k=>hashInt k
 |.inr x=>hashStr w x
theorem bA:∀{k:Key}{v:Value},Gx k v=true→(∃i t,k=Sum.inl i∧v=Value.int i t)∨(∃x t,k=Sum.inr x∧v=Value.str x t)
 | .inl i,v,h=>by
  obtain⟨t,e⟩:=Value.isInt_shape (k:=i) (v:=v) h
  exact .inl ⟨i,t,rfl,e⟩
 | .inr x,v,h=>by
  obtain⟨t,e⟩:=Value.isStrOf_shape (x:=x) (v:=v) h
  exact .inr ⟨x,t,rfl,e⟩
theorem Gy(a b:Int):decide ((Sum.inl a:Key)=Sum.inl b)=(a == b):=by
 by_cases e:a=b
 ·
  subst e;simp
 ·
  have h:¬(Sum.inl a:Key)=Sum.inl b:=fun q=>e (Sum.inl.inj q)
  rw[decide_eq_false h]
  exact(beq_eq_false_iff_ne.mpr e).symm
theorem Gz(a b:Str):decide ((Sum.inr a:Key)=Sum.inr b)=decide (a=b):=by
 by_cases e:a=b
 ·
  subst e;simp
 ·
  have h:¬(Sum.inr a:Key)=Sum.inr b:=fun q=>e (Sum.inr.inj q)
  rw[decide_eq_false h,decide_eq_false e]
theorem GA(a:Int)(b:Str):decide ((Sum.inl a:Key)=Sum.inr b)=false:=decide_eq_false (fun q=>nomatch q)
theorem GB(a:Str)(b:Int):decide ((Sum.inr a:Key)=Sum.inl b)=false:=decide_eq_false (fun q=>nomatch q)
def u9(prog:Program)(w:World):PySem.KeyKind prog w Key where
 is:=Gx
 hash:=keyH w
 inj:=fun v a b ha hb=>by
  rcases bA ha with⟨i,t,rfl,rfl⟩|⟨x,t,rfl,rfl⟩
  ·
   rcases bA hb with⟨j,u,rfl,e⟩|⟨y,u,rfl,e⟩
   ·
    injection e with e1 _;rw[e1]
   ·
    exact nomatch e
  ·
   rcases bA hb with⟨j,u,rfl,e⟩|⟨y,u,rfl,e⟩
   ·
    exact nomatch e
   ·
    injection e with e1 _;rw[e1]
 byValue:=fun k v h=>by
  rcases bA h with⟨i,t,rfl,rfl⟩|⟨x,t,rfl,rfl⟩<;>rfl
 pyHash:=fun hv h=>by
  rcases bA hv with⟨i,t,rfl,rfl⟩|⟨x,t,rfl,rfl⟩
  ·
   exact wpAny_pyHash_int h
  ·
   exact wpAny_pyHash_str h
 eqBool:=fun hu hv h=>by
  rcases bA hu with⟨i,t,rfl,rfl⟩|⟨x,t,rfl,rfl⟩
  ·
   rcases bA hv with⟨j,u,rfl,rfl⟩|⟨y,u,rfl,rfl⟩
   ·
    rw[Gy]at h;exact wpAny_eqBool_int h
   ·
    rw[GA]at h;exact SeqAt.EqAt.int_str i t y u _ _ _ _ h
  ·
   rcases bA hv with⟨j,u,rfl,rfl⟩|⟨y,u,rfl,rfl⟩
   ·
    rw[GB]at h;exact SeqAt.EqAt.str_int x t j u _ _ _ _ h
   ·
    rw[Gz]at h;exact wpAny_eqBool_str h
 «strs»:=fun k x t v h=>by
  rcases bA h with⟨i,u,rfl,e⟩|⟨y,u,rfl,e⟩
  ·
   exact nomatch e
  ·
   injection e with e1 _
   subst e1
   cases v<;>rfl
inductive V where
 |non|bl (b:Bool)|int (i:Int)|str (x:Str)|byt (b:Array UInt8)|flt (b:UInt64)|ref (a:Addr)|ty (n:String)
 deriving DecidableEq
def RelV:V→Value→Prop
 |.non,u=>u=Value.none
 |.bl b,u=>u=Value.bool b
 |.int i,u=>∃t,u=Value.int i t
 |.str x,u=>∃t,u=Value.str x t
 |.byt b,u=>∃t,u=Value.bytes b t
 |.flt b,u=>∃t,u=Value.float b t
 |.ref a,u=>u=Value.ref a
 |.ty n,u=>u=Value.type n
abbrev Vals:List V→List Value→Prop:=Paired RelV
theorem Vals.length{xs:List V}{us:List Value}(r:Vals xs us):xs.length=us.length:=Paired.length r
theorem Vals.get:∀{xs:List V}{us:List Value}{i:Nat}{x:V},Vals xs us→xs[i]?=some x→∃u,us[i]?=some u∧RelV x u
 |_,_,_,_,.nil,e=>by simp at e
 |_,_,0,_,.cons r _,e=>by simp at e;subst e;exact⟨_,rfl,r⟩
 | _,_,i+1,x,.cons _ t,e=>by
  obtain⟨u,h1,h2⟩:=Vals.get (i:=i) (x:=x) t (by simpa using e)
  exact⟨u,by simpa using h1,h2⟩
theorem Vals.set{x:V}{u:Value}(r:RelV x u):∀{xs:List V}{us:List Value}(i:Nat),Vals xs us→Vals (xs.set i x) (us.set i u)
 |_,_,_,.nil=>.nil
 |_,_,0,.cons _ t=>.cons r t
 |_,_,i+1,.cons q t=>.cons q (Vals.set r i t)
theorem Vals.append:∀{xs ys:List V}{us ws:List Value},Vals xs us→Vals ys ws→Vals (xs++ys) (us++ws)
 |_,_,_,_,.nil,s=>s
 |_,_,_,_,.cons r t,s=>.cons r (Vals.append t s)
theorem Vals.take:∀{xs:List V}{us:List Value}(n:Nat),Vals xs us→Vals (xs.take n) (us.take n)
 |_,_,0,_=>.nil
 |_,_,_+1,.nil=>.nil
 |_,_,n+1,.cons r t=>.cons r (Vals.take n t)
theorem Vals.drop:∀{xs:List V}{us:List Value}(n:Nat),Vals xs us→Vals (xs.drop n) (us.drop n)
 |_,_,0,r=>r
 |_,_,_+1,.nil=>.nil
 |_,_,n+1,.cons _ t=>Vals.drop n t
def RelO:Option V→Option Value→Prop
 |some v,some u=>RelV v u
 |none,none=>True
 |_,_=>False
def KV{κ:Type}:List (κ×V)→List (κ×Value)→Prop:=Paired fun (p:κ×V) (q:κ×Value)=>p.1=q.1∧RelV p.2 q.2
def kV:Key→V
 |.inl i=>.int i
 |.inr x=>.str x
inductive HO where
 |lst (xs:List V)
 |tup (xs:List V)
 |dK (kvs:List (Key×V))|dT (kvs:List (List Key×V))
 |set (S:Int→Bool) (n:Nat)
 |ins (C dx:Addr) (fs:List (Str×V))
 |own (x:Addr)
 |xd (fs:List (Str×V))
 |met (f x:Addr)
 |rng (lo hi:Int)
 |frz (o:Obj) (u:HO)
 |tbl (ps:Array Value)
 |ext (φ:Heap→Prop)
abbrev Hp:=Addr→Option HO
def upd(H:Hp)(a:Addr)(o:HO):Hp:=fun b=>if b=a then some o else H b
theorem bo{H:Hp}{a:Addr}{o:HO}:upd H a o a=some o:=by unfold upd;rw[if_pos rfl]
theorem aB{H:Hp}{a b:Addr}{o:HO}(h:b≠a):upd H a o b=H b:=by unfold upd;rw[if_neg h]
theorem cq{H:Hp}{a b:Addr}{o:HO}(h:H a=some o)(h':H b=none):a≠b:=by
 intro e;subst e;rw[h]at h';cases h'
section
variable(P:Program)(w:World)
def gM(H:Hp)(h:Heap)(a:Addr):HO→Prop
 |.lst xs=>xs.length≤sizeLine∧∃(its:List Value)(n:Nat),Vals xs its∧h.get? a=some {cls:=.type "list",data:=.seq its.toArray n}
 |.tup xs=>xs.length≤sizeLine∧∃its:List Value,Vals xs its∧IsTup h a its.toArray
 |.dK kvs=>kvs.length≤sizeLine∧(a == sysModules)=false∧∃vs,KV kvs vs∧h.DictOf (u9 P w) a vs
 | .dT kvs=>kvs.length≤sizeLine∧(a == sysModules)=false∧∃xs:List (List Key×Addr×Value),
   Paired (fun (p:List Key×V) (q:List Key×Addr×Value)=>p.1=q.1∧H q.2.1=some (.tup (p.1.map kV))∧RelV p.2 q.2.2) kvs xs ∧
   ∃o es ep,h.get? a=some o∧o.ExactDict∧o.data=.dict es ep∧es.toList=xs.map (entryOfKey (tupleKind (u9 P w)))∧(xs.map (·.1)).Nodup
 |.set S n=>h.SetOf (intKind P w) a S n
 | .ins C dx fs=>H dx=some (.own a)∧fs.length≤1000∧dx≠a∧h.get? a=some (PySem.W.instObj C dx) ∧
   ∃mA,h.Ns1 dx mA∧(∀f,RelO (fs.lookup f) (mA f))∧PySem.Within mA (fs.map (·.1))
 |.own _=>∃o,h.get? a=some o
 |.xd fs=>∃mA,h.Ns1 a mA∧∀f,RelO (fs.lookup f) (mA f)
 |.rng lo hi=>∃ t u v,h.get? a=some {cls:=.type "range",data:=.fields #[.int lo t,.int hi u,.int 1 v] }
 |.frz o u=>h.get? a=some o∧gM H h a u
 |.tbl ps=>h.get? a=some {cls:=.none,data:=.fields ps}
 |.met f x=>h.get? a=some (PySem.W.methodObj (.ref f) (.ref x))
 |.ext φ=>φ h∧(∃o,h.get? a=some o)∧∀h1 h2:Heap,φ h1→(∀o,h1.get? a=some o→h2.get? a=some o)→φ h2
def HOk(H:Hp)(h:Heap):Prop:=∀a o,H a=some o→gM P w H h a o
end
section
variable{P:Program}{w:World}{H H':Hp}{h h':Heap}{a:Addr}{o:HO}
theorem gM.lt(x:gM P w H h a o):a<h.objs.size:=by
 cases o with
 |lst xs=>obtain⟨_,_,_,_,e⟩:=x;exact Heap.lt_size e
 |tup xs=>obtain⟨_,_,_,p⟩:=x;exact p.lt
 |dK kvs=>obtain⟨_,_,_,_,o,_,_,e,_⟩:=x;exact Heap.lt_size e
 |dT kvs=>obtain⟨_,_,_,_,o,_,_,e,_⟩:=x;exact Heap.lt_size e
 |set S n=>obtain⟨o,_,_,_,e,_⟩:=x;exact Heap.lt_size e
 |ins C dx fs=>obtain⟨_,_,_,e,_⟩:=x;exact Heap.lt_size e
 |own y=>obtain⟨_,e⟩:=x;exact Heap.lt_size e
 |xd fs=>obtain⟨_,⟨_,_,_,e,_⟩,_⟩:=x;exact Heap.lt_size e
 |rng lo hi=>obtain⟨_,_,_,e⟩:=x;exact Heap.lt_size e
 |frz ob u=>obtain⟨e,_⟩:=x;exact Heap.lt_size e
 |tbl ps=>exact Heap.lt_size (show h.get? a=some _ from x)
 |met f y=>exact Heap.lt_size (show h.get? a=some _ from x)
 |ext φ=>obtain⟨_,⟨_,e⟩,_⟩:=x;exact Heap.lt_size e
theorem Paired.mapP{α β:Type}{F G:α→β→Prop}:∀{l₁:List α}{l₂:List β},Paired F l₁ l₂→(∀a b,F a b→G a b)→Paired G l₁ l₂
 |_,_,.nil,_=>.nil
 |_,_,.cons r t,f=>.cons (f _ _ r) (Paired.mapP t f)
theorem gM.stay(x:gM P w H h a o)(k:∀b u,(b=a∨H b=some (.own a))→h.get? b=some u→h'.get? b=some u)
  (ho:∀b,H b=some (.own a)→H' b=some (.own a)) (ht:∀b xs,H b=some (.tup xs)→H' b=some (.tup xs)):gM P w H' h' a o:=by
 induction o with
 |lst xs=>obtain⟨z,its,n,r,e⟩:=x;exact⟨z,its,n,r,k _ _ (.inl rfl) e⟩
 |tup xs=>obtain⟨z,its,r,ob,e,c⟩:=x;exact⟨z,its,r,ob,k _ _ (.inl rfl) e,c⟩
 |dK kvs=>obtain⟨z,y,vs,r,ob,es,ep,e,c⟩:=x;exact⟨z,y,vs,r,ob,es,ep,k _ _ (.inl rfl) e,c⟩
 | dT kvs =>
  obtain⟨z,y,xs,r,ob,es,ep,e,c⟩:=x
  exact⟨z,y,xs,Paired.mapP r fun p q z=>⟨z.1,ht _ _ z.2.1,z.2.2⟩,ob,es,ep,k _ _ (.inl rfl) e,c⟩
 |set S n=>obtain⟨ob,es,ep,t,e,c⟩:=x;exact⟨ob,es,ep,t,k _ _ (.inl rfl) e,c⟩
 | ins C dx fs =>
  obtain⟨d,z,ne,e,mA,⟨od,es,ep,e2,c⟩,r⟩:=x
  exact⟨ho _ d,z,ne,k _ _ (.inl rfl) e,mA,⟨od,es,ep,k _ _ (.inr d) e2,c⟩,r⟩
 |own y=>obtain⟨ob,e⟩:=x;exact⟨ob,k _ _ (.inl rfl) e⟩
 |xd fs=>obtain⟨mA,⟨od,es,ep,e,c⟩,r⟩:=x;exact⟨mA,⟨od,es,ep,k _ _ (.inl rfl) e,c⟩,r⟩
 |rng lo hi=>obtain⟨t,u,v,e⟩:=x;exact⟨t,u,v,k _ _ (.inl rfl) e⟩
 |frz ob u ih=>obtain⟨e,q⟩:=x;exact⟨k _ _ (.inl rfl) e,ih q⟩
 | tbl ps =>
  have e:h.get? a=some {cls:=.none,data:=.fields ps}:=x
  show h'.get? a=some {cls:=.none,data:=.fields ps}
  exact k a _ (.inl rfl) e
 | met f y =>
  have e:h.get? a=some (PySem.W.methodObj (.ref f) (.ref y)):=x
  show h'.get? a=some (PySem.W.methodObj (.ref f) (.ref y))
  exact k a _ (.inl rfl) e
 |ext φ=>obtain⟨p,⟨o,e⟩,st⟩:=x;exact⟨st _ _ p fun o q=>k _ _ (.inl rfl) q,⟨o,k _ _ (.inl rfl) e⟩,st⟩
theorem HOk.lt(x:HOk P w H h)(e:H a=some o):a<h.objs.size:=(x a o e).lt
theorem HOk.fresh(x:HOk P w H h)(e:h.objs.size≤a):H a=none:=by
 cases q:H a with
 |none=>rfl
 |some u=>exact absurd (Nat.lt_of_lt_of_le (x.lt q) e) (Nat.lt_irrefl _)
theorem HOk.kept(x:HOk P w H h)(k:∀b u,h.get? b=some u→h'.get? b=some u):HOk P w H h':=fun a o e =>
 (x a o e).stay (fun b u _ q=>k b u q) (fun _ q=>q) fun _ _ q=>q
theorem HOk.laid(x:HOk P w H h)(k:∀b u,h.get? b=some u→h'.get? b=some u)(hp:h.objs.size≤a)(new:gM P w (upd H a o) h' a o):HOk P w (upd H a o) h':=fun b u e=>by
 have hn:=x.fresh hp
 by_cases hb:b=a
 ·
  subst hb;rw[bo]at e;cases e;exact new
 ·
  rw[aB hb]at e
  exact(x b u e).stay (fun c v _ q=>k c v q) (fun c q=>by rw[aB (cq q hn)];exact q) fun c xs q=>by rw[aB (cq q hn)];exact q
end
def Rd(H:Hp)(a:Addr)(u:HO):Prop:=H a=some u∨∃o,H a=some (.frz o u)
theorem Rd.ok{P:Program}{w:World}{H:Hp}{h:Heap}{a:Addr}{u:HO}(r:Rd H a u)(x:HOk P w H h):gM P w H h a u:=by
 rcases r with r|⟨o,r⟩
 ·
  exact x a u r
 ·
  obtain⟨_,q⟩:=x a _ r
  exact q
def Mut:Option HO→Prop
 |some (.lst _)=>True
 |some (.dK _)=>True
 |some (.dT _)=>True
 |some (.set _ _)=>True
 |some (.ins _ _ _)=>True
 |some (.ext _)=>True
 |_=>False
section
variable{P:Program}{w:World}{H:Hp}{h h':Heap}{x e:Addr}{o':HO}
theorem HOk.write(ok:HOk P w H h)(mu:Mut (H x))(he:e=x∨H e=some (.own x))(k:∀b u,b≠e→h.get? b=some u→h'.get? b=some u)(heo:∃u,h'.get? e=some u)
  (new:gM P w (upd H x o') h' x o'):HOk P w (upd H x o') h':=fun b u q=>by
 have nown:∀c y,H c=some (.own y)→c≠x:=fun c y r z=>by subst z;rw[r]at mu;exact mu
 have ntup:∀c xs,H c=some (.tup xs)→c≠x:=fun c xs r z=>by subst z;rw[r]at mu;exact mu
 by_cases hb:b=x
 ·
  subst hb;rw[bo]at q;cases q;exact new
 ·
  rw[aB hb]at q
  by_cases hbe:b=e
  ·
   have q':H b=some (.own x):=by
    rcases he with z|z
    ·
     exact absurd (hbe.trans z) hb
    ·
     rw[hbe];exact z
   rw[q]at q';cases q'
   obtain⟨v,hv⟩:=heo
   exact⟨v,by rw[hbe];exact hv⟩
  ·
   refine(ok b u q).stay (fun c v hc r=>k c v ?_ r) (fun c r=>by rw[aB (nown c b r)];exact r) fun c xs r=>by rw[aB (ntup c xs r)];exact r
   rcases hc with rfl|hc
   ·
    exact hbe
   ·
    rintro rfl
    rcases he with z|z
    ·
     exact nown c b hc z
    ·
     rw[hc]at z;cases z;exact hb rfl
end
structure Un (fs ex:List Addr) (H H':Hp) (h h':Heap):Prop where
 keep:∀b o,h.get? b=some o→H b=none→b∉fs→b∉ex→h'.get? b=some o
 slot:∀b o,h.get? b=some o→H b=none→b∈fs→b∉ex→∃sl,h'.get? b=some {o with slots:=sl}
 free:∀b o,h.get? b=some o→H b=none→b∉ex→H' b=none
 there:∀b o,h.get? b=some o→b∉ex→∃o',h'.get? b=some o'
 tups:∀b xs,H b=some (.tup xs)→H' b=some (.tup xs)
 frzs:∀b o u,H b=some (.frz o u)→H' b=some (.frz o u)
 tbls:∀b ps,H b=some (.tbl ps)→∃more,H' b=some (.tbl (ps++more))
section
variable{fs ex:List Addr}{H H1:Hp}{h h1 h':Heap}{a x e:Addr}{o:HO}
theorem Un.any(u:Un fs ex H H1 h h1){b:Addr}{ob:Obj}(q:h.get? b=some ob)(n:H b=none)(hx:b∉ex):∃sl,h1.get? b=some {ob with slots:=sl}:=by
 by_cases hb:b∈fs
 ·
  exact u.slot b ob q n hb hx
 ·
  exact⟨ob.slots,u.keep b ob q n hb hx⟩
theorem Un.kept(k:∀b u,h.get? b=some u→h'.get? b=some u):Un fs ex H H h h' :=
 ⟨fun b ob q _ _ _=>k b ob q,fun b ob q _ _ _=>⟨ob.slots,k b ob q⟩,fun _ _ _ n _=>n,fun b ob q _=>⟨ob,k b ob q⟩,fun _ _ q=>q,fun _ _ _ q=>q,fun _ ps q=>⟨#[],by rw[q];simp⟩⟩
theorem Un.refl:Un fs ex H H h h:=Un.kept fun _ _ q=>q
theorem Un.laid(k:∀b u,h.get? b=some u→h'.get? b=some u)(hp:h.objs.size≤a)(hn:H a=none):Un fs ex H (upd H a o) h h' where
 keep:=fun b u q _ _ _=>k b u q
 slot:=fun b u q _ _ _=>⟨u.slots,k b u q⟩
 free:=fun b u q n _=>by rw[aB (Nat.ne_of_lt (Nat.lt_of_lt_of_le (Heap.lt_size q) hp))];exact n
 there:=fun b u q _=>⟨u,k b u q⟩
 tups:=fun b xs q=>by rw[aB (cq q hn)];exact q
 frzs:=fun b u xs q=>by rw[aB (cq q hn)];exact q
 tbls:=fun b ps q=>⟨#[],by rw[aB (cq q hn),q];simp⟩
theorem Un.write(mu:Mut (H x))(he:e=x∨H e=some (.own x))(k:∀b u,b≠e→h.get? b=some u→h'.get? b=some u)(heo:∃u,h'.get? e=some u):Un fs ex H (upd H x o) h h':=by
 have hx:∀b,H b=none→b≠x:=fun b n z=>by subst z;rw[n]at mu;exact mu
 have hb:∀b,H b=none→b≠e:=fun b n z=>by
  subst z
  rcases he with r|r
  ·
   exact hx b n r
  ·
   rw[n]at r;cases r
 have hm:∀b u,H b=some u→¬Mut (some u)→b≠x:=fun b u q nm z=>by subst z;rw[q]at mu;exact nm mu
 refine⟨fun b u q n _ _=>k b u (hb b n) q,fun b u q n _ _=>⟨u.slots,k b u (hb b n) q⟩,fun b u q n _=>by rw[aB (hx b n)];exact n,fun b u q _=>?_,
  fun b xs q=>by rw[aB (hm b _ q fun z=>z)];exact q,fun b u xs q=>by rw[aB (hm b _ q fun z=>z)];exact q,fun b ps q=>⟨#[],by rw[aB (hm b _ q fun z=>z),q];simp⟩⟩
 by_cases hbe:b=e
 ·
  subst hbe;exact heo
 ·
  exact⟨u,k b u hbe q⟩
end
def trk(h:Heap)(H:Hp):List Addr:=(List.range h.objs.size).filter fun a=>(H a).isSome
def hidT(h:Heap)(H:Hp):Heap:=PySem.W.hideAll h (trk h H)
theorem yU(h:Heap)(H:Hp):(hidT h H).objs.size=h.objs.size:=PySem.W.hideAll_size _ _
theorem BO{h:Heap}{H:Hp}{b:Addr}{o:Obj}(e:h.get? b=some o)(n:H b=none):(hidT h H).get? b=some o :=
 PySem.W.hideAll_get _ e fun hm=>by
  have q:(H b).isSome=true:=(List.mem_filter.mp hm).2
  rw[n]at q;simp at q
theorem Ec{h:Heap}{H:Hp}{b:Addr}{o:Obj}(e:(hidT h H).get? b=some o):h.get? b=some o∧H b=none:=by
 have e':h.get? b=some o:=PySem.W.of_hideAll (trk h H) e
 refine⟨e',?_⟩
 cases q:H b with
 |none=>rfl
 | some x =>
  have hm:b∈trk h H:=List.mem_filter.mpr ⟨List.mem_range.mpr (Heap.lt_size e'),by simp[q]⟩
  have z:(hidT h H).get? b=none:=PySem.W.hideAll_none (trk h H) hm
  rw[z]at e;cases e
def Ed(g h:Heap)(L:Addr):List (Addr×Obj):=(List.range h.objs.size).filterMap fun a=>if a=L∨(g.get? a).isSome=true then none else(h.get? a).map fun o=>(a,o)
def rest(g h:Heap)(L d:Addr):List (Addr×Obj):=(Ed g h L).filter fun p=>decide (p.1≠d)
structure Mod (K:PySem.W.Frag) (mg:Str→Option Value) (base:Heap):Prop where
 kin:K.In base
 glob:base.Ns mainGlobals mg
 blt:∃ mb,base.Ns builtinsNs mb∧∀ x:Str,x≠"__name__"→mb x=bootBuiltins x
 nolimit:base.NoLimit
 sysm:∃mm,base.Ns sysModules mm
/-- the context: a def's body (or a comprehension's Ee) running. base: fixed through the whole law;s₀,H₀: the entry;outer: the frames whose slots others may change (a def's callers);stack: all frames that run;
  ex: iterators that were made ahead of the entry and are walked here (a comprehension's);fn: the names whose cells were made at the entry (a def: all;a comprehension's Ee: its own);calm: not i8 an except suite;pn: pins that every state bears;xe: what is wanted of an exception that leaves the code -/
structure Cx where
 prog:Program
 w:World
 K:PySem.W.Frag
 mg:Str→Option Value
 base:Heap
 A:Around
 N:List Str
 s₀:Shared
 H₀:Hp
 env:Env
 outer:List Env
 stack:List Env
 ex:List Addr
 fn:Str→Bool
 calm:Bool
 pn:List (Addr×Obj)
 xe:Value→Shared→Prop
def frs(l:List Env):List Addr:=l.filterMap (·.frame)
abbrev Cx.fs(X:Cx):List Addr:=frs X.outer
def Vis(sc:Scope)(x:Str):Prop:=sc.names.lookup x=some .local∨sc.names.lookup x=some .cell∨sc.names.lookup x=some .free
def Loc(sc:Scope)(x:Str):Prop:=sc.names.lookup x=some .local∨sc.names.lookup x=some .cell
def Look(env:Env)(h:Heap)(m:Str→Option Value)(x:Str)(u:Value):Prop :=
 (env.kindOf x=some .local∧m x=some u)∨((env.kindOf x=some .cell∨env.kindOf x=some .free)∧∃c,env.cells.lookup x=some c∧h.IsCell c (some u))
structure Cx.Ok (X:Cx):Prop where
 mod:Mod X.K X.mg X.base
 kind:X.env.scope.kind=.function
 glob:X.env.globals=mainGlobals
 blt:X.env.builtins=builtinsNs
 above:X.s₀.heap.objs.size≤X.env.locals
 inj:∀x y c,X.env.cells.lookup x=some c→X.env.cells.lookup y=some c→x=y
 has:∀x,(X.env.kindOf x=some .cell∨X.env.kindOf x=some .free)→∃c,X.env.cells.lookup x=some c
 cab:∀x c,X.fn x=true→X.env.cells.lookup x=some c→X.s₀.heap.objs.size≤c
 hd:X.calm=true→X.A.handled=none
 frames:X.A.frames=some X.stack
 stk:X.stack=X.outer∨(X.stack=X.env::X.outer∧X.env.frame=some X.env.locals)
 exf:∀b∈X.ex,b≠X.env.locals∧∀x c,X.env.cells.lookup x=some c→c≠b
 bs:∀b o,X.base.get? b=some o→X.s₀.heap.get? b=some o∧X.H₀ b=none
 bsz:X.base.objs.size≤X.s₀.heap.objs.size
 noex:∀b o,X.base.get? b=some o→b∉X.ex
 exfs:∀b∈X.ex,b∉X.fs
 funs:X.s₀.heap.FunFrames X.base X.outer
 frf:∀b∈X.fs,X.H₀ b=none
structure Inv (X:Cx) (pins:List (Addr×Obj)) (σ:List (Option V)) (H:Hp) (s:Shared):Prop where
 ok:X.Ok
 os:s.os=X.s₀.os
 bare:AllBare s.gens
 base:Un X.fs X.ex X.H₀ H X.s₀.heap s.heap
 loc:∃m,s.heap.Ns X.env.locals m∧∀(i:Nat)(x:Str)(v:V),X.N[i]?=some x→σ[i]?=some (some v)→Vis X.env.scope x→∃u,RelV v u∧Look X.env s.heap m x u
 cell:∀x c,X.env.cells.lookup x=some c→∃v,s.heap.IsCell c v
 free:H X.env.locals=none
 freeC:∀x c,X.env.cells.lookup x=some c→H c=none
 pin:∀p∈X.pn++pins,s.heap.get? p.1=some p.2∧H p.1=none∧p.1≠X.env.locals∧p.1∉X.fs∧∀v,p.2.data≠.cell v
 hok:HOk X.prog X.w H s.heap
 len:σ.length=X.N.length
section
variable{X:Cx}{pins:List (Addr×Obj)}{σ:List (Option V)}{H H':Hp}{s:Shared}{h':Heap}
theorem Cx.Ok.nofr(ok:X.Ok){b:Addr}{o:Obj}(e:X.base.get? b=some o):b∉X.fs:=fun hb=>by
 have:=(ok.funs.mem hb).1
 rw[e]at this;cases this
theorem Inv.bs(I:Inv X pins σ H s):∀b o,X.base.get? b=some o→s.heap.get? b=some o∧H b=none:=fun b o e =>
 ⟨I.base.keep b o (I.ok.bs b o e).1 (I.ok.bs b o e).2 (I.ok.nofr e) (I.ok.noex b o e),I.base.free b o (I.ok.bs b o e).1 (I.ok.bs b o e).2 (I.ok.noex b o e)⟩
theorem Inv.bk(I:Inv X pins σ H s):∀b o,X.base.get? b=some o→s.heap.get? b=some o:=fun b o e=>(I.bs b o e).1
theorem Inv.mod(I:Inv X pins σ H s):Mod X.K X.mg X.base:=I.ok.mod
theorem Inv.kIn(I:Inv X pins σ H s):X.K.In s.heap:=I.ok.mod.kin.keeps I.bk
theorem Inv.lt(I:Inv X pins σ H s):X.env.locals<s.heap.objs.size:=let ⟨_,hn,_⟩:=I.loc;hn.lt
theorem Inv.sz(I:Inv X pins σ H s):X.s₀.heap.objs.size≤s.heap.objs.size:=Nat.le_trans I.ok.above (Nat.le_of_lt I.lt)
theorem Inv.nofs(I:Inv X pins σ H s){a:Addr}(h:s.heap.objs.size≤a):a∉X.fs:=fun hb=>by
 obtain⟨_,o,ho,_⟩:=I.ok.funs.mem hb
 exact absurd (Nat.lt_of_lt_of_le (Heap.lt_size ho) (Nat.le_trans I.sz h)) (Nat.lt_irrefl _)
theorem Inv.cne(I:Inv X pins σ H s):∀x c,X.env.cells.lookup x=some c→c≠X.env.locals:=fun x c e z=>by
 obtain⟨v,o,ho,hd⟩:=I.cell x c e
 obtain⟨m,⟨o',es,ep,ho',hd',_⟩,_⟩:=I.loc
 rw[z,ho']at ho;cases ho;rw[hd']at hd;cases hd
theorem Inv.funs(I:Inv X pins σ H s):s.heap.FunFrames X.base X.outer:=by
 have all:∀(l:List Env),(∀b∈frs l,b∈X.fs)→X.s₀.heap.FunFrames X.base l→s.heap.FunFrames X.base l:=by
  intro l
  induction l with
  |nil=>intro _ _;trivial
  | cons env r ih =>
   intro hs hl
   obtain⟨hk,⟨L,o,hf,hn,ho,hd⟩,hr⟩:=hl
   have hL:L∈X.fs:=hs L (by unfold frs;rw[List.filterMap_cons,hf];exact List.mem_cons_self)
   obtain⟨sl,e⟩:=I.base.slot L o ho (I.ok.frf L hL) hL fun z=>I.ok.exfs L z hL
   exact⟨hk,⟨L,_,hf,hn,e,hd⟩,ih (fun b hb=>hs b (by unfold frs;rw[List.filterMap_cons,hf];exact List.mem_cons_of_mem _ hb)) hr⟩
 exact all X.outer (fun _ hb=>hb) I.ok.funs
theorem Inv.stack(I:Inv X pins σ H s):s.heap.FunFrames X.base X.stack:=by
 rcases I.ok.stk with e|⟨e,hf⟩
 ·
  rw[e];exact I.funs
 ·
  rw[e]
  obtain⟨m,hn,_⟩:=I.loc
  refine .cons (by rw[I.ok.kind];decide) hf hn ?_ I.funs
  exact Heap.get?_none_of_le (Nat.le_trans I.ok.bsz I.ok.above)
theorem Inv.stkSub(I:Inv X pins σ H s):∀b∈frs X.stack,b∈X.env.locals::X.fs:=fun b hb=>by
 rcases I.ok.stk with e|⟨e,hf⟩
 ·
  rw[e]at hb;exact List.mem_cons_of_mem _ hb
 ·
  rw[e]at hb
  unfold frs at hb
  rw[List.filterMap_cons,hf]at hb
  exact hb
theorem Inv.stkFree(I:Inv X pins σ H s):∀b∈frs X.stack,H b=none:=fun b hb=>by
 rcases List.mem_cons.mp (I.stkSub b hb)with e|hb
 ·
  rw[e];exact I.free
 ·
  obtain⟨_,o,ho,_⟩:=I.ok.funs.mem hb
  exact I.base.free b o ho (I.ok.frf b hb) fun z=>I.ok.exfs b z hb
theorem Inv.step{g':Array GenState}{t':Nat}{d':Drawn}{ch:List Addr}(I:Inv X pins σ H s)
  (hch:∀b∈ch,(b∈X.ex∨X.s₀.heap.objs.size≤b)∧b≠X.env.locals∧(∀x c,X.env.cells.lookup x=some c→c≠b)∧∀p∈X.pn++pins,p.1≠b)
  (keep:∀b o,b≠X.env.locals→b∉X.fs→b∉ch→s.heap.get? b=some o→H b=none→h'.get? b=some o)
  (slot:∀b o,b≠X.env.locals→b∈X.fs→b∉ch→s.heap.get? b=some o→H b=none→∃sl,h'.get? b=some {o with slots:=sl}) (free:∀b o,b∉ch→s.heap.get? b=some o→H b=none→H' b=none)
  (there:∀b o,b∉ch→s.heap.get? b=some o→∃o',h'.get? b=some o')
  (tups:∀b xs,H b=some (.tup xs)→H' b=some (.tup xs)) (frzs:∀b o u,H b=some (.frz o u)→H' b=some (.frz o u)) (tbls:∀b ps,H b=some (.tbl ps)→∃more,H' b=some (.tbl (ps++more)))
  (ns:∀m,s.heap.Ns X.env.locals m→h'.Ns X.env.locals m) (hok:HOk X.prog X.w H' h') (hg:AllBare g') :
  Inv X pins σ H' {s with heap:=h',gens:=g',drawn:=d',toks:=t' }:=by
 have neL:∀b o,X.s₀.heap.get? b=some o→b≠X.env.locals:=fun b o e=>Nat.ne_of_lt (Nat.lt_of_lt_of_le (Heap.lt_size e) I.ok.above)
 have neC:∀b o,X.s₀.heap.get? b=some o→b∉X.ex→b∉ch:=fun b o e hx hb=>by
  rcases(hch b hb).1 with z|z
  ·
   exact hx z
  ·
   exact absurd (Nat.lt_of_lt_of_le (Heap.lt_size e) z) (Nat.lt_irrefl _)
 have cellK:∀x c,X.env.cells.lookup x=some c→∀v,s.heap.IsCell c v→h'.IsCell c v:=fun x c e v ⟨o,ho,hd⟩=>by
  have nch:c∉ch:=fun z=>(hch c z).2.2.1 x c e rfl
  by_cases hc:c∈X.fs
  ·
   obtain⟨sl,q⟩:=slot c o (I.cne x c e) hc nch ho (I.freeC x c e)
   exact⟨_,q,hd⟩
  ·
   exact⟨o,keep c o (I.cne x c e) hc nch ho (I.freeC x c e),hd⟩
 refine⟨I.ok,I.os,hg,⟨fun b o e n hb hx=>?_,fun b o e n hb hx=>?_,fun b o e n hx=>?_,fun b o e hx=>?_,fun b xs e=>tups b xs (I.base.tups b xs e),fun b o xs e=>frzs b o xs (I.base.frzs b o xs e),fun b ps e=>?_⟩,?_,fun x c e=>?_,?_,fun x c e=>?_,fun p hp=>?_,hok,I.len⟩
 ·
  exact keep b o (neL b o e) hb (neC b o e hx) (I.base.keep b o e n hb hx) (I.base.free b o e n hx)
 ·
  obtain⟨sl,e1⟩:=I.base.slot b o e n hb hx
  obtain⟨sl',e2⟩:=slot b _ (neL b o e) hb (neC b o e hx) e1 (I.base.free b o e n hx)
  exact⟨sl',e2⟩
 ·
  obtain⟨o',e1⟩:=I.base.there b o e hx
  exact free b o' (neC b o e hx) e1 (I.base.free b o e n hx)
 ·
  obtain⟨o',e1⟩:=I.base.there b o e hx
  exact there b o' (neC b o e hx) e1
 ·
  obtain⟨m1,e1⟩:=I.base.tbls b ps e
  obtain⟨m2,e2⟩:=tbls b _ e1
  exact⟨m1++m2,by rw[e2,Array.append_assoc]⟩
 ·
  obtain⟨m,hn,hl⟩:=I.loc
  refine⟨m,ns m hn,fun i x v e1 e2 e3=>?_⟩
  obtain⟨u,r,l⟩:=hl i x v e1 e2 e3
  refine⟨u,r,?_⟩
  rcases l with l|⟨k,c,e,z⟩
  ·
   exact .inl l
  ·
   exact .inr ⟨k,c,e,cellK x c e _ z⟩
 ·
  obtain⟨v,z⟩:=I.cell x c e
  exact⟨v,cellK x c e v z⟩
 ·
  obtain⟨m,⟨o,_,_,ho,_⟩,_⟩:=I.loc
  exact free _ o (fun z=>(hch _ z).2.1 rfl) ho I.free
 ·
  obtain⟨v,o,ho,hd⟩:=I.cell x c e
  exact free c o (fun z=>(hch c z).2.2.1 x c e rfl) ho (I.freeC x c e)
 ·
  obtain⟨e,n,ne,nf,d⟩:=I.pin p hp
  have nch:p.1∉ch:=fun z=>(hch p.1 z).2.2.2 p hp rfl
  exact⟨keep p.1 p.2 ne nf nch e n,free p.1 p.2 nch e n,ne,nf,d⟩
theorem Inv.un{t':Nat}(I:Inv X pins σ H s)(u:Un X.fs [] H H' s.heap h')(hok:HOk X.prog X.w H' h'):Inv X pins σ H' {s with heap:=h',toks:=t' }:=by
 obtain⟨m,⟨o,es,ep,ho,r⟩,_⟩:=id I.loc
 obtain⟨sl,hL⟩:=u.any ho I.free (by simp)
 exact I.step (g':=s.gens) (d':=s.drawn) (ch:=[]) (fun _ z=>nomatch z) (fun b o _ hb _ e n=>u.keep b o e n hb (by simp)) (fun b o _ hb _ e n=>u.slot b o e n hb (by simp)) (fun b o _ e n=>u.free b o e n (by simp)) (fun b o _ e=>u.there b o e (by simp)) u.tups u.frzs u.tbls (fun m' hm=>by
  obtain⟨o',es',ep',ho',r'⟩:=hm
  rw[ho]at ho';cases ho'
  exact⟨_,es',ep',hL,r'⟩) hok I.bare
theorem Inv.call{g':Array GenState}{t':Nat}{d':Drawn}{ch:List Addr}(I:Inv X pins σ H s)(u:Un (frs X.stack) ch H H' s.heap h')(hok:HOk X.prog X.w H' h')(hg:AllBare g')
  (hch:∀b∈ch,(b∈X.ex∨X.s₀.heap.objs.size≤b)∧b≠X.env.locals∧(∀x c,X.env.cells.lookup x=some c→c≠b)∧∀p∈X.pn++pins,p.1≠b) :
  Inv X pins σ H' {s with heap:=h',gens:=g',drawn:=d',toks:=t' }:=by
 obtain⟨m,⟨o,es,ep,ho,r⟩,_⟩:=id I.loc
 obtain⟨sl,hL⟩:=u.any ho I.free fun z=>(hch _ z).2.1 rfl
 exact I.step (ch:=ch) hch (fun b o hL hb hc e n=>u.keep b o e n (fun z=>(List.mem_cons.mp (I.stkSub b z)).elim hL hb) hc) (fun b o _ _ hc e n=>u.any e n hc) (fun b o hc e n=>u.free b o e n hc) (fun b o hc e=>u.there b o e hc) u.tups u.frzs u.tbls (fun m' hm=>by
  obtain⟨o',es',ep',ho',r'⟩:=hm
  rw[ho]at ho';cases ho'
  exact⟨_,es',ep',hL,r'⟩) hok hg
theorem Inv.turned{t':Nat}{it:Addr}(I:Inv X pins σ H s)(k:∀b o,b≠it→s.heap.get? b=some o→h'.get? b=some o)(hn:H it=none)(hL:it≠X.env.locals)
  (h1:it∈X.ex∨X.s₀.heap.objs.size≤it) (h2:∀x c,X.env.cells.lookup x=some c→c≠it) (h3:∀p∈X.pn++pins,p.1≠it):Inv X pins σ H {s with heap:=h',toks:=t' }:=by
 have nit:∀b u,H b=some u→b≠it:=fun b u e z=>by rw[z,hn]at e;cases e
 refine I.step (g':=s.gens) (d':=s.drawn) (ch:=[it]) (fun b hb=>?_) (fun b o _ _ hc e _=>k b o (fun z=>hc (by simp[z])) e) (fun b o _ _ hc e _=>⟨o.slots,k b o (fun z=>hc (by simp[z])) e⟩) (fun _ _ _ _ n=>n)
  (fun b o hc e=>⟨o,k b o (fun z=>hc (by simp[z])) e⟩) (fun _ _ e=>e) (fun _ _ _ e=>e) (fun b ps e=>⟨#[],by rw[e];simp⟩) (fun m hm=>?_) (fun b u e=>?_) I.bare
 ·
  have e:b=it:=by simpa using hb
  subst e
  exact⟨h1,hL,h2,h3⟩
 ·
  obtain⟨o,es,ep,ho,r⟩:=hm
  exact⟨o,es,ep,k _ o (Ne.symm hL) ho,r⟩
 ·
  refine(I.hok b u e).stay (fun c v hc q=>k c v ?_ q) (fun _ q=>q) fun _ _ q=>q
  rcases hc with z|z
  ·
   rw[z];exact nit b u e
  ·
   exact nit c _ z
theorem Inv.tok(I:Inv X pins σ H s)(t:Nat):Inv X pins σ H {s with toks:=t}:=I.un (h':=s.heap) (t':=t) Un.refl I.hok
theorem Inv.kept{t':Nat}(I:Inv X pins σ H s)(k:∀b u,s.heap.get? b=some u→h'.get? b=some u):Inv X pins σ H {s with heap:=h',toks:=t' }:=I.un (Un.kept k) (I.hok.kept k)
theorem Inv.laid{a:Addr}{o:HO}{t':Nat}(I:Inv X pins σ H s)(k:∀b u,s.heap.get? b=some u→h'.get? b=some u)(hp:s.heap.objs.size≤a)(new:gM X.prog X.w (upd H a o) h' a o) :
  Inv X pins σ (upd H a o) {s with heap:=h',toks:=t' }:=I.un (Un.laid k hp (I.hok.fresh hp)) (I.hok.laid k hp new)
theorem Inv.write{x e:Addr}{o:HO}{t':Nat}(I:Inv X pins σ H s)(mu:Mut (H x))(he:e=x∨H e=some (.own x))(k:∀b u,b≠e→s.heap.get? b=some u→h'.get? b=some u)(heo:∃u,h'.get? e=some u)
  (new:gM X.prog X.w (upd H x o) h' x o):Inv X pins σ (upd H x o) {s with heap:=h',toks:=t' }:=I.un (Un.write mu he k heo) (I.hok.write mu he k heo new)
theorem Inv.pins_of{pins':List (Addr×Obj)}(I:Inv X pins σ H s)(h:∀p∈pins',s.heap.get? p.1=some p.2∧H p.1=none∧p.1≠X.env.locals∧p.1∉X.fs∧∀v,p.2.data≠.cell v):Inv X pins' σ H s :=
 ⟨I.ok,I.os,I.bare,I.base,I.loc,I.cell,I.free,I.freeC,fun p hp=>(List.mem_append.mp hp).elim (fun z=>I.pin p (List.mem_append_left _ z)) (h p),I.hok,I.len⟩
theorem wH{N:List Str}(hN:N.Nodup){i j:Nat}{x:Str}(a:N[i]?=some x)(b:N[j]?=some x):i=j:=by
 obtain⟨h1,e1⟩:=List.getElem?_eq_some_iff.mp a
 obtain⟨h2,e2⟩:=List.getElem?_eq_some_iff.mp b
 exact(List.getElem_inj hN).mp (e1.trans e2.symm)
theorem sY{M:Model}{A:Around}{E:Value→Shared→Prop}{i:Nat}{x:Str}{v:V}{u:Value}{Q:Unit→Shared→Prop}(I:Inv X pins σ H s)(hN:X.N.Nodup)(hi:X.N[i]?=some x)(hx:Loc X.env.scope x)(r:RelV v u)
  (h:∀s',Inv X pins (σ.set i (some v)) H s'→(∃a,Heap.SameBut a s.heap s'.heap∧(a=X.env.locals∨X.env.cells.lookup x=some a))→Q () s') (hf:X.fn x=true∨X.env.scope.names.lookup x=some .local:=by first|exact .inl rfl|exact .inr rfl|assumption):wpAny M A (storeName X.env x u) Q E s:=by
 obtain⟨m,hn,hl⟩:=id I.loc
 have hcls:(X.env.scope.kind == .class ||(X.env.scope.kind == .module && X.env.locals != X.env.globals))=false:=by rw[I.ok.kind];rfl
 have hiσ:i<σ.length:=by rw[I.len];exact(List.getElem?_eq_some_iff.mp hi).1
 have cne:=I.cne
 have tracked:∀{a:Addr}{h':Heap},(∃o,s.heap.get? a=some o∧H a=none)→Heap.SameBut a s.heap h'→HOk X.prog X.w H h':=fun {a h'} ha hs b ob e=>by
  obtain⟨_,_,hfree⟩:=ha
  refine(I.hok b ob e).stay (fun c w' hc q=>(hs.2 c ?_).trans q) (fun _ q=>q) fun _ _ q=>q
  rintro rfl
  rcases hc with rfl|hc
  ·
   rw[hfree]at e;cases e
  ·
   rw[hfree]at hc;cases hc
 rcases hx with hk|hk
 ·
  refine wpAny_storeName_local hk hn (fun h' hn' hs=>?_) hcls
  obtain⟨oL,_,_,hoL,_⟩:=id hn
  refine h _ ⟨I.ok,I.os,I.bare,⟨fun b o e n hb hx=>?_,fun b o e n hb hx=>?_,I.base.free,fun b o e hx=>?_,I.base.tups,I.base.frzs,I.base.tbls⟩,⟨_,hn',fun j y v' e1 e2 e3=>?_⟩,fun y c e=>?_,I.free,I.freeC,fun p hp=>?_,tracked ⟨oL,hoL,I.free⟩ hs,by simpa using I.len⟩ ⟨_,hs,.inl rfl⟩
  ·
   exact(hs.2 b (Nat.ne_of_lt (Nat.lt_of_lt_of_le (Heap.lt_size e) I.ok.above))).trans (I.base.keep b o e n hb hx)
  ·
   obtain⟨sl,e1⟩:=I.base.slot b o e n hb hx
   exact⟨sl,(hs.2 b (Nat.ne_of_lt (Nat.lt_of_lt_of_le (Heap.lt_size e) I.ok.above))).trans e1⟩
  ·
   obtain⟨o',e1⟩:=I.base.there b o e hx
   exact⟨o',(hs.2 b (Nat.ne_of_lt (Nat.lt_of_lt_of_le (Heap.lt_size e) I.ok.above))).trans e1⟩
  ·
   by_cases hj:j=i
   ·
    subst hj
    rw[hi]at e1;cases e1
    rw[List.getElem?_set_self hiσ]at e2
    cases e2
    exact⟨u,r,.inl ⟨hk,by simp⟩⟩
   ·
    rw[List.getElem?_set_ne (Ne.symm hj)]at e2
    obtain⟨u',r',q⟩:=hl j y v' e1 e2 e3
    refine⟨u',r',?_⟩
    rcases q with⟨k,e⟩|⟨k,c,e,z⟩
    ·
     refine .inl ⟨k,?_⟩
     have:y≠x:=fun e=>hj (wH hN e1 (e ▸ hi))
     simp[this,e]
    ·
     exact .inr ⟨k,c,e,z.sameBut hs (cne y c e)⟩
  ·
   obtain⟨w',z⟩:=I.cell y c e
   exact⟨w',z.sameBut hs (cne y c e)⟩
  ·
   obtain⟨e,n,ne,nf,d⟩:=I.pin p hp
   exact⟨(hs.2 p.1 ne).trans e,n,ne,nf,d⟩
 ·
  have hfn:X.fn x=true:=by
   rcases hf with z|z
   ·
    exact z
   ·
    rw[z]at hk;cases hk
  obtain⟨c,hc⟩:=I.ok.has x (.inl hk)
  obtain⟨w',z⟩:=I.cell x c hc
  refine wpAny_storeName_cell I.ok.kind hk hc z (fun h' hc' hs=>?_)
  obtain⟨oc,hoc,hocd⟩:=id z
  refine h {s with heap:=h' } ⟨I.ok,I.os,I.bare,⟨fun b o e n hb hx=>?_,fun b o e n hb hx=>?_,I.base.free,fun b o e hx=>?_,I.base.tups,I.base.frzs,I.base.tbls⟩,⟨m,hn.sameBut hs (Ne.symm (cne x c hc)),fun j y v' e1 e2 e3=>?_⟩,fun y c' e=>?_,I.free,I.freeC,fun p hp=>?_,tracked ⟨oc,hoc,I.freeC x c hc⟩ hs,by simpa using I.len⟩ ⟨c,hs,.inr hc⟩
  ·
   exact(hs.2 b (Nat.ne_of_lt (Nat.lt_of_lt_of_le (Heap.lt_size e) (I.ok.cab x c hfn hc)))).trans (I.base.keep b o e n hb hx)
  ·
   obtain⟨sl,e1⟩:=I.base.slot b o e n hb hx
   exact⟨sl,(hs.2 b (Nat.ne_of_lt (Nat.lt_of_lt_of_le (Heap.lt_size e) (I.ok.cab x c hfn hc)))).trans e1⟩
  ·
   obtain⟨o',e1⟩:=I.base.there b o e hx
   exact⟨o',(hs.2 b (Nat.ne_of_lt (Nat.lt_of_lt_of_le (Heap.lt_size e) (I.ok.cab x c hfn hc)))).trans e1⟩
  ·
   by_cases hj:j=i
   ·
    subst hj
    rw[hi]at e1;cases e1
    rw[List.getElem?_set_self hiσ]at e2
    cases e2
    exact⟨u,r,.inr ⟨.inl hk,c,hc,hc'⟩⟩
   ·
    rw[List.getElem?_set_ne (Ne.symm hj)]at e2
    obtain⟨u',r',q⟩:=hl j y v' e1 e2 e3
    refine⟨u',r',?_⟩
    rcases q with q|⟨k,c',e,z'⟩
    ·
     exact .inl q
    ·
     refine .inr ⟨k,c',e,z'.sameBut hs ?_⟩
     rintro rfl
     exact hj (wH hN e1 (I.ok.inj _ _ _ e hc ▸ hi))
  ·
   by_cases hcc:c'=c
   ·
    subst hcc;exact⟨_,hc'⟩
   ·
    obtain⟨w2,z2⟩:=I.cell y c' e
    exact⟨w2,z2.sameBut hs hcc⟩
  ·
   obtain⟨e,n,ne,nf,d⟩:=I.pin p hp
   refine⟨(hs.2 p.1 ?_).trans e,n,ne,nf,d⟩
   intro q
   rw[q,hoc]at e
   have q':oc=p.2:=Option.some.inj e
   exact d w' (by rw[← q'];exact hocd)
theorem kj{M:Model}{A:Around}{E:Value→Shared→Prop}{i:Nat}{x:Str}{v:V}{u:Value}{Q:Unit→Shared→Prop}(I:Inv X pins σ H s)(hN:X.N.Nodup)(hi:X.N[i]?=some x)(hx:Loc X.env.scope x)(r:RelV v u)
  (h:∀s',Inv X pins (σ.set i (some v)) H s'→Q () s') (hf:X.fn x=true∨X.env.scope.names.lookup x=some .local:=by first|exact .inl rfl|exact .inr rfl|assumption):wpAny M A (storeName X.env x u) Q E s :=
 sY I hN hi hx r (fun s' I' _=>h s' I') hf
theorem Inv.call'{s':Shared}{ch:List Addr}(I:Inv X pins σ H s)(ho:s'.os=s.os)(u:Un (frs X.stack) ch H H' s.heap s'.heap)(hok:HOk X.prog X.w H' s'.heap)(hg:AllBare s'.gens)
  (hch:∀b∈ch,(b∈X.ex∨X.s₀.heap.objs.size≤b)∧b≠X.env.locals∧(∀x c,X.env.cells.lookup x=some c→c≠b)∧∀p∈X.pn++pins,p.1≠b):Inv X pins σ H' s':=by
 obtain⟨h',g',d',t',o'⟩:=s'
 have e:o'=s.os:=ho
 subst e
 exact I.call (g':=g') (t':=t') (d':=d') u hok hg hch
end
abbrev XK:=Value→Option Addr→Hp→Prop
abbrev St:=List (Option V)
abbrev VK:=V→Hp→Prop
abbrev TE:=St→Hp→VK→Prop
abbrev TT:=St→Hp→(Bool→Hp→Prop)→Prop
abbrev TA:=St→Hp→(List V→Hp→Prop)→Prop
structure Ends where
 nx:St→Hp→Prop
 rt:VK
 bk:St→Hp→Prop:=fun _ _=>False
 ct:St→Hp→Prop:=fun _ _=>False
abbrev TS:=Ends→St→Hp→Prop
def EP(X:Cx)(pins:List (Addr×Obj))(σ:St)(Q:VK)(u:Value)(s':Shared):Prop:=∃v H',Inv X pins σ H' s'∧RelV v u∧Q v H'
def TP(X:Cx)(pins:List (Addr×Obj))(σ:St)(Q:Bool→Hp→Prop)(b:Bool)(s':Shared):Prop:=∃H',Inv X pins σ H' s'∧Q b H'
def AP(X:Cx)(pins:List (Addr×Obj))(σ:St)(Q:List V→Hp→Prop)(us:List Value)(s':Shared):Prop:=∃vs H',Inv X pins σ H' s'∧Vals vs us∧Q vs H'
def SP(X:Cx)(pins:List (Addr×Obj))(D:Ends)(f:Flow)(s':Shared):Prop :=
 match f with
 |.next=>∃σ' H',Inv X pins σ' H' s'∧D.nx σ' H'
 |.brk=>∃σ' H',Inv X pins σ' H' s'∧D.bk σ' H'
 |.cont=>∃σ' H',Inv X pins σ' H' s'∧D.ct σ' H'
 |.ret u=>∃v σ' H',Inv X pins σ' H' s'∧RelV v u∧D.rt v H'
def PE(X:Cx)(e:Expr)(t:TE):Prop :=
 ∀(pins:List (Addr×Obj))(s:Shared)(σ:St)(H:Hp)(Q:VK),Inv X pins σ H s→t σ H Q→wpAny (model X.prog X.w) X.A (eval e X.env) (EP X pins σ Q) X.xe s
def PT(X:Cx)(e:Expr)(t:TT):Prop :=
 ∀(pins:List (Addr×Obj))(s:Shared)(σ:St)(H:Hp)(Q:Bool→Hp→Prop),Inv X pins σ H s→t σ H Q→wpAny (model X.prog X.w) X.A (isTrue e X.env (eval e X.env)) (TP X pins σ Q) X.xe s
def PA(X:Cx)(es:List Expr)(t:TA):Prop :=
 ∀(pos:Pos)(pins:List (Addr×Obj))(s:Shared)(σ:St)(H:Hp)(Q:List V→Hp→Prop),Inv X pins σ H s→t σ H Q→wpAny (model X.prog X.w) X.A (spliced (backTo pos (starEach es X.env))) (AP X pins σ Q) X.xe s
def PS(X:Cx)(st:Stmt)(t:TS):Prop :=
 ∀(pins:List (Addr×Obj))(s:Shared)(σ:St)(H:Hp)(D:Ends),Inv X pins σ H s→t D σ H→wpAny (model X.prog X.w) X.A (exec st X.env) (SP X pins D) X.xe s
def PSs(X:Cx)(st:List Stmt)(t:TS):Prop :=
 ∀(pins:List (Addr×Obj))(s:Shared)(σ:St)(H:Hp)(D:Ends),Inv X pins σ H s→t D σ H→wpAny (model X.prog X.w) X.A (execs st X.env) (SP X pins D) X.xe s
theorem thn{α:Type}{t:Sem α}{Q Q':α→Shared→Prop}{M:Model}{A:Around}{E:Value→Shared→Prop}{s:Shared}(h:wpAny M A t Q E s)(hQ:∀a s,Q a s→Q' a s):wpAny M A t Q' E s:=wpAny_mono h hQ fun _ _ x=>x
section
variable{X:Cx}
theorem bin{a b:Expr}{ta tb:TE}(ha:PE X a ta)(hb:PE X b tb){pins:List (Addr×Obj)}{s:Shared}{σ:St}{H:Hp}{R:V→V→Hp→Prop}(I:Inv X pins σ H s)(h:ta σ H fun x H1=>tb σ H1 fun y H2=>R x y H2)
  {α:Type} {Q:α→Shared→Prop} {f:Value→Value→Sem α}
  (hf:∀v u s2 x y H2,Inv X pins σ H2 s2→RelV x v→RelV y u→R x y H2→wpAny (model X.prog X.w) X.A (f v u) Q X.xe s2) :
  wpAny (model X.prog X.w) X.A (eval a X.env) (fun v s₁=>wpAny (model X.prog X.w) X.A (eval b X.env) (fun u s₂=>wpAny (model X.prog X.w) X.A (f v u) Q X.xe s₂) X.xe s₁) X.xe s:=by
 refine thn (ha pins s σ H _ I h) fun v s1 ⟨x,H1,I1,r1,q1⟩=>?_
 refine thn (hb pins s1 σ H1 _ I1 q1) fun u s2 ⟨y,H2,I2,r2,q2⟩=>?_
 exact hf v u s2 x y H2 I2 r1 r2 q2
def tVar(i:Nat):TE:=fun σ H Q=>∃v,σ[i]?=some (some v)∧Q v H
def tC(v:V):TE:=fun _ H Q=>Q v H
theorem cN{i:Nat}{x:Str}{pos:Pos}(hN:X.N[i]?=some x)(hv:Vis X.env.scope x) (hd:(x == ("__debug__" : Str))=false:=by decide) (hcd:(x == ("__classdict__" : Str))=false:=by decide):PE X (.Name x pos) (tVar i):=by
 intro pins s σ H Q I h
 obtain⟨v,e,h⟩:=h
 obtain⟨m,hn,hl⟩:=I.loc
 obtain⟨u,r,l⟩:=hl i x v hN e hv
 have fin:EP X pins σ Q u s:=⟨v,H,I,r,h⟩
 rcases l with⟨hk,hm⟩|⟨hk,c,hc,hcell⟩
 ·
  exact wpAny_Name (wpAny_loadName_local I.ok.kind hk hn hm fin) hd
 ·
  rcases hk with hk|hk
  ·
   exact wpAny_Name (wpAny_loadName_cell I.ok.kind hk hc hcell fin) hd
  ·
   exact wpAny_Name (wpAny_loadName_free I.ok.kind hk hc hcell fin hcd) hd
theorem DK {i j pos}:PE X (.Constant (.int i) j pos) (tC (.int i)):=fun _ _ _ H _ I h=>wpAny_Constant_int ⟨.int i,H,I.tok _,⟨_,rfl⟩,h⟩
theorem Iu {b j pos}:PE X (.Constant (.bool b) j pos) (tC (.bl b)):=fun _ _ _ H _ I h=>Constant_bool ⟨.bl b,H,I,rfl,h⟩
theorem GC {j pos}:PE X (.Constant .none j pos) (tC .non):=fun _ _ _ H _ I h=>Constant_none ⟨.non,H,I,rfl,h⟩
theorem DL {x j pos}:PE X (.Constant (.str x) j pos) (tC (.str x)):=fun _ _ _ H _ I h=>Calls.Constant_str ⟨.str x,H,I.tok _,⟨_,rfl⟩,h⟩
def Gl(X:Cx)(x:Str):Prop:=X.env.kindOf x=some .globalImplicit
theorem va{E:Value→Shared→Prop}{pins:List (Addr×Obj)}{s:Shared}{σ:St}{H:Hp}{x:Str}{u:Value}{pos:Pos}{Q:Value→Shared→Prop}(I:Inv X pins σ H s)(hg:Gl X x)(hm:X.mg x=some u)(h:Q u s)
  (hd:(x == ("__debug__" : Str))=false:=by decide):wpAny (model X.prog X.w) X.A (eval (.Name x pos) X.env) Q E s :=
 Calls.Name_function_global I.ok.kind hg (Calls.loadGlobal_global (by rw[I.ok.glob];exact I.mod.glob.keeps I.bk) hm h) hd
theorem gH{E:Value→Shared→Prop}{pins:List (Addr×Obj)}{s:Shared}{σ:St}{H:Hp}{x:Str}{u:Value}{pos:Pos}{Q:Value→Shared→Prop}(I:Inv X pins σ H s)(hg:Gl X x)(hm:X.mg x=none)(hv:bootBuiltins x=some u)(h:Q u s)
  (hn:x≠"__name__":=by decide) (hd:(x == ("__debug__" : Str))=false:=by decide):wpAny (model X.prog X.w) X.A (eval (.Name x pos) X.env) Q E s:=by
 obtain⟨mb,h1,h2⟩:=I.mod.blt
 exact Calls.Name_function_global I.ok.kind hg (Calls.loadGlobal_builtin (by rw[I.ok.glob];exact I.mod.glob.keeps I.bk) hm (by rw[I.ok.blt];exact h1.keeps I.bk) ((h2 x hn).trans hv) h) hd
theorem Ef{x:Str}{v:V}{u:Value}{pos:Pos}(hg:Gl X x)(hm:X.mg x=some u)(r:RelV v u) (hd:(x == ("__debug__" : Str))=false:=by decide):PE X (.Name x pos) (tC v) :=
 fun _ _ _ H _ I h=>va I hg hm ⟨v,H,I,r,h⟩ hd
theorem Eg{x:Str}{v:V}{u:Value}{pos:Pos}(hg:Gl X x)(hm:X.mg x=none)(hv:bootBuiltins x=some u)(r:RelV v u) (hn:x≠"__name__":=by decide) (hd:(x == ("__debug__" : Str))=false:=by decide):PE X (.Name x pos) (tC v) :=
 fun _ _ _ H _ I h=>gH I hg hm hv ⟨v,H,I,r,h⟩ hn hd
variable{a b:Expr}{ta tb:TE}{pos:Pos}
def tB(t:TE):TT:=fun σ H Q=>t σ H fun x H1=>∃c,x=.bl c∧Q c H1
end
def SqL(K:PySem.W.Frag)(H:Hp)(a:Addr)(xs:List V):Prop :=
 Rd H a (.lst xs) ∨
  ∃(o:Obj)(its:Array Value)(n:Nat),K.lookup a=some o∧o.cls=.type "list"∧o.dict=none∧o.data=.seq its n∧its.size≤sizeLine∧Vals xs its.toList
def SqT(K:PySem.W.Frag)(H:Hp)(a:Addr)(xs:List V):Prop :=
 Rd H a (.tup xs) ∨
  ∃(o:Obj)(its:Array Value)(n:Nat),K.lookup a=some o∧o.cls=.type "tuple"∧o.data=.seq its n∧its.size≤sizeLine∧Vals xs its.toList
def absV:Value→Option V
 |.none=>some .non
 |.bool b=>some (.bl b)
 |.int i _=>some (.int i)
 |.str x _=>some (.str x)
 |.bytes b _=>some (.byt b)
 |.float b _=>some (.flt b)
 |.ref a=>some (.ref a)
 |.type n=>some (.ty n)
 |_=>none
theorem RelV.abs{x:V}{u:Value}(r:RelV x u):absV u=some x:=by
 cases x with
 |non=>cases r;rfl
 |bl _=>cases r;rfl
 |int _=>obtain⟨t,rfl⟩:=r;rfl
 |str _=>obtain⟨t,rfl⟩:=r;rfl
 |byt _=>obtain⟨t,rfl⟩:=r;rfl
 |flt _=>obtain⟨t,rfl⟩:=r;rfl
 |ref _=>cases r;rfl
 |ty _=>cases r;rfl
theorem RelV.inj{x y:V}{u:Value}(r:RelV x u)(q:RelV y u):x=y:=Option.some.inj (r.abs.symm.trans q.abs)
theorem Vals.inj:∀{xs ys:List V}{us:List Value},Vals xs us→Vals ys us→xs=ys
 |_,_,_,.nil,.nil=>rfl
 |_,_,_,.cons r t,.cons r' t'=>by rw[r.inj r',Vals.inj t t']
section
variable{X:Cx}{pins:List (Addr×Obj)}{σ:St}{H:Hp}{s:Shared}{a:Addr}{xs ys:List V}
theorem SqL.of{K:PySem.W.Frag}(h:H a=some (.lst xs)):SqL K H a xs:=.inl (.inl h)
theorem SqT.of{K:PySem.W.Frag}(h:H a=some (.tup xs)):SqT K H a xs:=.inl (.inl h)
theorem Inv.list(I:Inv X pins σ H s)(h:SqL X.K H a xs):∃its:List Value,Vals xs its∧PlainL s.heap a its.toArray∧xs.length≤sizeLine:=by
 rcases h with h|⟨o,its,n,hk,hc,hd,hs,hz,r⟩
 ·
  obtain⟨z,its,n,r,e⟩:=h.ok I.hok
  exact⟨its,r,⟨_,n,e,rfl,rfl,rfl⟩,z⟩
 ·
  refine⟨its.toList,r,⟨o,n,I.kIn a o hk,hc,hd,by simpa using hs⟩,?_⟩
  have e:=r.length
  simp only[Array.length_toList]at e
  omega
theorem Inv.tuple(I:Inv X pins σ H s)(h:SqT X.K H a xs):∃its:List Value,Vals xs its∧IsTup s.heap a its.toArray∧xs.length≤sizeLine:=by
 rcases h with h|⟨o,its,n,hk,hc,hs,hz,r⟩
 ·
  obtain⟨z,its,r,p⟩:=h.ok I.hok
  exact⟨its,r,p,z⟩
 ·
  refine⟨its.toList,r,⟨o,I.kIn a o hk,hc,n,by simpa using hs⟩,?_⟩
  have e:=r.length
  simp only[Array.length_toList]at e
  omega
theorem Inv.list_inj(I:Inv X pins σ H s)(h:SqL X.K H a xs)(h':SqL X.K H a ys):xs=ys:=by
 obtain⟨its,r,⟨o,n,e,_,_,d⟩,_⟩:=I.list h
 obtain⟨its',r',⟨o',n',e',_,_,d'⟩,_⟩:=I.list h'
 rw[e]at e';cases e'
 rw[d]at d'
 injection d' with d1 _
 have:its=its':=by simpa using congrArg Array.toList d1
 subst this
 exact r.inj r'
theorem Inv.tuple_inj(I:Inv X pins σ H s)(h:SqT X.K H a xs)(h':SqT X.K H a ys):xs=ys:=by
 obtain⟨its,r,⟨o,e,_,n,d⟩,_⟩:=I.tuple h
 obtain⟨its',r',⟨o',e',_,n',d'⟩,_⟩:=I.tuple h'
 rw[e]at e';cases e'
 rw[d]at d'
 injection d' with d1 _
 have:its=its':=by simpa using congrArg Array.toList d1
 subst this
 exact r.inj r'
end
abbrev Cx.wish(X:Cx)(E:Value→Shared→Prop):Cx:={X with xe:=E}
abbrev Cx.nox(X:Cx):Cx:=X.wish fun _ _=>False
theorem Cx.Ok.wish{X:Cx}(ok:X.Ok)(E:Value→Shared→Prop):(X.wish E).Ok :=
 ⟨ok.mod,ok.kind,ok.glob,ok.blt,ok.above,ok.inj,ok.has,ok.cab,ok.hd,ok.frames,ok.stk,ok.exf,ok.bs,ok.bsz,ok.noex,ok.exfs,ok.funs,ok.frf⟩
theorem Cx.Ok.unwish{X:Cx}{E:Value→Shared→Prop}(ok:(X.wish E).Ok):X.Ok :=
 ⟨ok.mod,ok.kind,ok.glob,ok.blt,ok.above,ok.inj,ok.has,ok.cab,ok.hd,ok.frames,ok.stk,ok.exf,ok.bs,ok.bsz,ok.noex,ok.exfs,ok.funs,ok.frf⟩
section
variable{X:Cx}{pins:List (Addr×Obj)}{σ:St}{H:Hp}{s:Shared}{E:Value→Shared→Prop}
theorem Inv.wish(I:Inv X pins σ H s)(E:Value→Shared→Prop):Inv (X.wish E) pins σ H s:=⟨I.ok.wish E,I.os,I.bare,I.base,I.loc,I.cell,I.free,I.freeC,I.pin,I.hok,I.len⟩
theorem Inv.unwish(I:Inv (X.wish E) pins σ H s):Inv X pins σ H s:=⟨I.ok.unwish,I.os,I.bare,I.base,I.loc,I.cell,I.free,I.freeC,I.pin,I.hok,I.len⟩
theorem SP.unwish{D:Ends}{f:Flow}{s':Shared}(h:SP (X.wish E) pins D f s'):SP X pins D f s':=by
 cases f with
 |next=>obtain⟨σ',H',I,q⟩:=h;exact⟨σ',H',I.unwish,q⟩
 |brk=>obtain⟨σ',H',I,q⟩:=h;exact⟨σ',H',I.unwish,q⟩
 |cont=>obtain⟨σ',H',I,q⟩:=h;exact⟨σ',H',I.unwish,q⟩
 |ret u=>obtain⟨v,σ',H',I,r,q⟩:=h;exact⟨v,σ',H',I.unwish,r,q⟩
theorem PSs.nox{st:List Stmt}{t:TS}(h:PSs X.nox st t):PSs X st t:=fun pins s σ H D I hw =>
 wpAny_mono (h pins s σ H D (I.wish _) hw) (fun _ _ q=>q.unwish) fun _ _ z=>False.elim z
end
section
variable{X:Cx}
theorem Inv.quiet{pins:List (Addr×Obj)}{σ:St}{H:Hp}{s:Shared}(I:Inv X pins σ H s):interactive X.env=false:=by simp[interactive,I.ok.kind]
end
abbrev TG:=V→St→Hp→(St→Hp→Prop)→Prop
abbrev TGs:=List V→St→Hp→(St→Hp→Prop)→Prop
def PG(X:Cx)(target:Expr)(t:TG):Prop :=
 ∀(pins:List (Addr×Obj))(s:Shared)(σ:St)(H:Hp)(v:V)(u:Value)(Q:St→Hp→Prop),Inv X pins σ H s→RelV v u→t v σ H Q →
  wpAny (model X.prog X.w) X.A (assign target X.env u) (fun _ s'=>∃σ' H',Inv X pins σ' H' s'∧Q σ' H') X.xe s
def PGs(X:Cx)(ts:List Expr)(t:TGs):Prop :=
 ∀(pins:List (Addr×Obj))(s:Shared)(σ:St)(H:Hp)(vs:List V)(us:List Value)(Q:St→Hp→Prop),Inv X pins σ H s→Vals vs us→t vs σ H Q →
  wpAny (model X.prog X.w) X.A (assignInOrder ((assignEach ts X.env).map (·.2)) us) (fun _ s'=>∃σ' H',Inv X pins σ' H' s'∧Q σ' H') X.xe s
abbrev TSet:=V→V→V→Hp→(Hp→Prop)→Prop
def PSet(X:Cx)(t:TSet):Prop :=
 ∀(pins:List (Addr×Obj))(s:Shared)(σ:St)(H:Hp)(o i v:V)(ov iv u:Value)(Q:Hp→Prop),Inv X pins σ H s→RelV o ov→RelV i iv→RelV v u→t o i v H Q →
  wpAny (model X.prog X.w) X.A (setItem ov iv u) (fun _ s'=>∃H',Inv X pins σ H' s'∧Q H') X.xe s
abbrev TIp:=V→V→Hp→VK→Prop
def PIp(X:Cx)(op:Operator)(t:TIp):Prop :=
 ∀(pins:List (Addr×Obj))(s:Shared)(σ:St)(H:Hp)(x y:V)(v u:Value)(Q:VK),Inv X pins σ H s→RelV x v→RelV y u→t x y H Q →
  wpAny (model X.prog X.w) X.A (inplaceOp op v u) (EP X pins σ Q) X.xe s
section
variable{X:Cx}{pos:Pos}
def Iv(i:Nat):TG:=fun v σ H Q=>Q (σ.set i (some v)) H
theorem qL{i:Nat}{x:Str}(hN:X.N.Nodup)(hi:X.N[i]?=some x)(hx:Loc X.env.scope x)(hf:X.fn x=true∨X.env.scope.names.lookup x=some .local:=by first|exact .inl rfl|exact .inr rfl|assumption):PG X (.Name x pos) (Iv i):=by
 intro pins s σ H v u Q I r h
 exact wpAny_assign_Name (kj I hN hi hx r (fun s' I'=>⟨_,H,I',h⟩) hf)
def gNil:TGs:=fun vs σ H Q=>vs=[]∧Q σ H
def Iw(t:TG)(u:TGs):TGs:=fun vs σ H Q=>∃v r,vs=v::r∧t v σ H fun σ' H'=>u r σ' H' Q
theorem yV:PGs X [] gNil:=by
 intro pins s σ H vs us Q I r h
 obtain⟨e,h⟩:=h
 subst e
 cases r
 exact assignInOrder_nil ⟨σ,H,I,h⟩
theorem wJ{e:Expr}{es:List Expr}{t:TG}{u:TGs}(h1:PG X e t)(h2:PGs X es u)
  (hs:(assignEach (e::es) X.env).map (·.2)=assign e X.env::(assignEach es X.env).map (·.2):=by rfl):PGs X (e::es) (Iw t u):=by
 intro pins s σ H vs us Q I r h
 obtain⟨v,vr,e1,h⟩:=h
 subst e1
 cases r with
 | cons r rr =>
  rw[hs]
  refine assignInOrder_cons (thn (h1 pins s σ H _ _ _ I r h) fun _ s1 ⟨σ1,H1,I1,q1⟩=>?_)
  exact h2 pins s1 σ1 H1 _ _ Q I1 rr q1
def gTup(K:PySem.W.Frag)(n:Nat)(t:TGs):TG:=fun v σ H Q=>∃a xs,v=.ref a∧SqT K H a xs∧xs.length=n∧t xs σ H Q
theorem DM{es:List Expr}{k:Nat}{t:TGs}{n:Nat}(hc:X.calm=true)(h:PGs X es t)
  (hn:(assignEach es X.env).length=n:=by rfl) (hst:(assignEach es X.env).findIdx? (·.1)=none:=by rfl):PG X (.Tuple es k pos) (gTup X.K n t):=by
 intro pins s σ H v u Q I r hw
 obtain⟨a,xs,e1,hq,hl,hw⟩:=hw
 subst e1
 cases r
 obtain⟨its,rv,ht,hz⟩:=I.tuple hq
 refine assign_Tuple_tuple (I.ok.hd hc) ht (by simp[hn,← hl,rv.length]) hst fun h' hx=>?_
 have I1:Inv X pins σ H {s with heap:=h' }:=I.kept (t':=s.toks) fun b o e=>hx b o (Nat.ne_of_lt (Heap.lt_size e)) e
 exact h pins _ σ H xs _ Q I1 (by simpa using rv) hw
def gSub(to ti:TE)(t:TSet):TG:=fun v σ H Q=>to σ H fun o H1=>ti σ H1 fun i H2=>t o i v H2 fun H3=>Q σ H3
theorem GD{o i:Expr}{to ti:TE}{t:TSet}(ho:PE X o to)(hi:PE X i ti)(hs:PSet X t)
  (ha:∀v,assign (.Subscript o i pos) X.env v=(do
   let ov ← holding [v] (eval o X.env)
   let iv ← holding [v,ov] (eval i X.env)
   standAt pos
   holding [v,ov,iv] (setItem ov iv v)
   release [v,ov,iv] []):=by intro _;rfl):PG X (.Subscript o i pos) (gSub to ti t):=by
 intro pins s σ H v u Q I r h
 rw[ha]
 refine wpAny_bind (wpAny_holding (thn (ho pins s σ H _ I h) fun ov s1 ⟨x,H1,I1,r1,q1⟩=>?_))
 refine wpAny_bind (wpAny_holding (thn (hi pins s1 σ H1 _ I1 q1) fun iv s2 ⟨y,H2,I2,r2,q2⟩=>?_))
 refine wpAny_bind (wpAny_standAt (wpAny_bind (wpAny_holding (thn (hs pins s2 σ H2 x y v ov iv u _ I2 r1 r2 r q2) fun _ s3 ⟨H3,I3,q3⟩=>?_))))
 exact wpAny_release ⟨σ,H3,I3,q3⟩
def tAsg(te:TE)(g:TG):TS:=fun D σ H=>te σ H fun x H1=>g x σ H1 D.nx
theorem GE{tg e:Expr}{te:TE}{g:TG}(he:PE X e te)(hg:PG X tg g)(hs:swapsWithSole [tg] e pos.line X.env=pure false:=by rfl)(hw:swappedStores [tg] e X.env=pure none:=by rfl)
  (h1:(assignEach [tg] X.env).map (·.2)=[assign tg X.env]:=by rfl):PS X (.Assign [tg] e pos) (tAsg te g):=by
 intro pins s σ H D I h
 refine wpAny_Assign_stores (thn (he pins s σ H _ I h) fun v s1 ⟨x,H1,I1,r1,q1⟩=>?_) hs hw
 rw[h1]
 exact thn (hg pins s1 σ H1 x v _ I1 r1 q1) fun _ s2 q=>q
def tPar(i j:Nat)(ta:TA):TS:=fun D σ H=>ta σ H fun vs H1=>∃v w,vs=[v,w]∧D.nx ((σ.set i (some v)).set j (some w)) H1
theorem GF{i j:Nat}{x y:Str}{a b:Expr}{ta:TA}{px py pt:Pos} {kt k2 pt2} (hc:X.calm=true) (hN:X.N.Nodup) (hi:X.N[i]?=some x) (hj:X.N[j]?=some y) (hij:i≠j)
  (hx:X.env.scope.names.lookup x=some .local) (hy:X.env.scope.names.lookup y=some .local) (ha:PA X [a,b] ta)
  (hw:swappedStores [.Tuple [.Name x px,.Name y py] kt pt] (.Tuple [a,b] k2 pt2) X.env=pure (some [x,y]))
  (hs:swapsWithSole [.Tuple [.Name x px,.Name y py] kt pt] (.Tuple [a,b] k2 pt2) pos.line X.env=pure false:=by rfl) :
  PS X (.Assign [.Tuple [.Name x px,.Name y py] kt pt] (.Tuple [a,b] k2 pt2) pos) (tPar i j ta):=by
 intro pins s σ H D I h
 rw[exec_Assign_arm]
 refine wpAny_bind (wpAny_standAt ?_)
 rw[hs]
 refine wpAny_bind (wpAny_pure ?_)
 rw[if_neg (by decide)]
 refine wpAny_bind (Tuple_ (thn (ha _ pins s σ H _ I h) fun us s1 ⟨vs,H1,I1,r1,q1⟩=>?_))
 obtain⟨v,w,e1,q1⟩:=q1
 subst e1
 obtain⟨u1,u2,rfl,rv,rw'⟩:∃u1 u2,us=[u1,u2]∧RelV v u1∧RelV w u2:=by
  cases r1 with
  | cons p q =>
   cases q with
   | cons p' q' =>
    cases q'
    exact⟨_,_,rfl,p,p'⟩
 refine wpAny_newObj_type ?_ (by show 2≤sizeLine;decide)
 have I2:Inv X pins σ H1 {s1 with heap:=s1.heap.push {cls:=.type "tuple",data:=.seq [u1,u2].toArray} }:=I1.kept (t':=s1.toks) fun b o e=>Heap.get?_push_of_some _ e
 rw[hw]
 refine wpAny_bind (wpAny_pure ?_)
 show wpAny (model X.prog X.w) X.A (do rule "assign.swapped-stores"; let items ← unpackItems (.ref s1.heap.objs.size) 2 none; assignInOrder [fun v=>bindName X.env y v,fun v=>bindName X.env x v] items.reverse; pure Flow.next) _ _ _
 refine wpAny_bind (wpAny_rule (wpAny_bind (unpackItems_tuple (items:=#[u1,u2]) (I.ok.hd hc) (IsTup.new s1.heap _) fun h' hx'=>?_)))
 have I3:=I2.kept (h':=h') (t':=s1.toks) fun b o e=>hx' b o (Nat.ne_of_lt (Heap.lt_size e)) e
 show wpAny _ _ (assignInOrder [fun v=>bindName X.env y v,fun v=>bindName X.env x v] [u2,u1] >>= fun _=>pure Flow.next) _ _ _
 refine wpAny_bind (assignInOrder_cons (wpAny_bindName (kj I3 hN hj (.inl hy) rw' (fun s2 I4=>?_) (.inr hy))))
 refine assignInOrder_cons (wpAny_bindName (kj I4 hN hi (.inl hx) rv (fun s3 I5=>assignInOrder_nil (wpAny_pure ?_)) (.inr hx)))
 rw[List.set_comm _ _ (Ne.symm hij)]at I5
 exact⟨_,H1,I5,q1⟩
def tAug(i:Nat)(te:TE)(ti:TIp):TS:=fun D σ H=>∃x,σ[i]?=some (some x)∧te σ H fun y H1=>ti x y H1 fun z H2=>D.nx (σ.set i (some z)) H2
theorem GG{i:Nat}{x:Str}{e:Expr}{te:TE}{op:Operator}{ti:TIp}{pos':Pos}(hN:X.N.Nodup)(hi:X.N[i]?=some x)(hx:Loc X.env.scope x)(he:PE X e te)(ho:PIp X op ti)(hf:X.fn x=true∨X.env.scope.names.lookup x=some .local:=by first|exact .inl rfl|exact .inr rfl|assumption) :
  PS X (.AugAssign (.Name x pos') op e pos) (tAug i te ti):=by
 intro pins s σ H D I h
 obtain⟨v,e1,h⟩:=h
 obtain⟨m,hn,hl⟩:=I.loc
 have vis:Vis X.env.scope x:=by rcases hx with k|k;exact .inl k;exact .inr (.inl k)
 obtain⟨u,r,l⟩:=hl i x v hi e1 vis
 refine wpAny_AugAssign_Name ?_
 have go:wpAny (model X.prog X.w) X.A (eval e X.env) (fun w s₂=>wpAny (model X.prog X.w) X.A (inplaceOp op u w) (fun r s₃=>wpAny (model X.prog X.w) X.A (storeName X.env x r) (fun _=>SP X pins D .next) X.xe s₃) X.xe s₂) X.xe s:=by
  refine thn (he pins s σ H _ I h) fun w s1 ⟨y,H1,I1,r1,q1⟩=>?_
  refine thn (ho pins s1 σ H1 v y u w _ I1 r r1 q1) fun z s2 ⟨zv,H2,I2,r2,q2⟩=>?_
  exact kj I2 hN hi hx r2 (fun s3 I3=>⟨_,H2,I3,q2⟩) hf
 rcases l with⟨hk,hm⟩|⟨hk,c,hc,hcell⟩
 ·
  exact wpAny_loadName_local I.ok.kind hk hn hm go
 ·
  rcases hk with hk|hk
  ·
   exact wpAny_loadName_cell I.ok.kind hk hc hcell go
  ·
   rcases hx with k|k
   ·
    have:X.env.scope.names.lookup x=some .free:=hk
    rw[k]at this;cases this
   ·
    have:X.env.scope.names.lookup x=some .free:=hk
    rw[k]at this;cases this
def ipI(f:Int→Int→Int):TIp:=fun x y H Q=>∃i j,x=.int i∧y=.int j∧Q (.int (f i j)) H
theorem GH:PIp X .Add (ipI fun i j=>i+j):=by
 intro pins s σ H x y v u Q I r1 r2 h
 obtain⟨i,j,e1,e2,q⟩:=h
 subst e1;subst e2
 obtain⟨t,rfl⟩:=r1
 obtain⟨t',rfl⟩:=r2
 exact iadd_int ⟨.int _,H,I.tok _,⟨_,rfl⟩,q⟩
end
section
variable{X:Cx}{pos:Pos}
def GI(c:TT)(tb:TS):TS:=fun D σ H=>∃W:Nat→St→Hp→Prop,(∃m,W m σ H)∧∀m σ H,W m σ H →
 c σ H fun b H1=>if b=true then ∃N:St→Hp→Prop,(∀σ' H',N σ' H'→∃m',m' < m∧W m' σ' H')∧tb {D with nx:=N,ct:=N,bk:=D.nx} σ H1 else D.nx σ H1
theorem BP{c:Expr}{body:List Stmt}{tc:TT}{tb:TS}(hp:PassesOwn (model X.prog X.w) X.A X.env X.xe)(hc:PT X c tc)(hb:PSs X body tb):PS X (.While c body [] pos) (GI tc tb):=by
 intro pins s σ H D I h
 obtain⟨W,⟨m0,w0⟩,turn⟩:=h
 refine wpAny_While (codeAny_whileLoop (fun n s'=>∃σ' H',Inv X pins σ' H' s'∧W n σ' H') ?_ m0 ⟨σ,H,I,w0⟩)
 rintro n s1 ⟨σ1,H1,I1,w1⟩
 refine wpAny_passesOwn hp (thn (hc pins s1 σ1 H1 _ I1 (turn n σ1 H1 w1)) fun b s2 ⟨H2,I2,q2⟩=>?_)
 cases b with
 | true =>
  obtain⟨N,hN,q2⟩:=q2
  rw[if_pos rfl]
  refine wpAny_passesOwn hp (thn (hb pins s2 σ1 H2 _ I2 q2) fun f s3 q3=>?_)
  cases f with
  | next =>
   obtain⟨σ3,H3,I3,n3⟩:=q3
   obtain⟨m',hm,w3⟩:=hN σ3 H3 n3
   exact⟨m',hm,σ3,H3,I3,w3⟩
  | cont =>
   obtain⟨σ3,H3,I3,n3⟩:=q3
   obtain⟨m',hm,w3⟩:=hN σ3 H3 n3
   exact⟨m',hm,σ3,H3,I3,w3⟩
  |brk=>exact q3
  |ret v=>exact q3
 | false =>
  rw[if_neg Bool.false_ne_true]
  exact wpAny_execs_nil ⟨σ1,H2,I2,q2⟩
end
structure It where
 go:Nat→Hp→Prop
 yld:Nat→Hp→V→Hp→Prop
 stop:Nat→Hp→Prop
def FpOk(X:Cx)(pins:List (Addr×Obj))(H:Hp)(b:Addr):Prop :=
 H b=none∧b≠X.env.locals∧b∉X.fs∧(b∈X.ex∨X.s₀.heap.objs.size≤b)∧(∀x c,X.env.cells.lookup x=some c→c≠b)∧∀p∈X.pn++pins,p.1≠b
theorem Inv.fpOk{X:Cx}{pins:List (Addr×Obj)}{σ:St}{H H':Hp}{s:Shared}{b:Addr}(I:Inv X pins σ H s)(hb:s.heap.objs.size≤b)(hn:H' b=none):FpOk X pins H' b:=by
 refine⟨hn,Nat.ne_of_gt (Nat.lt_of_lt_of_le I.lt hb),I.nofs hb,.inr (Nat.le_trans I.sz hb),fun x c e z=>?_,fun p hp z=>?_⟩
 ·
  obtain⟨v,q⟩:=I.cell x c e
  exact absurd (Nat.lt_of_lt_of_le q.lt (by rw[z];exact hb)) (Nat.lt_irrefl _)
 ·
  exact absurd (Nat.lt_of_lt_of_le (Heap.lt_size (I.pin p hp).1) (by rw[z];exact hb)) (Nat.lt_irrefl _)
structure Turn (P:Program) (w:World) (K:PySem.W.Frag) (tg:Expr) (J:It) (fp:List Addr) (it:Addr) (tn:Nat→Heap→Prop):Prop where
 mem:it∈fp
 obj:∀i h,tn i h→∀b∈fp,∃o,h.get? b=some o∧∀v,o.data≠.cell v
 keep:∀i h h',tn i h→(∀b∈fp,∀o,h.get? b=some o→h'.get? b=some o)→tn i h'
 item:∀(X:Cx),X.prog=P→X.w=w→X.K=K→X.calm=true→∀(i:Nat)(pins:List (Addr×Obj))(s:Shared)(σ:St)(H:Hp)(E:Value→Shared→Prop),Inv X pins σ H s→(∀b∈fp,FpOk X pins H b)→tn i s.heap→J.go i H →
  wpAny (model P w) X.A (pyNext (.ref it)) (fun r s1=>∃u,r=some u ∧
   wpAny (model P w) X.A (letOwnedTupleGo tg (.ref it) u) (fun _ s2=>∃x H',Inv X pins σ H' s2∧RelV x u∧J.yld i H x H'∧tn (i+1) s2.heap∧∀b∈fp,H' b=none) E s1) E s
 done:∀(X:Cx),X.prog=P→X.w=w→X.K=K→X.calm=true→∀(i:Nat)(pins:List (Addr×Obj))(s:Shared)(σ:St)(H:Hp)(E:Value→Shared→Prop),Inv X pins σ H s→(∀b∈fp,FpOk X pins H b)→tn i s.heap→J.stop i H →
  wpAny (model P w) X.A (pyNext (.ref it)) (fun r s1=>r=none∧Inv X pins σ H s1) E s
 self:∀(A:Around)(i:Nat)(s:Shared)(Q:Value→Shared→Prop)(E:Value→Shared→Prop),tn i s.heap→Q (.ref it) s→wpAny (model P w) A (pyIter (.ref it)) Q E s
abbrev TI:=St→Hp→(It→Hp→Prop)→Prop
def PIE(X:Cx)(pins:List (Addr×Obj))(σ:St)(tg:Expr)(R:It→Hp→Prop)(itv:Value)(s2:Shared):Prop :=
 ∃(it:Addr)(fp:List Addr)(tn:Nat→Heap→Prop)(J:It)(H':Hp),itv=.ref it∧Inv X pins σ H' s2∧Turn X.prog X.w X.K tg J fp it tn∧tn 0 s2.heap∧(∀b∈fp,FpOk X pins H' b)∧R J H'
def PI(X:Cx)(tg iter:Expr)(wi:TI):Prop :=
 ∀(pins:List (Addr×Obj))(s:Shared)(σ:St)(H:Hp)(R:It→Hp→Prop),Inv X pins σ H s→wi σ H R →
  wpAny (model X.prog X.w) X.A (eval iter X.env) (fun v s1=>wpAny (model X.prog X.w) X.A (pyIter v) (PIE X pins σ tg R) X.xe s1) X.xe s
theorem BQ {M : Model} {A : Around} {E : Value → Shared → Prop} {s : Shared} {tg : Expr} {it : Addr} {u : Value} {o : Obj} {n : String} {vs : Array Value} {Q : Unit → Shared → Prop} (ho : s.heap.get? it = some o) (hc : o.cls = .type n) (hd : o.data = .fields vs)
    (hn : ["enumerate", "zip", "dict_itemiterator", "dict_reverseitemiterator", "odict_iterator", "itertools.zip_longest", "itertools.pairwise"].contains n = false) (hQ : Q () s) : wpAny M A (letOwnedTupleGo tg (.ref it) u) Q E s := by
  unfold letOwnedTupleGo
  cases tg<;>first
    |exact wpAny_pure hQ
    | (cases u<;>first
        |exact wpAny_pure hQ
        | (refine wpAny_bind (wpAny_load ho ?_)
           rw[hc, hd]
           show wpAny M A (if(["enumerate", "zip", "dict_itemiterator", "dict_reverseitemiterator", "odict_iterator", "itertools.zip_longest", "itertools.pairwise"].contains n && vs[0]? == some (rawInt _)) = true then _ else _) Q E s
           rw[if_neg (by intro h;rw[hn, Bool.false_and]at h;cases h)]
           exact wpAny_pure hQ))
def Itl(K:PySem.W.Frag)(a:Addr):It :=
 ⟨fun i H=>∃xs x,SqL K H a xs∧xs[i]?=some x,fun i H x H'=>H'=H∧∀xs,SqL K H a xs→xs[i]?=some x,fun i H=>∃xs,SqL K H a xs∧xs.length≤i⟩
def Itt(K:PySem.W.Frag)(a:Addr):It :=
 ⟨fun i H=>∃xs x,SqT K H a xs∧xs[i]?=some x,fun i H x H'=>H'=H∧∀xs,SqT K H a xs→xs[i]?=some x,fun i H=>∃xs,SqT K H a xs∧xs.length≤i⟩
def Itr(lo:Int)(n:Nat):It:=⟨fun i _=>i<n,fun i H x H'=>H'=H∧x=.int (lo+i),fun i _=>n≤i⟩
theorem yW{P:Program}{w:World}{K:PySem.W.Frag}{tg:Expr}(a it:Addr):Turn P w K tg (Itl K a) [it] it (fun i h=>h.IsListIter it a i) where
 mem:=by simp
 obj:=fun i h st b hb=>by
  have e:b=it:=by simpa using hb
  subst e
  obtain⟨o,e,c,d⟩:=st
  exact⟨o,e,fun v z=>by rw[d]at z;cases z⟩
 keep:=fun i h h' st k=>st.at fun o e=>k it (by simp) o e
 item:=by
  intro X hP hw hK hc i pins s σ H E I hf st hg
  subst hP hw hK
  obtain⟨xs,x,hq,hx⟩:=hg
  obtain⟨its,rv,p,hz⟩:=I.list hq
  obtain⟨u,hu,ru⟩:=rv.get hx
  obtain⟨f0,f1,f2,f3,f4,f5⟩:=hf it (by simp)
  refine wpAny_pyNext_list_item st p.isList (x:=u) (by simpa using hu) fun h' st' sb=>?_
  have I1:Inv X pins σ H {s with heap:=h' }:=I.turned (t':=s.toks) (fun b o hb e=>(sb.2 b hb).trans e) f0 f1 f3 f4 f5
  obtain⟨o,e,c,d⟩:=id st'
  exact⟨u,rfl,BQ (s:={s with heap:=h' }) e c d (by decide) ⟨x,H,I1,ru,⟨rfl,fun ys hy=>by rw[I.list_inj hy hq];exact hx⟩,st',fun b hb=>(hf b hb).1⟩⟩
 done:=by
  intro X hP hw hK hc i pins s σ H E I hf st hg
  subst hP hw hK
  obtain⟨xs,hq,hx⟩:=hg
  obtain⟨its,rv,p,hz⟩:=I.list hq
  obtain⟨f0,f1,f2,f3,f4,f5⟩:=hf it (by simp)
  have hl:=rv.length
  exact wpAny_pyNext_list_end (I.ok.hd hc) st p.isList (by simp;omega) fun h' eb=>⟨rfl,I.turned (t':=s.toks) (fun b o hb e=>eb b o hb e) f0 f1 f3 f4 f5⟩
 self:=fun _ _ _ _ _ st h=>wpAny_pyIter_listiter st h
theorem xQ{P:Program}{w:World}{K:PySem.W.Frag}{tg:Expr}(a it:Addr):Turn P w K tg (Itt K a) [it] it (fun i h=>h.IsTupleIter it a i) where
 mem:=by simp
 obj:=fun i h st b hb=>by
  have e:b=it:=by simpa using hb
  subst e
  obtain⟨o,e,c,d⟩:=st
  exact⟨o,e,fun v z=>by rw[d]at z;cases z⟩
 keep:=fun i h h' st k=>st.at fun o e=>k it (by simp) o e
 item:=by
  intro X hP hw hK hc i pins s σ H E I hf st hg
  subst hP hw hK
  obtain⟨xs,x,hq,hx⟩:=hg
  obtain⟨its,rv,p,hz⟩:=I.tuple hq
  obtain⟨u,hu,ru⟩:=rv.get hx
  obtain⟨f0,f1,f2,f3,f4,f5⟩:=hf it (by simp)
  refine wpAny_pyNext_tuple_item st (show s.heap.IsTuple a its.toArray from p) (x:=u) (by simpa using hu) fun h' st' sb=>?_
  have I1:Inv X pins σ H {s with heap:=h' }:=I.turned (t':=s.toks) (fun b o hb e=>(sb.2 b hb).trans e) f0 f1 f3 f4 f5
  obtain⟨o,e,c,d⟩:=id st'
  exact⟨u,rfl,BQ (s:={s with heap:=h' }) e c d (by decide) ⟨x,H,I1,ru,⟨rfl,fun ys hy=>by rw[I.tuple_inj hy hq];exact hx⟩,st',fun b hb=>(hf b hb).1⟩⟩
 done:=by
  intro X hP hw hK hc i pins s σ H E I hf st hg
  subst hP hw hK
  obtain⟨xs,hq,hx⟩:=hg
  obtain⟨its,rv,p,hz⟩:=I.tuple hq
  obtain⟨f0,f1,f2,f3,f4,f5⟩:=hf it (by simp)
  have hl:=rv.length
  exact wpAny_pyNext_tuple_end (I.ok.hd hc) st (show s.heap.IsTuple a its.toArray from p) (by simp;omega) fun h' eb=>⟨rfl,I.turned (t':=s.toks) (fun b o hb e=>eb b o hb e) f0 f1 f3 f4 f5⟩
 self:=fun _ _ _ _ _ st h=>wpAny_pyIter_tupleiter st h
theorem xR{P:Program}{w:World}{K:PySem.W.Frag}{tg:Expr}(it:Addr)(lo:Int)(n:Nat):Turn P w K tg (Itr lo n) [it] it (fun i h=>IsRangeIter h it (lo+(i:Nat)*1) ((n:Int)-(i:Nat)) 1) where
 mem:=by simp
 obj:=fun i h st b hb=>by
  have e:b=it:=by simpa using hb
  subst e
  exact⟨_,st,fun v z=>by
   have z':Data.fields _=Data.cell v:=z
   cases z'⟩
 keep:=fun i h h' st k=>k it (by simp) _ st
 item:=by
  intro X hP hw hK hc i pins s σ H E I hf st hg
  subst hP hw hK
  obtain⟨f0,f1,f2,f3,f4,f5⟩:=hf it (by simp)
  have W:=Walks.range (prog:=X.prog) (w:=X.w) (I.ok.hd hc) it lo 1 n
  refine W.item i s _ _ hg st fun v h' tk hv st' kk=>?_
  obtain⟨t,rfl⟩:=hv
  have I1:Inv X pins σ H {s with heap:=h',toks:=tk}:=I.turned (fun b o hb e=>kk b o (by simpa using hb) e) f0 f1 f3 f4 f5
  refine⟨_,rfl,BQ (s:={s with heap:=h',toks:=tk}) (n:="range_iterator") st' rfl rfl (by decide) ⟨.int (lo+i),H,I1,⟨t,?_⟩,⟨rfl,rfl⟩,st',fun b hb=>(hf b hb).1⟩⟩
  rw[Int.mul_one]
 done:=by
  intro X hP hw hK hc i pins s σ H E I hf st hg
  subst hP hw hK
  obtain⟨f0,f1,f2,f3,f4,f5⟩:=hf it (by simp)
  exact wpAny_pyNext_range_end (I.ok.hd hc) st (by have:n≤i:=hg;omega) fun h' eb=>⟨rfl,I.turned (t':=s.toks) (fun b o hb e=>eb b o hb e) f0 f1 f3 f4 f5⟩
 self:=fun _ _ _ _ _ st h=>wpAny_pyIter_rangeiter st h
section
variable{X:Cx}{tg:Expr}
theorem wK{pins:List (Addr×Obj)}{σ:St}{H:Hp}{s:Shared}{R:It→Hp→Prop}{E:Value→Shared→Prop}{lo hi:Int}{t u v:Tok}{tk:Nat}(I:Inv X pins σ H s)(h1 : -(2^62)≤lo)(h2:lo<2^62)(h3 : -(2^62)≤hi)(h4:hi<2^62)
  (q:R (Itr lo (hi-lo).toNat) H):wpAny (model X.prog X.w) X.A (pyIter (.ref s.heap.objs.size)) (PIE X pins σ tg R) E {s with heap:=s.heap.push {cls:=.type "range",data:=.fields #[.int lo t,.int hi u,.int 1 v] },toks:=tk}:=by
 refine wpAny_pyIter_range (IsRange.new ..) (small_one h1 h2 h3 h4) ?_
 have I1:Inv X pins σ H {s with heap:=s.heap.push {cls:=.type "range",data:=.fields #[.int lo t,.int hi u,.int 1 v] },toks:=tk}:=I.kept fun b o e=>Heap.get?_push_of_some _ e
 refine⟨(s.heap.push {cls:=.type "range",data:=.fields #[.int lo t,.int hi u,.int 1 v] }).objs.size,[(s.heap.push {cls:=.type "range",data:=.fields #[.int lo t,.int hi u,.int 1 v] }).objs.size],_,_,H,rfl,
  I1.kept (t':=tk) fun b o e=>Heap.get?_push_of_some _ e,xR _ lo (hi-lo).toNat,?_,fun b hb=>?_,q⟩
 ·
  have e1:lo+((0:Nat):Int)*1=lo:=by simp
  have e2:(((hi-lo).toNat:Nat):Int)-((0:Nat):Int)=Builtin.Range.rangeSize lo hi 1:=by rw[rangeSize_one];split<;>omega
  show IsRangeIter _ _ (lo+((0:Nat):Int)*1) ((((hi-lo).toNat:Nat):Int)-((0:Nat):Int)) 1
  rw[e1,e2]
  exact Heap.get?_push_size _ rfl
 ·
  have e:b=(s.heap.push {cls:=.type "range",data:=.fields #[.int lo t,.int hi u,.int 1 v] }).objs.size:=by simpa using hb
  subst e
  exact I1.fpOk (Nat.le_refl _) (I1.hok.fresh (Nat.le_refl _))
def Iy(ta:TA):TI:=fun σ H R=>ta σ H fun vs H1=>∃j:Int,vs=[.int j]∧-(2^62)≤j∧j<2^62∧R (Itr 0 j.toNat) H1
def ID(ta:TA):TI:=fun σ H R=>ta σ H fun vs H1=>∃i j:Int,vs=[.int i,.int j]∧(-(2^62)≤i∧i<2^62∧-(2^62)≤j∧j<2^62)∧R (Itr i (j-i).toNat) H1
theorem yX{a:Expr}{ta:TA}{p pos:Pos} (hg:Gl X "range") (hm:X.mg "range"=none) (ha:PA X [a] ta) (hs:starEach [a] X.env=[(false,eval a X.env)]:=by rfl):PI X tg (.Call (.Name "range" p) [a] [] pos) (Iy ta):=by
 intro pins s σ H R I h
 refine Call_ (gH I hg hm boot_range (PyProof.Rows.callWith_type1 (thn (ha pos pins s σ H _ I h) fun us s1 ⟨vs,H1,I1,r1,q1⟩=>?_) hs rfl))
 obtain⟨j,e,q1,q2,q⟩:=q1
 subst e
 cases r1 with
 | cons r rr =>
  cases rr
  obtain⟨t,rfl⟩:=r
  exact call_range_1 (wK I1 (by omega) (by omega) q1 q2 (by simpa using q))
theorem yY{a b:Expr}{ta:TA}{p pos:Pos} (hg:Gl X "range") (hm:X.mg "range"=none) (ha:PA X [a,b] ta) (hs:starEach [a,b] X.env=[(false,eval a X.env),(false,eval b X.env)]:=by rfl) (hs2:starEach [b] X.env=[(false,eval b X.env)]:=by rfl) :
  PI X tg (.Call (.Name "range" p) [a,b] [] pos) (ID ta):=by
 intro pins s σ H R I h
 refine Call_ (gH I hg hm boot_range (PyProof.Rows.callWith_type1 (thn (ha pos pins s σ H _ I h) fun us s1 ⟨vs,H1,I1,r1,q1⟩=>?_) (by rw[hs,hs2]) (by rw[hs2];rfl)))
 obtain⟨i,j,e,⟨q1,q2,q3,q4⟩,q⟩:=q1
 subst e
 cases r1 with
 | cons r rr =>
  cases rr with
  | cons r' rr =>
   cases rr
   obtain⟨t,rfl⟩:=r
   obtain⟨t',rfl⟩:=r'
   exact call_range_2 (wK I1 q1 q2 q3 q4 q)
def qe(fp:List Addr)(h:Heap):List (Addr×Obj):=fp.filterMap fun b=>(h.get? b).map fun o=>(b,o)
theorem dR{fp:List Addr}{h:Heap}{b:Addr}{o:Obj}(hb:b∈fp)(e:h.get? b=some o):(b,o)∈qe fp h:=List.mem_filterMap.mpr ⟨b,hb,by rw[e];rfl⟩
theorem yZ{fp:List Addr}{h:Heap}{p:Addr×Obj}(hp:p∈qe fp h):p.1∈fp∧h.get? p.1=some p.2:=by
 obtain⟨b,hb,e⟩:=List.mem_filterMap.mp hp
 cases q:h.get? b with
 |none=>rw[q]at e;cases e
 | some o =>
  rw[q]at e
  have e':(b,o)=p:=Option.some.inj e
  subst e'
  exact⟨hb,q⟩
theorem Inv.pinned{pins:List (Addr×Obj)}{σ:St}{H:Hp}{s:Shared}{fp:List Addr}(I:Inv X pins σ H s)(hf:∀b∈fp,FpOk X pins H b)(ho:∀b∈fp,∃o,s.heap.get? b=some o∧∀v,o.data≠.cell v):Inv X (pins++qe fp s.heap) σ H s :=
 I.pins_of fun p hp=>(List.mem_append.mp hp).elim (fun z=>I.pin p (List.mem_append_right _ z)) fun z=>by
  obtain⟨hb,e⟩:=yZ z
  obtain⟨f0,f1,f2,_⟩:=hf p.1 hb
  obtain⟨o,e',d⟩:=ho p.1 hb
  rw[e]at e';cases e'
  exact⟨e,f0,f1,f2,d⟩
theorem Inv.unpinned{pins pl:List (Addr×Obj)}{σ:St}{H:Hp}{s:Shared}(I:Inv X (pins++pl) σ H s):Inv X pins σ H s:=I.pins_of fun p hp=>I.pin p (List.mem_append_right _ (List.mem_append_left _ hp))
end
abbrev R2:=V→V→Hp→VK→Prop
def OpR(X:Cx)(f:Value→Value→Sem Value)(r:R2):Prop :=
 ∀(pins:List (Addr×Obj))(s:Shared)(σ:St)(H:Hp)(x y:V)(v u:Value)(Q:VK),Inv X pins σ H s→RelV x v→RelV y u→r x y H Q →
  wpAny (model X.prog X.w) X.A (f v u) (EP X pins σ Q) X.xe s
def UnR(X:Cx)(f:Value→Sem Value)(r:V→Hp→VK→Prop):Prop :=
 ∀(pins:List (Addr×Obj))(s:Shared)(σ:St)(H:Hp)(x:V)(v:Value)(Q:VK),Inv X pins σ H s→RelV x v→r x H Q →
  wpAny (model X.prog X.w) X.A (f v) (EP X pins σ Q) X.xe s
def jB(X:Cx)(f:Value)(r:List V→Hp→VK→Prop):Prop :=
 ∀(pins:List (Addr×Obj))(s:Shared)(σ:St)(H:Hp)(xs:List V)(us:List Value)(Q:VK),Inv X pins σ H s→Vals xs us→r xs H Q →
  wpAny (model X.prog X.w) X.A (call f us) (EP X pins σ Q) X.xe s
def TruR(X:Cx)(r:V→Hp→(Bool→Hp→Prop)→Prop):Prop :=
 ∀(pins:List (Addr×Obj))(s:Shared)(σ:St)(H:Hp)(x:V)(v:Value)(Q:Bool→Hp→Prop),Inv X pins σ H s→RelV x v→r x H Q →
  wpAny (model X.prog X.w) X.A (truthy v) (TP X pins σ Q) X.xe s
def tOp(r:R2)(ta tb:TE):TE:=fun σ H Q=>ta σ H fun x H1=>tb σ H1 fun y H2=>r x y H2 Q
def rI(C:Int→Int→Prop)(g:Int→Int→V):R2:=fun x y H Q=>∃i j,x=.int i∧y=.int j∧C i j∧Q (g i j) H
def rI0(g:Int→Int→V):R2:=fun x y H Q=>∃i j,x=.int i∧y=.int j∧Q (g i j) H
def rU(g:Int→V):V→Hp→VK→Prop:=fun x H Q=>∃i,x=.int i∧Q (g i) H
section
variable{X:Cx}{a b:Expr}{ta tb:TE}{pos:Pos}
theorem binT(ha:PE X a ta)(hb:PE X b tb){pins:List (Addr×Obj)}{s:Shared}{σ:St}{H:Hp}{R:V→V→Hp→Prop}(I:Inv X pins σ H s)
  (h:ta σ H fun x H1=>tb σ H1 fun y H2=>R x y H2) {Q:Value→Shared→Prop} {f:Value→Value→Sem Value}
  (hf:∀v u s2 x y H2,Inv X pins σ H2 s2→RelV x v→RelV y u→R x y H2→wpAny (model X.prog X.w) X.A (f v u) Q X.xe s2) :
  wpAny (model X.prog X.w) X.A (eval a X.env) (fun v s₁=>wpAny (model X.prog X.w) X.A (eval b X.env) (fun u s₂=>wpAny (model X.prog X.w) X.A (f v u) Q X.xe s₂) X.xe s₁) X.xe s:=by
 refine thn (ha pins s σ H _ I h) fun v s1 ⟨x,H1,I1,r1,q1⟩=>?_
 refine thn (hb pins s1 σ H1 _ I1 q1) fun u s2 ⟨y,H2,I2,r2,q2⟩=>?_
 exact hf v u s2 x y H2 I2 r1 r2 q2
theorem IE{op:Operator}{r:R2}(ho:OpR X (binaryOp op) r)(ha:PE X a ta)(hb:PE X b tb):PE X (.BinOp a op b pos) (tOp r ta tb):=by
 intro pins s σ H Q I h
 exact wpAny_BinOp (binT ha hb I h fun v u s2 x y H2 I2 rx ry q=>ho pins s2 σ H2 x y v u Q I2 rx ry q)
theorem opI{f:Value→Value→Sem Value}{C:Int→Int→Prop}{g:Int→Int→Int}
  (rule:∀(i j:Int)(t u:Tok)(s:Shared)(Q:Value→Shared→Prop)(E:Value→Shared→Prop),C i j→Q (.int (g i j) s.toks) {s with toks:=s.toks+1}→wpAny (model X.prog X.w) X.A (f (.int i t) (.int j u)) Q E s) :
  OpR X f (rI C fun i j=>.int (g i j)):=by
 intro pins s σ H x y v u Q I rx ry h
 obtain⟨i,j,rfl,rfl,hc,q⟩:=h
 obtain⟨t,rfl⟩:=rx
 obtain⟨t',rfl⟩:=ry
 exact rule i j t t' s _ _ hc ⟨.int (g i j),H,I.tok _,⟨_,rfl⟩,q⟩
theorem opI0{f:Value→Value→Sem Value}{g:Int→Int→Int}
  (rule:∀(i j:Int)(t u:Tok)(s:Shared)(Q:Value→Shared→Prop)(E:Value→Shared→Prop),Q (.int (g i j) s.toks) {s with toks:=s.toks+1}→wpAny (model X.prog X.w) X.A (f (.int i t) (.int j u)) Q E s) :
  OpR X f (rI0 fun i j=>.int (g i j)):=by
 intro pins s σ H x y v u Q I rx ry h
 obtain⟨i,j,rfl,rfl,q⟩:=h
 obtain⟨t,rfl⟩:=rx
 obtain⟨t',rfl⟩:=ry
 exact rule i j t t' s _ _ ⟨.int (g i j),H,I.tok _,⟨_,rfl⟩,q⟩
theorem opB0{f:Value→Value→Sem Value}{g:Int→Int→Bool}
  (rule:∀(i j:Int)(t u:Tok)(s:Shared)(Q:Value→Shared→Prop)(E:Value→Shared→Prop),Q (.bool (g i j)) s→wpAny (model X.prog X.w) X.A (f (.int i t) (.int j u)) Q E s) :
  OpR X f (rI0 fun i j=>.bl (g i j)):=by
 intro pins s σ H x y v u Q I rx ry h
 obtain⟨i,j,rfl,rfl,q⟩:=h
 obtain⟨t,rfl⟩:=rx
 obtain⟨t',rfl⟩:=ry
 exact rule i j t t' s _ _ ⟨.bl (g i j),H,I,rfl,q⟩
def CPow(i j:Int):Prop:=0≤j∧j≤1000000∧i.natAbs<2^64
def CMul(i j:Int):Prop:=(-(2^64)<i∧i<2^64)∨(-(2^64)<j∧j<2^64)
theorem CMul.ok{i j:Int}(h:CMul i j):IntMulOk i j:=by
 rcases h with⟨h1,h2⟩|⟨h1,h2⟩
 ·
  exact .of_left (intBits_le_64 h1 h2)
 ·
  exact .of_right (intBits_le_64 h1 h2)
theorem GJ:OpR X (binaryOp .Add) (rI0 fun i j=>.int (i+j)):=opI0 fun _ _ _ _ _ _ _ q=>add_int q
theorem GK:OpR X (binaryOp .Sub) (rI0 fun i j=>.int (i-j)):=opI0 fun _ _ _ _ _ _ _ q=>sub_int q
theorem Eh:OpR X (binaryOp .Mod) (rI (fun _ j=>j≠0) fun i j=>.int (i.fmod j)):=opI fun _ _ _ _ _ _ _ hc q=>mod_int' hc q
theorem GL:OpR X (binaryOp .Pow) (rI CPow fun i j=>.int (i^j.toNat)):=opI fun _ _ _ _ _ _ _ hc q=>pow_int_small hc.1 hc.2.1 hc.2.2 q
theorem unI{f:Value→Sem Value}{g:Int→Int}
  (rule:∀(i:Int)(t:Tok)(s:Shared)(Q:Value→Shared→Prop)(E:Value→Shared→Prop),Q (.int (g i) s.toks) {s with toks:=s.toks+1}→wpAny (model X.prog X.w) X.A (f (.int i t)) Q E s) :
  UnR X f (rU fun i=>.int (g i)):=by
 intro pins s σ H x v Q I rx h
 obtain⟨i,rfl,q⟩:=h
 obtain⟨t,rfl⟩:=rx
 exact rule i t s _ _ ⟨.int (g i),H,I.tok _,⟨_,rfl⟩,q⟩
theorem GM:UnR X (unaryOp .USub) (rU fun i=>.int (-i)):=unI fun _ _ _ _ _ q=>neg_int q
end
section
variable{X:Cx}{a b c:Expr}{ta tb tc:TE}{pos:Pos}
theorem DN{pins:List (Addr×Obj)}{σ:St}{H:Hp}{s:Shared}{Q:VK}{k k':Bool}(I:Inv X pins σ H s)(q:Q (.bl k) H)(e:k=k'):EP X pins σ Q (.bool k') s:=by
 subst e
 exact⟨.bl k,H,I,rfl,q⟩
theorem GN:OpR X (compareOp .Lt) (rI0 fun i j=>.bl (decide (i<j))):=opB0 fun _ _ _ _ _ _ _ q=>lt_int q
theorem GO:OpR X (compareOp .LtE) (rI0 fun i j=>.bl (decide (i≤j))):=opB0 fun _ _ _ _ _ _ _ q=>le_int q
theorem IF:OpR X (compareOp .Gt) (rI0 fun i j=>.bl (decide (j<i))):=opB0 fun _ _ _ _ _ _ _ q=>gt_int q
theorem IG:OpR X (compareOp .GtE) (rI0 fun i j=>.bl (decide (j≤i))):=opB0 fun _ _ _ _ _ _ _ q=>ge_int q
theorem GP:OpR X (compareOp .Is) (fun x y H Q=>y=.non∧Q (.bl (decide (x=.non))) H):=by
 intro pins s σ H x y v u Q I rx ry h
 obtain⟨rfl,q⟩:=h
 cases ry
 refine is_none_gen (DN I q ?_)
 cases x<;>first
  |(cases rx;rfl)
  |(obtain⟨t,rfl⟩:=rx;rfl)
theorem Ei:OpR X (compareOp .IsNot) (fun x y H Q=>y=.non∧Q (.bl (!decide (x=.non))) H):=by
 intro pins s σ H x y v u Q I rx ry h
 obtain⟨rfl,q⟩:=h
 cases ry
 refine isnot_none_gen (DN I q ?_)
 cases x<;>first
  |(cases rx;rfl)
  |(obtain⟨t,rfl⟩:=rx;rfl)
theorem aH(b:Expr){op:CmpOp}(h:op≠.In:=by decide)(h2:op≠.NotIn:=by decide):behindInMarks op b=false:=by
 have e1:(op == CmpOp.In)=false:=by cases op<;>first|rfl|exact absurd rfl h
 have e2:(op == CmpOp.NotIn)=false:=by cases op<;>first|rfl|exact absurd rfl h2
 cases b<;>simp[behindInMarks,e1,e2]
def DO(r r':R2)(ta tb tc:TE):TE:=fun σ H Q=>ta σ H fun x H1=>tb σ H1 fun y H2=>r x y H2 fun z H3=>∃k,z=.bl k ∧
 (if k=true then tc σ H3 fun w' H4=>r' y w' H4 Q else Q (.bl false) H3)
theorem BR{op op':CmpOp}{r r':R2}(ho:OpR X (compareOp op) r)(ho':OpR X (compareOp op') r')(ha:PE X a ta)(hb:PE X b tb)(hc:PE X c tc)
  (hm:lastMarks [op,op'] [b,c]=false:=by with_unfolding_all rfl):PE X (.Compare a [op,op'] [b,c] pos) (DO r r' ta tb tc):=by
 intro pins s σ H Q I h
 refine Compare_chain (thn (ha pins s σ H _ I h) fun v s1 ⟨x,H1,I1,r1,q1⟩=>chain_link (thn (hb pins s1 σ H1 _ I1 q1) fun u s2 ⟨y,H2,I2,r2,q2⟩ =>
  thn (ho pins s2 σ H2 x y v u _ I2 r1 r2 q2) fun d s3 ⟨z,H3,I3,r3,k,e,q3⟩=>?_)) hm
 subst e
 cases r3
 refine wpAny_truthy_bool ?_
 cases k with
 |false=>exact ite_ff ⟨.bl false,H3,I3,rfl,q3⟩
 |true=>exact ite_tt (chain_last (thn (hc pins s3 σ H3 _ I3 q3) fun w' s4 ⟨z',H4,I4,r4,q4⟩=>ho' pins s4 σ H4 y z' u w' Q I4 r2 r4 q4))
def TruV(K:PySem.W.Frag)(x:V)(H:Hp)(k:Bool):Prop :=
 match x with
 |.non=>k=false
 |.bl b=>k=b
 |.int i=>k=(i != 0)
 |.str y=>y.length≤sizeLine∧k=((y.length:Int) != 0)
 |.byt y=>y.size≤sizeLine∧k=((y.size:Int) != 0)
 |.ref p=>(∃xs,SqL K H p xs∧k=!xs.isEmpty)∨(∃xs,SqT K H p xs∧k=!xs.isEmpty)∨∃kvs,H p=some (.dK kvs)∧k=!kvs.isEmpty
 |_=>False
theorem xS{κ:Type}{kvs:List (κ×V)}{vs:List (κ×Value)}(r:KV kvs vs):(!vs.isEmpty)=!kvs.isEmpty:=by
 cases r<;>rfl
theorem qf{xs:List V}{its:List Value}(r:Vals xs its):(!its.toArray.isEmpty)=!xs.isEmpty:=by
 cases r<;>simp
theorem nO:(sizeLine:Nat)<2^63:=by rw[sizeLine_eq];decide
theorem GQ:TruR X (fun x H Q=>∃k,TruV X.K x H k∧Q k H):=by
 intro pins s σ H x v Q I rx h
 obtain⟨k,e,q⟩:=h
 have hl:=nO
 have hs:sizeLine=16777216:=sizeLine_eq
 cases x with
 | non =>
  cases rx
  have e':k=false:=e
  subst e'
  exact truthy_none ⟨H,I,q⟩
 | bl b =>
  cases rx
  have e':k=b:=e
  subst e'
  exact wpAny_truthy_bool ⟨H,I,q⟩
 | int i =>
  obtain⟨t,rfl⟩:=rx
  have e':k=(i != 0):=e
  subst e'
  exact PySem.P.truthy_int ⟨H,I,q⟩
 | str y =>
  obtain⟨t,rfl⟩:=rx
  obtain⟨hy,e'⟩:y.length≤sizeLine∧k=((y.length:Int) != 0):=e
  subst e'
  exact PySem.P.truthy_str (by omega) ⟨H,I.tok _,q⟩
 | byt y =>
  obtain⟨t,rfl⟩:=rx
  obtain⟨hy,e'⟩:y.size≤sizeLine∧k=((y.size:Int) != 0):=e
  subst e'
  exact PySem.W.truthy_bytes (by omega) ⟨H,I.tok _,q⟩
 | ref p =>
  cases rx
  have e':(∃xs,SqL X.K H p xs∧k=!xs.isEmpty)∨(∃xs,SqT X.K H p xs∧k=!xs.isEmpty)∨∃kvs,H p=some (.dK kvs)∧k=!kvs.isEmpty:=e
  rcases e' with⟨xs,hx,e'⟩|⟨xs,hx,e'⟩|⟨kvs,hx,e'⟩
  ·
   subst e'
   obtain⟨its,r,pl,hz⟩:=I.list hx
   have hlen:=r.length
   exact wpAny_truthy_list pl.isList (by simp only[List.size_toArray];omega) ⟨H,I.tok _,by rw[qf r];exact q⟩
  ·
   subst e'
   obtain⟨its,r,pl,hz⟩:=I.tuple hx
   have hlen:=r.length
   exact truthy_tuple pl (by simp only[List.size_toArray];omega) ⟨H,I.tok _,by rw[qf r];exact q⟩
  ·
   subst e'
   obtain⟨hz,hS,vs,r,m⟩:kvs.length≤sizeLine∧(p == sysModules)=false∧∃vs,KV kvs vs∧s.heap.DictOf (u9 X.prog X.w) p vs:=I.hok p _ hx
   have hlen:kvs.length=vs.length:=Paired.length r
   exact wpAny_truthy_dict hS m (by omega) ⟨H,I.tok _,by rw[xS r];exact q⟩
 |_=>exact(show False from e).elim
theorem BS(ha:PE X a ta)(he:∀whole,isTrue a X.env whole=(do let v ← whole;standAt a.pos;holding [v] (truthy v))) :
  PT X a (fun σ H Q=>ta σ H fun x H'=>∃k,TruV X.K x H' k∧Q k H'):=by
 intro pins s σ H Q I h
 exact isTrue_plain (thn (ha pins s σ H _ I h) fun v s1 ⟨x,H1,I1,r1,q1⟩=>GQ pins s1 σ H1 x v Q I1 r1 q1) (he _)
theorem xT:OpR X (binaryOp .Add) (fun x y H Q=>∃i j,x=.str i∧y=.str j∧i.length+j.length≤sizeLine∧Q (.str (i++j)) H):=by
 intro pins s σ H x y v u Q I rx ry h
 obtain⟨i,j,rfl,rfl,hz,q⟩:=h
 obtain⟨t,rfl⟩:=rx
 obtain⟨t',rfl⟩:=ry
 exact add_str (fun t' tk=>⟨.str (i++j),H,I.tok _,⟨_,rfl⟩,q⟩) hz
theorem qM{x:V}{us:List Value}(r:Vals [x] us):∃u,us=[u]∧RelV x u:=by
 cases r with
 |cons r1 r2=>cases r2;exact⟨_,rfl,r1⟩
theorem IH{x y:V}{us:List Value}(r:Vals [x,y] us):∃u w',us=[u,w']∧RelV x u∧RelV y w':=by
 cases r with
 | cons r1 r2 =>
  cases r2 with
  |cons r3 r4=>cases r4;exact⟨_,_,rfl,r1,r3⟩
theorem BU:jB X (.builtin "abs") (fun xs H Q=>∃ i,xs=[.int i]∧Q (.int (if i < 0 then -i else i)) H):=by
 intro pins s σ H xs us Q I r h
 obtain⟨i,rfl,q⟩:=h
 obtain⟨u,rfl,t,rfl⟩:=qM r
 exact call_abs_int fun u tk=>⟨.int (if i<0 then -i else i),H,I.tok _,⟨_,rfl⟩,q⟩
theorem y3:jB X (.type "int") (fun xs H Q=>(∃ i,xs=[.int i]∧Q (.int i) H)∨∃ k,xs=[.bl k]∧Q (.int (if k then 1 else 0)) H):=by
 intro pins s σ H xs us Q I r h
 rcases h with⟨i,rfl,q⟩|⟨k,rfl,q⟩
 ·
  obtain⟨u,rfl,t,rfl⟩:=qM r
  exact call_int_int ⟨.int i,H,I,⟨_,rfl⟩,q⟩
 ·
  obtain⟨u,rfl,r1⟩:=qM r
  cases r1
  exact call_int_bool ⟨.int (if k then 1 else 0),H,I.tok _,⟨_,rfl⟩,q⟩
end
structure Cls (K:PySem.W.Frag) (C:Addr):Prop where
 pg:PySem.W.plainGet K C Str.empty=true
 hd:PySem.W.hasDictIn K C=true
 po:PySem.W.plainOver K C=true
 sa:PySem.W.findIn K (.ref C) "__setattr__"=some (some (.builtin "object.__setattr__"))
theorem Cls.get{K:PySem.W.Frag}{C:Addr}(c:Cls K C)(f:Str):PySem.W.plainGet K C f=true:=c.pg
structure Room (k:Nat) (A:Around):Prop where
 hd:A.handled=none
 dp:A.depth+3*k+5<recursionLimit
 un:A.units+16*k+200<cLine
 gd:A.guards=some []
theorem Room.mono{j k:Nat}{A:Around}(r:Room k A)(h:j≤k):Room j A:=⟨r.hd,by have:=r.dp;omega,by have:=r.un;omega,r.gd⟩
theorem Room.deeper{k:Nat}{A:Around}(r:Room (k+1) A)(env:Env):Room k (A.deeper env) :=
 ⟨r.hd,by have:=r.dp;show A.depth+1+3*k+5<_;omega,by have:=r.un;show A.units+3+16*k+200<_;omega,r.gd⟩
theorem Room.depth{k:Nat}{A:Around}(r:Room k A):A.depth<recursionLimit:=by have:=r.dp;omega
theorem Room.units{k:Nat}{A:Around}(r:Room k A):A.units+64<cLine:=by have:=r.un;omega
def tNil:TA:=fun _ H Q=>Q [] H
def II(ta:TE)(tr:TA):TA:=fun σ H Q=>ta σ H fun x H1=>tr σ H1 fun xs H2=>Q (x::xs) H2
section
variable{X:Cx}{e:Expr}{es:List Expr}{te:TE}{t:TA}{pos:Pos}
theorem km:PA X [] tNil:=fun _ _ _ _ H Q I h=>Calls.spliced_nil ⟨[],H,I,.nil,h⟩
theorem di(ha:PE X e te)(hr:PA X es t)(hs:starEach (e::es) X.env=(false,eval e X.env)::starEach es X.env:=by rfl):PA X (e::es) (II te t):=by
 intro pos pins s σ H Q I h
 rw[hs]
 show wpAny _ _ (spliced ((false,eval e X.env)::backTo pos (starEach es X.env))) _ _ s
 refine Calls.spliced_cons (thn (ha pins s σ H _ I h) fun u s1 ⟨x,H1,I1,r1,q1⟩=>?_)
 exact thn (hr pos pins s1 σ H1 _ I1 q1) fun us s2 ⟨xs,H2,I2,r2,q2⟩=>⟨x::xs,H2,I2,.cons r1 r2,q2⟩
end
abbrev Sp:=List V→Hp→VK→XK→Prop
abbrev CXT:=List Env→Hp→Shared→XK→Value→Shared→Prop
structure Env0 (P:Program) (w:World) (K:PySem.W.Frag) (mg:Str→Option Value) (base:Heap) (A:Around) (outer:List Env) (s:Shared) (H:Hp):Prop where
 frames:A.frames=some outer
 mod:Mod K mg base
 bs:∀b o,base.get? b=some o→s.heap.get? b=some o∧H b=none
 bsz:base.objs.size≤s.heap.objs.size
 funs:s.heap.FunFrames base outer
 frf:∀b∈frs outer,H b=none
 hok:HOk P w H s.heap
 bare:AllBare s.gens
def CE(outer:List Env)(P:Program)(w:World)(H:Hp)(s:Shared)(Q:VK)(u:Value)(s':Shared):Prop :=
 ∃v H',s'.os=s.os∧AllBare s'.gens∧Un (frs outer) [] H H' s.heap s'.heap∧HOk P w H' s'.heap∧RelV v u∧Q v H'
def CR(CX:CXT)(outer:List Env)(P:Program)(w:World)(H:Hp)(s:Shared)(Q:VK)(E:XK)(r:Result)(s':Shared):Prop :=
 match r with
 |.ok (.ret u)=>CE outer P w H s Q u s'
 |.ok _=>False
 |.error e=>CX outer H s E e s'
structure FnOk (P:Program) (w:World) (K:PySem.W.Frag) (mg:Str→Option Value) (base:Heap) (CX:CXT) (k:Nat) (f:Addr) (fd:FuncData) (ps:List Str) (sp:Sp):Prop where
 len:∀vs H Q E,sp vs H Q E→vs.length=ps.length
 run:∀(A:Around)(outer:List Env)(s:Shared)(H:Hp)(args:Args)(us:List Value)(vs:List V)(Q:VK)(E:XK),Room k A→Env0 P w K mg base A outer s H→BindsTo s fd args (ps.zip us)→Vals vs us→sp vs H Q E →
  codeAny (model P w) A (.call (.ref f) args) (CR CX outer P w H s Q E) s
section
variable{X:Cx}{pins:List (Addr×Obj)}{σ:St}{H:Hp}{s s':Shared}
theorem Inv.env0(I:Inv X pins σ H s):Env0 X.prog X.w X.K X.mg X.base X.A X.stack s H :=
 ⟨I.ok.frames,I.ok.mod,I.bs,Nat.le_trans I.ok.bsz I.sz,I.stack,I.stkFree,I.hok,I.bare⟩
theorem Inv.after{Q:VK}{u:Value}(I:Inv X pins σ H s)(h:CE X.stack X.prog X.w H s Q u s'):EP X pins σ Q u s':=by
 obtain⟨v,H',os,bare,un,hok,r,q⟩:=h
 obtain⟨hh,g,d,t,os'⟩:=s'
 obtain rfl:os'=s.os:=os
 exact⟨v,H',I.call (h':=hh) (g':=g) (d':=d) (t':=t) (ch:=[]) un hok bare (fun b z=>absurd z (by simp)),r,q⟩
end
def vb(K:PySem.W.Frag)(fd:FuncData)(ps:List Str)(ds:List Value):Prop :=
 ∀(s:Shared)(us:List Value),K.In s.heap→(us++ds).length=ps.length→BindsTo s fd ⟨us,[]⟩ (ps.zip (us++ds))
theorem vb.all{K:PySem.W.Frag}{fd:FuncData}{ps:List Str}(h:∀us:List Value,us.length=ps.length→bindArgs fd ⟨us,[]⟩=pure (ps.zip us)):vb K fd ps []:=fun s us _ hl=>by
 rw[List.append_nil]at hl ⊢
 exact .of_eq (h us hl)
def wL(CX:CXT)(X:Cx)(E:XK):Prop:=∀(pins:List (Addr×Obj))(σ:St)(H:Hp)(s:Shared)(e:Value)(s':Shared),Inv X pins σ H s→CX X.stack H s E e s'→X.xe e s'
section
variable{X:Cx}{CX:CXT}{k:Nat}{f:Addr}{fd:FuncData}{ps:List Str}{sp:Sp}{dvs:List V}{ds:List Value}{E:XK}{e:Expr}
theorem DP{pins:List (Addr×Obj)}{σ:St}{H:Hp}{s:Shared}{Q:VK}{us:List Value}{vs:List V}(F:FnOk X.prog X.w X.K X.mg X.base CX k f fd ps sp)(hr:Room k X.A)(hb:vb X.K fd ps ds)(hd:Vals dvs ds)(hx:wL CX X E)
  (I:Inv X pins σ H s) (r:Vals vs us) (h:sp (vs++dvs) H Q E):wpAny (model X.prog X.w) X.A (call (.ref f) us) (EP X pins σ Q) X.xe s:=by
 have r2:Vals (vs++dvs) (us++ds):=r.append hd
 have hl:(us++ds).length=ps.length:=by rw[← r2.length];exact F.len _ _ _ _ h
 refine wpAny_call (codeAny_mono (F.run X.A X.stack s H ⟨us,[]⟩ (us++ds) (vs++dvs) Q E hr I.env0 (hb s us I.kIn hl) r2 h) fun r s' hq=>?_)
 cases r with
 |error e=>exact hx pins σ H s e s' I hq
 | ok fl =>
  cases fl with
  |ret u=>exact I.after hq
  |next=>exact False.elim hq
  |brk=>exact False.elim hq
  |cont=>exact False.elim hq
end
structure ax (N P:List Str) (sc:Scope):Prop where
 kind:sc.kind=.function
 co:sc.isCoroutine=false
 gen:sc.isGenerator=false
 nd:N.Nodup
 pre:N.take P.length=P
 par:∀x∈P,sc.names.lookup x=some .local∨sc.names.lookup x=some .cell
 nofree:∀y∈sc.names,y.2≠.free
theorem td{kindOf:Str→Option NameKind}{x:Str}:∀{binds:List (Str×Value)}{m:Str→Option Value},(∀v,(x,v)∉binds)→bindL kindOf binds m x=m x
 |[],_,_=>rfl
 | (n,v)::r,m,h=>by
  unfold bindL
  rw[td fun w hw=>h w (List.mem_cons_of_mem _ hw)]
  split
  ·
   have:x≠n:=by rintro rfl;exact h v List.mem_cons_self
   simp[this]
  ·
   rfl
theorem tf{kindOf:Str→Option NameKind}{x:Str}:∀{binds:List (Str×Value)}{m:Str→Option Value},(∀v,(x,v)∉binds)→bindC kindOf binds m x=m x
 |[],_,_=>rfl
 | (n,v)::r,m,h=>by
  unfold bindC
  rw[tf fun w hw=>h w (List.mem_cons_of_mem _ hw)]
  split
  ·
   rfl
  ·
   have:x≠n:=by rintro rfl;exact h v List.mem_cons_self
   simp[this]
theorem tj{kindOf:Str→Option NameKind}{x:Str}{v:Value}:∀{P:List Str}{vs:List Value}{i:Nat}{m:Str→Option Value},P.Nodup→P[i]?=some x→vs[i]?=some v→kindOf x=some .local →
  bindL kindOf (P.zip vs) m x=some v
 |[],_,_,_,_,h,_,_=>by simp at h
 |_::_,[],_,_,_,_,h,_=>by simp at h
 | p::P,w::vs,0,m,nd,h1,h2,hk=>by
  simp at h1 h2;subst h1;subst h2
  show bindL kindOf ((p,w)::P.zip vs) m p=_
  unfold bindL
  rw[td fun v hv=>(List.nodup_cons.mp nd).1 (List.of_mem_zip hv).1,if_pos hk]
  simp
 | p::P,w::vs,i+1,m,nd,h1,h2,hk=>by
  show bindL kindOf ((p,w)::P.zip vs) m x=_
  unfold bindL
  exact tj (i:=i) (List.nodup_cons.mp nd).2 (by simpa using h1) (by simpa using h2) hk
theorem tq{kindOf:Str→Option NameKind}{x:Str}{v:Value}:∀{P:List Str}{vs:List Value}{i:Nat}{m:Str→Option Value},P.Nodup→P[i]?=some x→vs[i]?=some v→kindOf x≠some .local →
  bindC kindOf (P.zip vs) m x=some v
 |[],_,_,_,_,h,_,_=>by simp at h
 |_::_,[],_,_,_,_,h,_=>by simp at h
 | p::P,w::vs,0,m,nd,h1,h2,hk=>by
  simp at h1 h2;subst h1;subst h2
  show bindC kindOf ((p,w)::P.zip vs) m p=_
  unfold bindC
  rw[tf fun v hv=>(List.nodup_cons.mp nd).1 (List.of_mem_zip hv).1,if_neg hk]
  simp
 | p::P,w::vs,i+1,m,nd,h1,h2,hk=>by
  show bindC kindOf ((p,w)::P.zip vs) m x=_
  unfold bindC
  exact tq (i:=i) (List.nodup_cons.mp nd).2 (by simpa using h1) (by simpa using h2) hk
def qN(N:List Str)(vs:List V):St:=vs.map some++List.replicate (N.length-vs.length) none
def cxOf(CX:CXT)(P:Program)(w:World)(K:PySem.W.Frag)(mg:Str→Option Value)(base:Heap)(N:List Str)(qual:Str)(scope:Scope)(f:Addr)(cd:Value)(A:Around)(outer:List Env)(s:Shared)(H:Hp)(E:XK):Cx where
 prog:=P
 w:=w
 K:=K
 mg:=mg
 base:=base
 A:=A.deeper (envOfC qual scope s.heap.objs.size f cd)
 N:=N
 s₀:=s
 H₀:=H
 env:=envOfC qual scope s.heap.objs.size f cd
 outer:=outer
 stack:=envOfC qual scope s.heap.objs.size f cd::outer
 ex:=[]
 calm:=true
 fn:=fun _=>true
 pn:=[]
 xe:=fun e s'=>wpAny (model P w) (A.deeper (envOfC qual scope s.heap.objs.size f cd)) (leaving (envOfC qual scope s.heap.objs.size f cd) e) (fun _ s''=>CX outer H s E e s'') (fun e' s''=>CX outer H s E e' s'') s'
theorem wM{sc:Scope}{n:Nat}{x:Str}(h:sc.names.lookup x=some .cell):∃c,(cellsFrom n sc.names []).lookup x=some c:=by
 have q:=PySem.W.cellsFrom_some sc.names n [] (.inl h)
 exact Option.isSome_iff_exists.mp q
theorem y4{CX:CXT}{P:Program}{w:World}{K:PySem.W.Frag}{mg:Str→Option Value}{base:Heap}{N ps:List Str}{qual:Str}{scope:Scope}{f:Addr}{cd:Value}{A:Around}{outer:List Env}{s s1:Shared}{H:Hp}{E:XK}{us:List Value}{vs:List V}
  (S:ax N ps scope) (hd:A.handled=none) (e0:Env0 P w K mg base A outer s H) (hl:vs.length=ps.length) (r:Vals vs us)
  (x:InCallC s s.heap.objs.size (bindL (envOfC qual scope s.heap.objs.size f cd).kindOf (ps.zip us) fun _=>none) (cellsFrom (s.heap.objs.size+1) scope.names []) (bindC (envOfC qual scope s.heap.objs.size f cd).kindOf (ps.zip us) fun _=>none) s1) :
  Inv (cxOf CX P w K mg base N qual scope f cd A outer s H E) [] (qN N vs) H s1:=by
 have hpl:ps.length≤N.length:=by have:=congrArg List.length S.pre;rw[List.length_take]at this;omega
 obtain⟨h1,tk,rfl,hk⟩:=x.done
 have noA:∀b:Addr,b∉(cxOf CX P w K mg base N qual scope f cd A outer s H E).ex:=fun b z=>absurd (show b∈([]:List Addr)from z) (by simp)
 refine⟨⟨e0.mod,S.kind,rfl,rfl,Nat.le_refl _,fun y z c h1 h2=>?_,fun y hy=>?_,fun y c _ h=>?_,fun _=>hd,Around.frames_deeper e0.frames,.inr ⟨rfl,rfl⟩,fun b z=>absurd z (noA b),e0.bs,e0.bsz,fun b _ _=>noA b,fun b z=>absurd z (noA b),e0.funs,e0.frf⟩,
  rfl,e0.bare,Un.kept hk,⟨_,x.toInCall.ns,fun i y v h1 h2 h3=>?_⟩,fun y c h=>⟨_,x.cell y c h⟩,e0.hok.fresh (Nat.le_refl _),fun y c h=>?_,fun p hp=>absurd (show p∈([]:List (Addr×Obj))from hp) (by simp),e0.hok.kept hk,?_⟩
 ·
  exact name_of_addr x.apart (PySem.mem_of_lookup h1) (PySem.mem_of_lookup h2)
 ·
  have hy:scope.names.lookup y=some .cell∨scope.names.lookup y=some .free:=hy
  rcases hy with hy|hy
  ·
   exact wM hy
  ·
   exact absurd rfl (S.nofree _ (PySem.mem_of_lookup hy))
 ·
  exact Nat.le_of_lt (x.above y c (PySem.mem_of_lookup h))
 ·
  have hi:i<vs.length:=by
   unfold qN at h2
   by_cases hi:i<vs.length
   ·
    exact hi
   ·
    rw[List.getElem?_append_right (by simpa using hi)]at h2
    rw[List.getElem?_replicate]at h2
    split at h2<;>cases h2
  have ha:vs[i]?=some v:=by
   unfold qN at h2
   rw[List.getElem?_append_left (by simpa using hi),List.getElem?_map]at h2
   cases e:vs[i]? with
   |none=>rw[e]at h2;cases h2
   |some a=>rw[e]at h2;cases h2;rfl
  obtain⟨u,hu,rv⟩:=r.get ha
  have hp:ps[i]?=some y:=by
   rw[← S.pre,List.getElem?_take_of_lt (by omega)];exact h1
  have ndP:ps.Nodup:=by rw[← S.pre];exact S.nd.sublist (List.take_sublist _ _)
  refine⟨u,rv,?_⟩
  rcases S.par y (List.mem_of_getElem? hp)with k|k
  ·
   exact .inl ⟨k,tj ndP hp hu k⟩
  ·
   obtain⟨c,e⟩:=wM (n:=s.heap.objs.size+1) k
   refine .inr ⟨.inl k,c,e,?_⟩
   have q:=x.cell y c e
   rw[tq ndP hp hu (by show scope.names.lookup y≠_;rw[k];decide)]at q
   exact q
 ·
  exact e0.hok.fresh (Nat.le_of_lt (x.above y c (PySem.mem_of_lookup h)))
 ·
  unfold qN
  show _=N.length
  rw[List.length_append,List.length_map,List.length_replicate]
  omega
theorem IJ{CX:CXT}{P:Program}{w:World}{K:PySem.W.Frag}{mg:Str→Option Value}{base:Heap}{k:Nat}{f:Addr}{name qual:Str}{params:Arguments}{body:List Stmt}{scope:Scope}{dV kV doc pm cdv ct oc:Value}{an od:Option Addr}
  {osl:Array (Option Value)} {N ps:List Str} {sp:Sp} (lk:K.lookup f=some ⟨oc,od,.func (PySem.W.fnOf name qual params body scope dV kV doc pm an cdv ct),osl⟩) (hcd:PySem.W.codeIn K cdv qual=true) (S:ax N ps scope)
  (len:∀vs H Q E,sp vs H Q E→vs.length=ps.length)
  (hbody:∀(A:Around)(outer:List Env)(s:Shared)(H:Hp)(vs:List V)(Q:VK)(E:XK),Room k (A.deeper (envOfC qual scope s.heap.objs.size f cdv))→sp vs H Q E →
   ∃t,PSs (cxOf CX P w K mg base N qual scope f cdv A outer s H E) body t∧t {nx:=fun _ H'=>Q .non H',rt:=Q} (qN N vs) H) :
  FnOk P w K mg base CX (k+1) f (PySem.W.fnOf name qual params body scope dV kV doc pm an cdv ct) ps sp:=by
 refine⟨len,fun A outer s H args us vs Q E hr e0 hb r hsp=>?_⟩
 have hl:=len _ _ _ _ hsp
 have KX:K.In s.heap:=e0.mod.kin.keeps fun b o e=>(e0.bs b o e).1
 have lim:s.heap.NoLimit:=e0.mod.nolimit.keeps fun b o e=>(e0.bs b o e).1
 have hkind:∀y∈ps.zip us,scope.names.lookup y.1=some .local∨(scope.names.lookup y.1=some .cell∧((cellsFrom (s.heap.objs.size+1) scope.names []).lookup y.1).isSome=true):=fun⟨n,v⟩ hy=>by
  rcases S.par n (List.of_mem_zip hy).1 with q|q
  ·
   exact .inl q
  ·
   exact .inr ⟨q,PySem.W.cellsFrom_some _ _ _ (.inl q)⟩
 refine codeAny_call_function hr.depth (KX _ _ lk) rfl S.co S.gen rfl (PySem.W.codeRec_of KX hcd) (hb _ _ _ _ ?_)
 refine wpAny_newFunctionEnv_cells S.kind hkind fun env he s1 x=>?_
 subst he
 refine⟨lim.keeps x.toInCall.keep,codeAny_func ?_⟩
 obtain⟨t,ht,hq⟩:=hbody A outer s H vs Q E (hr.deeper _) hsp
 have I:Inv (cxOf CX P w K mg base N qual scope f cdv A outer s H E) [] (qN N vs) H s1:=y4 S hr.hd e0 hl r x
 refine wpAny_mono (ht [] s1 (qN N vs) H _ I hq) (fun fl s' hs=>?_) fun e s' hs=>hs
 have fin:∀{σ':St}{H':Hp}{v:V}{u:Value},Inv (cxOf CX P w K mg base N qual scope f cdv A outer s H E) [] σ' H' s'→RelV v u→Q v H'→CE outer P w H s Q u s' :=
  fun {σ' H' v u} J rv q=>⟨v,H',J.os,J.bare,J.base,J.hok,rv,q⟩
 cases fl with
 | ret u =>
  obtain⟨v,σ',H',J,rv,q⟩:=hs
  exact fin J rv q
 | next =>
  obtain⟨σ',H',J,q⟩:=hs
  exact fin (v:=V.non) (u:=Value.none) J rfl q
 | brk =>
  obtain⟨_,_,_,q⟩:=hs
  exact False.elim q
 | cont =>
  obtain⟨_,_,_,q⟩:=hs
  exact False.elim q
section
variable{X:Cx}{x:Str}{p pos:Pos}{e:Expr}{es:List Expr}{t:TA}{id:String}{r:List V→Hp→VK→Prop}
def tCB(r:List V→Hp→VK→Prop)(t:TA):TE:=fun σ H Q=>t σ H fun vs H1=>r vs H1 Q
theorem wN(hc:jB X (.builtin id) r)(hg:Gl X x)(hm:X.mg x=none)(hv:bootBuiltins x=some (.builtin id))(ha:PA X (e::es) t) (hn:x≠"__name__":=by decide) (hdb:(x == ("__debug__" : Str))=false:=by decide)
  (he:starEach (e::es) X.env=(false,eval e X.env)::starEach es X.env:=by rfl) (hpl:(backTo pos (starEach es X.env)).any (·.1)=false:=by rfl):PE X (.Call (.Name x p) (e::es) [] pos) (tCB r t):=by
 intro pins s σ H Q I h
 refine wpAny_Call_Name_kw (gH I hg hm hv ?_ hn hdb)
 exact PyProof.Rows.callWith_builtin1 (thn (ha pos pins s σ H _ I h) fun us s1 ⟨vs,H1,I1,r1,q1⟩=>hc pins s1 σ H1 vs us Q I1 r1 q1) he hpl
end
end L2
namespace HT
open PySem PyProof.Rows
section
variable{prog:Program}{w:World}{A:Around}{E:Value→Shared→Prop}{s:Shared}
def sIx(n d:Nat):Option Int→Nat
 |none=>d
 |some v=>if v<0 then(v+(n:Int)).toNat else min v.toNat n
theorem GR(n d:Nat)(hd:d≤n)(o:Option Int):sIx n d o≤n:=by
 cases o with
 |none=>exact hd
 | some v =>
  show(if v<0 then(v+(n:Int)).toNat else min v.toNat n)≤n
  by_cases hv:v<0
  ·
   rw[if_pos hv];omega
  ·
   rw[if_neg hv];exact Nat.min_le_right _ _
theorem y6(v:Int)(n d:Nat):(if v<0 then max (v+(n:Int)) 0 else min v (n:Int))=((sIx n d (some v):Nat):Int):=by
 show(if v<0 then max (v+(n:Int)) 0 else min v (n:Int))=(((if v<0 then(v+(n:Int)).toNat else min v.toNat n):Nat):Int)
 by_cases hv:v<0
 ·
  simp only[if_pos hv];omega
 ·
  simp only[if_neg hv];omega
theorem xU(lo hi:Option Int)(n:Nat):Builtin.Slice.sliceAdjust lo hi 1 (n:Int)=(((sIx n 0 lo:Nat):Int),((sIx n n hi:Nat):Int)):=by
 have h1:¬((1:Int)<0):=by omega
 unfold Builtin.Slice.sliceAdjust
 simp only[h1,if_false]
 refine Prod.ext ?_ ?_
 ·
  cases lo with
  |none=>rfl
  |some v=>exact y6 v n 0
 ·
  cases hi with
  |none=>rfl
  |some v=>exact y6 v n n
theorem xV(i j:Nat):Builtin.Slice.slicePlaces (i:Int) (j:Int) 1=j-i:=by
 unfold Builtin.Slice.slicePlaces
 have h1:(1:Int) > 0:=by omega
 simp only[h1,if_true,Int.ediv_one]
 split<;>omega
theorem qg{v:Value}{o:Option Int}{Q:Option Int→Shared→Prop}(p:IsPart v o)(h:Q o s):wpAny (model prog w) A (Builtin.Slice.slicePartIndex v) Q E s:=by
 cases p with
 |none=>exact slicePart_none h
 |int i t=>exact slicePart_int h
theorem m6{sl:Addr}{vl vu:Value}{lo hi:Option Int}{n:Nat}{Q:Int×Int×Nat→Shared→Prop}(hs:s.heap.IsSliceOf sl vl vu .none)(pl:IsPart vl lo)(pu:IsPart vu hi)
  (h:Q (((sIx n 0 lo:Nat):Int),1,sIx n n hi-sIx n 0 lo) s):wpAny (model prog w) A (Builtin.Slice.sliceApplied (.ref sl) (pure (n:Int))) Q E s:=by
 obtain⟨os,hos,hcs,hds⟩:=id hs
 unfold Builtin.Slice.sliceApplied Builtin.Slice.sliceFields
 refine wpAny_bind (wpAny_bind (wpAny_field hos hds (x:=vl) rfl (wpAny_bind (wpAny_field hos hds (x:=vu) rfl (wpAny_bind (wpAny_field hos hds (x:=.none) rfl (wpAny_pure ?_)))))))
 refine wpAny_bind (slicePart_none ?_)
 show wpAny _ _ (if((1:Int) == 0)=true then _ else _) _ _ s
 rw[if_neg (by decide)]
 refine wpAny_bind (qg pl (wpAny_bind (qg pu (wpAny_bind (wpAny_pure ?_)))))
 show wpAny _ _ (match Builtin.Slice.sliceAdjust lo hi 1 (n:Int)with|(lo,hi)=>pure (lo,(1:Int),Builtin.Slice.slicePlaces lo hi 1)) _ _ s
 rw[xU lo hi n]
 show wpAny _ _ (pure (((sIx n 0 lo:Nat):Int),(1:Int),Builtin.Slice.slicePlaces ((sIx n 0 lo:Nat):Int) ((sIx n n hi:Nat):Int) 1)) _ _ s
 rw[xV]
 exact wpAny_pure h
theorem BV(xs:Array Value)(i k:Nat):((List.range k).filterMap fun (m:Nat)=>xs[((i:Int)+(m:Int)*1).toNat]?).toArray=((xs.toList.drop i).take k).toArray:=by
 have e:(fun (m:Nat)=>xs[((i:Int)+(m:Int)*1).toNat]?)=fun m=>xs[i+m]?:=by
  funext m
  have:((i:Int)+(m:Int)*1).toNat=i+m:=by omega
  rw[this]
 rw[e]
 have:=pick_run xs i k
 rw[List.filterMap_map]at this
 have e2:((fun x=>xs[x]?) ∘ fun x=>i+x)=fun m=>xs[i+m]?:=rfl
 rw[e2]at this
 rw[this]
theorem getItem_tuple_cut{t sl:Addr}{items:Array Value}{vl vu:Value}{lo hi:Option Int}{Q:Value→Shared→Prop}(ht:IsTup s.heap t items)(hs:s.heap.IsSliceOf sl vl vu .none)(pl:IsPart vl lo)(pu:IsPart vu hi)
  (hw:¬(sIx items.size 0 lo=0∧sIx items.size items.size hi=items.size))
  (h:Q (.ref s.heap.objs.size) {s with heap:=s.heap.push {cls:=.type "tuple",data:=.seq ((items.toList.drop (sIx items.size 0 lo)).take (sIx items.size items.size hi-sIx items.size 0 lo)).toArray} })
  (hsz:items.size≤sizeLine):wpAny (model prog w) A (getItem (.ref t) (.ref sl)) Q E s:=by
 have htake:sizeOk (.seq ((items.toList.drop (sIx items.size 0 lo)).take (sIx items.size items.size hi-sIx items.size 0 lo)).toArray):=by
  show((items.toList.drop (sIx items.size 0 lo)).take (sIx items.size items.size hi-sIx items.size 0 lo)).toArray.size≤sizeLine
  rw[List.size_toArray,List.length_take,List.length_drop,Array.length_toList]
  omega
 have hj:sIx items.size items.size hi≤items.size:=GR _ _ (Nat.le_refl _) hi
 obtain⟨os,hos,hcs,hds⟩:=id hs
 have hTs:s.TypeIs (.ref sl) "slice":=⟨os,hos,hcs⟩
 unfold getItem
 try with_reducible refine wpAny_holding ?_
 first|refine wpAny_bind (wpAny_pure ?_)|skip
 refine wpAny_bind (wpAny_sequenceKey ht.typeIs (by decide) ?_)
 refine wpAny_bind (wpAny_callSpecial?_slot (name:=Str.ofString "__getitem__") ht.typeIs PyProof.Rows.slot_tuple_getitem
  (wpAny_call_entry PyProof.Rows.slot_tuple_getitem ht.typeIs entry_tuple_getitem ?_ (args_tuple_getitem _ _)))
 show wpAny _ _ (Builtin.Tuple.tupleItemsOf (.ref t) >>= _) _ _ s
 refine wpAny_bind (tupleItemsOf_ ht ?_)
 refine wpAny_bind (wpAny_typeOf hTs ?_)
 rw[if_pos (by decide)]
 refine wpAny_bind (m6 hs pl pu ?_)
 have hno:¬((((sIx items.size 0 lo:Nat):Int) == 0 && (1:Int) == 1 && (sIx items.size items.size hi-sIx items.size 0 lo) == items.size)=true):=by
  intro q
  rw[Bool.and_eq_true,Bool.and_eq_true]at q
  have q1:((sIx items.size 0 lo:Nat):Int)=0:=eq_of_beq q.1.1
  have q2:sIx items.size items.size hi-sIx items.size 0 lo=items.size:=eq_of_beq q.2
  exact hw ⟨by omega,by omega⟩
 show wpAny _ _ (if(((sIx items.size 0 lo:Nat):Int) == 0 && (1:Int) == 1 && (sIx items.size items.size hi-sIx items.size 0 lo) == items.size)=true then _ else _) _ _ s
 rw[if_neg hno,BV]
 first
  |exact wpAny_bind (m:=Builtin.Tuple.tupleExact _) (wpAny_newObj_type (wpAny_pure ⟨_,rfl,wpAny_pure h⟩) htake)
  |exact wpAny_bind (m:=Builtin.Tuple.tupleExact _) (wpAny_newObj_type (wpAny_bind (wpAny_pure (wpAny_pure ⟨_,rfl,wpAny_pure h⟩))) htake)
  |exact wpAny_bind (wpAny_bind (m:=Builtin.Tuple.tupleExact _) (wpAny_newObj_type (wpAny_pure (wpAny_pure ⟨_,rfl,wpAny_pure h⟩)) htake))
  |exact wpAny_bind (wpAny_bind (m:=Builtin.Tuple.tupleExact _) (wpAny_newObj_type (wpAny_pure ⟨_,rfl,wpAny_pure h⟩) htake))
end
end HT
namespace L2
open PySem PySem.Spec PyProof.Rows
abbrev TO:=St→Hp→(Option Int→Hp→Prop)→Prop
def PO(X:Cx)(e:Option Expr)(t:TO):Prop :=
 ∀(pins:List (Addr×Obj))(s:Shared)(σ:St)(H:Hp)(Q:Option Int→Hp→Prop),Inv X pins σ H s→t σ H Q →
  wpAny (model X.prog X.w) X.A (evalPart e X.env) (fun u s'=>∃o H',Inv X pins σ H' s'∧IsPart u o∧Q o H') X.xe s
def Ej:TO:=fun _ H Q=>Q none H
def IK(t:TE):TO:=fun σ H Q=>t σ H fun x H1=>∃i,x=.int i∧Q (some i) H1
section
variable{X:Cx}{e:Expr}{te:TE}{lo hi:Option Expr}{tl th:TO}{pos p2:Pos}
theorem Ek:PO X none Ej:=by
 intro pins s σ H Q I h
 rw[evalPart_none]
 exact wpAny_pure ⟨none,H,I,.none,h⟩
theorem El(h:PE X e te):PO X (some e) (IK te):=by
 intro pins s σ H Q I hw
 rw[evalPart_some]
 refine thn (h pins s σ H _ I hw) fun u s1 ⟨x,H1,I1,r1,q1⟩=>?_
 obtain⟨i,rfl,q⟩:=q1
 obtain⟨t,rfl⟩:=r1
 exact⟨some i,H1,I1,.int i t,q⟩
def SlR(X:Cx)(r:V→Option Int→Option Int→Hp→VK→Prop):Prop :=
 ∀(pins:List (Addr×Obj))(s:Shared)(σ:St)(H:Hp)(x:V)(v vl vu:Value)(lo hi:Option Int)(sl:Addr)(Q:VK),Inv X pins σ H s→RelV x v→s.heap.IsSliceOf sl vl vu .none→IsPart vl lo→IsPart vu hi→r x lo hi H Q →
  ∃ T id,typeLookup (.type T) "__getitem__"=pure (some (.builtin id))∧s.TypeIs v T∧wpAny (model X.prog X.w) X.A (getItem v (.ref sl)) (EP X pins σ Q) X.xe s
theorem SlR.or{r r':V→Option Int→Option Int→Hp→VK→Prop}(h:SlR X r)(h':SlR X r'):SlR X (fun x lo hi H Q=>r x lo hi H Q∨r' x lo hi H Q):=by
 intro pins s σ H x v vl vu lo hi sl Q I rx hs pl pu q
 rcases q with q|q
 ·
  exact h pins s σ H x v vl vu lo hi sl Q I rx hs pl pu q
 ·
  exact h' pins s σ H x v vl vu lo hi sl Q I rx hs pl pu q
def tSl(r:V→Option Int→Option Int→Hp→VK→Prop)(te:TE)(tl th:TO):TE:=fun σ H Q=>te σ H fun x H1=>tl σ H1 fun l H2=>th σ H2 fun u H3=>r x l u H3 Q
theorem BW{r:V→Option Int→Option Int→Hp→VK→Prop}(hr:SlR X r)(he:PE X e te)(hl:PO X lo tl)(hu:PO X hi th):PE X (.Subscript e (.Slice lo hi none p2) pos) (tSl r te tl th):=by
 intro pins s σ H Q I h
 refine Subscript_ (thn (he pins s σ H _ I h) fun v s1 ⟨x,H1,I1,r1,q1⟩=>?_)
 refine wpAny_Slice (thn (hl pins s1 σ H1 _ I1 q1) fun vl s2 ⟨l,H2,I2,pl,q2⟩=>thn (hu pins s2 σ H2 _ I2 q2) fun vu s3 ⟨u,H3,I3,pu,q3⟩=>?_)
 rw[evalPart_none]
 refine wpAny_pure ?_
 have I4:Inv X pins σ H3 {s3 with heap:=s3.heap.push {cls:=.type "slice",data:=.fields #[vl,vu,.none] } }:=I3.kept (t':=s3.toks) fun b ob q=>Heap.get?_push_of_some _ q
 obtain⟨T,id,hT,ht,hg⟩:=hr pins {s3 with heap:=s3.heap.push {cls:=.type "slice",data:=.fields #[vl,vu,.none] } } σ H3 x v vl vu l u s3.heap.objs.size Q I4 r1 (Heap.IsSliceOf.new ..) pl pu q3
 show wpAny (model X.prog X.w) X.A (subscriptTail e (.Slice lo hi none p2) v (.ref s3.heap.objs.size)) (EP X pins σ Q) X.xe {s3 with heap:=s3.heap.push {cls:=.type "slice",data:=.fields #[vl,vu,.none] } }
 exact tail_any (ops:=[.ref s3.heap.objs.size,v]) ht hT hg (by with_unfolding_all rfl)
def cutV(xs:List V)(lo hi:Option Int):List V:=(xs.drop (HT.sIx xs.length 0 lo)).take (HT.sIx xs.length xs.length hi-HT.sIx xs.length 0 lo)
theorem nP(xs:List V)(lo hi:Option Int):(cutV xs lo hi).length≤xs.length:=by
 unfold cutV
 rw[List.length_take,List.length_drop]
 omega
def rSlT(K:PySem.W.Frag):V→Option Int→Option Int→Hp→VK→Prop:=fun x lo hi H Q=>∃a xs,x=.ref a∧SqT K H a xs ∧
 ¬(HT.sIx xs.length 0 lo=0∧HT.sIx xs.length xs.length hi=xs.length)∧∀p,H p=none→Q (.ref p) (upd H p (.tup (cutV xs lo hi)))
theorem GS:SlR X (rSlT X.K):=by
 intro pins s σ H x v vl vu lo hi sl Q I rx hs pl pu h
 obtain⟨a,xs,rfl,hx,hw,q⟩:=h
 cases rx
 obtain⟨its,r,ht,hz⟩:=I.tuple hx
 have hlen:its.toArray.size=xs.length:=by rw[List.size_toArray];exact r.length.symm
 refine⟨"tuple",_,PyProof.Rows.slot_tuple_getitem.lookup,ht.typeIs,?_⟩
 refine HT.getItem_tuple_cut ht hs pl pu (by rw[hlen];exact hw) ?_ (by rw[hlen];exact hz)
 rw[hlen]
 refine⟨.ref s.heap.objs.size,_,I.laid (t':=s.toks) (o:=.tup (cutV xs lo hi)) (fun b ob q=>Heap.get?_push_of_some _ q) (Nat.le_refl _) ?_,rfl,q _ (I.hok.fresh (Nat.le_refl _))⟩
 exact⟨Nat.le_trans (nP xs lo hi) hz,_,(r.drop (HT.sIx xs.length 0 lo)).take (HT.sIx xs.length xs.length hi-HT.sIx xs.length 0 lo),IsTup.new _ _⟩
end
def ixN(n:Nat)(i:Int):Option Nat:=if 0≤i then(if i<n then some i.toNat else none)else if -(n:Int)≤i then some (i+n).toNat else none
def atI{α:Type}(xs:List α)(i:Int):Option α:=(ixN xs.length i).bind fun j=>xs[j]?
theorem y7{n:Nat}{i:Int}{j:Nat}(h:ixN n i=some j):seqIndex? i n=some j∧j<n∧-(n:Int)≤i∧i<n:=by
 unfold ixN at h
 by_cases h0:0≤i
 ·
  rw[if_pos h0]at h
  by_cases h1:i<n
  ·
   rw[if_pos h1]at h
   have e:i.toNat=j:=Option.some.inj h
   exact⟨by rw[seqIndex_of h0 h1,e],by omega,by omega,h1⟩
  ·
   rw[if_neg h1]at h;cases h
 ·
  rw[if_neg h0]at h
  by_cases h1 : -(n:Int)≤i
  ·
   rw[if_pos h1]at h
   have e:(i+n).toNat=j:=Option.some.inj h
   exact⟨by rw[seqIndex_neg (by omega) h1,e],by omega,h1,by omega⟩
  ·
   rw[if_neg h1]at h;cases h
theorem vc{α:Type}{xs:List α}{i:Int}{v:α}(h:atI xs i=some v):∃j,seqIndex? i xs.length=some j∧xs[j]?=some v∧j<xs.length∧-(xs.length:Int)≤i∧i<xs.length:=by
 unfold atI at h
 cases e:ixN xs.length i with
 |none=>rw[e]at h;cases h
 | some j =>
  rw[e]at h
  obtain⟨h1,h2,h3,h4⟩:=y7 e
  exact⟨j,h1,h,h2,h3,h4⟩
theorem dS{α:Type}{xs:List α}{j:Nat}{v:α}(h:xs[j]?=some v):atI xs (j:Int)=some v:=by
 have hj:j<xs.length:=(List.getElem?_eq_some_iff.mp h).1
 have e:ixN xs.length (j:Int)=some j:=by
  unfold ixN
  rw[if_pos (by omega),if_pos (by omega)];simp
 unfold atI;rw[e];exact h
def nQ(b:Expr):Prop:=∀o i,subscripted b false o i=operate [o,i] (getItem o i)
def IxR(X:Cx)(r:R2):Prop :=
 ∀(value slice:Expr)(pins:List (Addr×Obj))(s:Shared)(σ:St)(H:Hp)(x y:V)(v u:Value)(Q:VK),Inv X pins σ H s→RelV x v→RelV y u→r x y H Q →
  subscripted slice false v u=operate [v,u] (getItem v u)→wpAny (model X.prog X.w) X.A (subscriptTail value slice v u) (EP X pins σ Q) X.xe s
def MtR(X:Cx)(id:String)(r:V→List V→Hp→VK→Prop):Prop :=
 ∀(pins:List (Addr×Obj))(s:Shared)(σ:St)(H:Hp)(x:V)(xs:List V)(v:Value)(us:List Value)(Q:VK),Inv X pins σ H s→RelV x v→Vals xs us→r x xs H Q →
  wpAny (model X.prog X.w) X.A (call (.builtin id) (v::us)) (EP X pins σ Q) X.xe s
section
variable{X:Cx}{a b:Expr}{ta tb:TE}{pos:Pos}
theorem BX{r:R2}(hr:IxR X r)(ha:PE X a ta)(hb:PE X b tb)(hs:nQ b):PE X (.Subscript a b pos) (tOp r ta tb):=by
 intro pins s σ H Q I h
 exact Subscript_ (binT ha hb I h fun v u s2 x y H2 I2 rx ry q=>hr a b pins s2 σ H2 x y v u Q I2 rx ry q (hs _ _))
def rIxL(K:PySem.W.Frag):R2:=fun x y H Q=>∃p xs i v,x=.ref p∧y=.int i∧SqL K H p xs∧atI xs i=some v∧Q v H
def rIxT(K:PySem.W.Frag):R2:=fun x y H Q=>∃p xs i v,x=.ref p∧y=.int i∧SqT K H p xs∧atI xs i=some v∧Q v H
def rIxS:R2:=fun x y H Q=>∃z i c,x=.str z∧y=.int i∧z.length≤sizeLine∧atI z.cps.toList i=some c∧Q (.str ⟨#[c]⟩) H
theorem vd:IxR X (rIxL X.K):=by
 intro value slice pins s σ H x y v u Q I rx ry h hs
 obtain⟨p,xs,i,z,rfl,rfl,hq,he,q⟩:=h
 cases rx
 obtain⟨t,rfl⟩:=ry
 obtain⟨its,r,pl,hz⟩:=I.list hq
 obtain⟨j,h1,h2,h3,h4,h5⟩:=vc he
 obtain⟨w,ew,rw'⟩:=r.get h2
 have hl:=r.length
 have hn:=nO
 have fin:EP X pins σ Q w s:=⟨z,H,I,rw',q⟩
 by_cases h0:0≤i
 ·
  have hj:i.toNat=j:=by
   rw[seqIndex_of h0 h5]at h1
   exact Option.some.inj h1
  exact item_listR pl.isList h0 (by omega) (by rw[hj];simpa using ew) fin hs
 ·
  have hj:(i+(its.toArray.size:Int)).toNat=j:=by
   rw[seqIndex_neg (by omega) h4]at h1
   rw[List.size_toArray,← hl]
   exact Option.some.inj h1
  exact subscriptTail_builtinR (x:=w) pl.isList.typeIs slot_list_getitem.lookup
   (wpAny_getItem_list_neg (Q:=fun r s'=>r=w∧EP X pins σ Q r s') pl.isList (by omega) (by rw[List.size_toArray]<;>omega) (by omega) (by rw[hj];simpa using ew) ⟨rfl,fin⟩) hs
theorem y9:IxR X (rIxT X.K):=by
 intro value slice pins s σ H x y v u Q I rx ry h hs
 obtain⟨p,xs,i,z,rfl,rfl,hq,he,q⟩:=h
 cases rx
 obtain⟨t,rfl⟩:=ry
 obtain⟨its,r,pl,hz⟩:=I.tuple hq
 obtain⟨j,h1,h2,h3,h4,h5⟩:=vc he
 obtain⟨w,ew,rw'⟩:=r.get h2
 have hl:=r.length
 have hn:=nO
 have fin:EP X pins σ Q w s:=⟨z,H,I,rw',q⟩
 exact subscriptTail_builtinR (x:=w) pl.typeIs slot_tuple_getitem.lookup
  (getItem_tuple (j:=j) (Q:=fun r s'=>r=w∧EP X pins σ Q r s') pl (by omega) (by omega) (by rw[List.size_toArray,← hl];exact h1) (by simpa using ew) ⟨rfl,fin⟩) hs
theorem GT:IxR X rIxS:=by
 intro value slice pins s σ H x y v u Q I rx ry h hs
 obtain⟨z,i,c,rfl,rfl,hz,he,q⟩:=h
 obtain⟨t,rfl⟩:=rx
 obtain⟨t',rfl⟩:=ry
 obtain⟨j,h1,h2,h3,h4,h5⟩:=vc he
 have hl:z.cps.toList.length=z.length:=by simp[Str.length]
 rw[hl]at h1 h4 h5
 have hn:=nO
 exact tail_any (typeIs_str s z t) slot_str_getitem.lookup (getItem_str (c:=c) (by
  have e1:decide (i < -(2^63:Int))=false:=decide_eq_false (by omega)
  have e2:decide (i≥2^63)=false:=decide_eq_false (by omega)
  rw[e1,e2,Bool.or_false]) (by rw[h1];simpa using h2) ⟨.str ⟨#[c]⟩,H,I.tok _,⟨_,rfl⟩,q⟩) hs
theorem xW(its:List Value)(n j:Nat)(u:Value):Obj.mapSeq (·.setIfInBounds j u) {cls:=.type "list",data:=.seq its.toArray n}={cls:=.type "list",data:=.seq (its.set j u).toArray n}:=by
 simp[Obj.mapSeq]
theorem Inv.lst{pins:List (Addr×Obj)}{σ:St}{H:Hp}{s:Shared}{p:Addr}{xs:List V}(I:Inv X pins σ H s)(h:H p=some (.lst xs)) :
  ∃(its:List Value)(n:Nat),Vals xs its∧s.heap.get? p=some {cls:=.type "list",data:=.seq its.toArray n}∧xs.length≤sizeLine:=by
 obtain⟨z,its,n,r,e⟩:=I.hok p _ h
 exact⟨its,n,r,e,z⟩
theorem Inv.lstUpd{pins:List (Addr×Obj)}{σ:St}{H:Hp}{s:Shared}{p:Addr}{xs ys:List V}{its its':List Value}{n n':Nat}{f:Obj→Obj}(I:Inv X pins σ H s)(h:H p=some (.lst xs))
  (ho:s.heap.get? p=some {cls:=.type "list",data:=.seq its.toArray n}) (hf:f {cls:=.type "list",data:=.seq its.toArray n}={cls:=.type "list",data:=.seq its'.toArray n' }) (r:Vals ys its') (hz:ys.length≤sizeLine) (t:Nat) :
  Inv X pins σ (upd H p (.lst ys)) {s with heap:=s.heap.update p f,toks:=t}:=by
 have e:(s.heap.update p f).get? p=some {cls:=.type "list",data:=.seq its'.toArray n' }:=by
  rw[Heap.get?_update_self f ho (by rw[hf]<;>rfl),hf]
 refine I.write (x:=p) (e:=p) (by rw[h];trivial) (.inl rfl) (fun b u hb q=>(Heap.get?_update_other _ _ (Ne.symm hb)).trans q) ⟨_,e⟩ ?_
 exact⟨hz,its',n',r,e⟩
def IL:V→V→V→Hp→(Hp→Prop)→Prop:=fun o i v H Q=>∃p xs k j,o=.ref p∧i=.int k∧H p=some (.lst xs)∧ixN xs.length k=some j∧Q (upd H p (.lst (xs.set j v)))
theorem BY:PSet X IL:=by
 intro pins s σ H o i v ov iv u Q I ro ri rv h
 obtain⟨p,xs,k,j,rfl,rfl,hp,hj,q⟩:=h
 cases ro
 obtain⟨t,rfl⟩:=ri
 obtain⟨its,n,r,ho,hz⟩:=I.lst hp
 obtain⟨h1,h2,h3,h4⟩:=y7 hj
 have hl:=r.length
 have hn:=nO
 have I':Inv X pins σ (upd H p (.lst (xs.set j v))) {s with heap:=s.heap.update p (Obj.mapSeq (·.setIfInBounds j u)) } :=
  I.lstUpd hp ho (xW its n j u) (r.set rv j) (by rw[List.length_set];exact hz) s.toks
 by_cases h0:0≤k
 ·
  have hk:k.toNat=j:=by
   rw[seqIndex_of h0 h4]at h1
   exact Option.some.inj h1
  exact PySem.W.ki_setAt ho h0 (by omega) (by rw[List.size_toArray,← hl];exact h4) (by rw[hk];exact⟨_,I',q⟩)
 ·
  have hk:(k+(its.toArray.size:Int)).toNat=j:=by
   rw[seqIndex_neg (by omega) h3]at h1
   rw[List.size_toArray,← hl]
   exact Option.some.inj h1
  exact PySem.W.ki_setBack ho (by omega) (by rw[List.size_toArray,← hl];exact h3) (by omega) (by rw[hk];exact⟨_,I',q⟩)
theorem tw(lo hi:Option Int)(n:Nat):(sliceBounds lo hi none n).1=((HT.sIx n 0 lo:Nat):Int)∧(sliceBounds lo hi none n).2.1=((HT.sIx n n hi:Nat):Int)∧(sliceBounds lo hi none n).2.2=1:=by
 refine⟨?_,?_,rfl⟩
 ·
  cases lo with
  |none=>simp[sliceBounds,HT.sIx]
  | some i =>
   simp only[sliceBounds,HT.sIx,Option.getD_none,show(1:Int) > 0 by decide,if_true]
   by_cases h:i<0
   ·
    simp only[h,if_true]<;>omega
   ·
    simp only[h,if_false]<;>omega
 ·
  cases hi with
  |none=>simp[sliceBounds,HT.sIx]
  | some i =>
   simp only[sliceBounds,HT.sIx,Option.getD_none,show(1:Int) > 0 by decide,if_true]
   by_cases h:i<0
   ·
    simp only[h,if_true]<;>omega
   ·
    simp only[h,if_false]<;>omega
theorem qO(its:List Value)(lo hi:Option Int):slicePick its.toArray lo hi none=((its.drop (HT.sIx its.length 0 lo)).take (HT.sIx its.length its.length hi-HT.sIx its.length 0 lo)).toArray:=by
 obtain⟨h1,h2,h3⟩:=tw lo hi its.toArray.size
 unfold slicePick
 rw[h1,h2,h3]
 simp only[sliceRange_one,pick_run,List.size_toArray]<;>rfl
def rSlL(K:PySem.W.Frag):V→Option Int→Option Int→Hp→VK→Prop:=fun x lo hi H Q=>∃a xs,x=.ref a∧SqL K H a xs∧∀p,H p=none→Q (.ref p) (upd H p (.lst (cutV xs lo hi)))
theorem Em:SlR X (rSlL X.K):=by
 intro pins s σ H x v vl vu lo hi sl Q I rx hs pl pu h
 obtain⟨a,xs,rfl,hx,q⟩:=h
 cases rx
 obtain⟨its,r,ht,hz⟩:=I.list hx
 have hlen:=r.length
 refine⟨"list",_,slot_list_getitem.lookup,ht.isList.typeIs,?_⟩
 refine wpAny_getItem_list_slice ht.isList hs pl pu .none (by simp) ?_ (by rw[List.size_toArray]<;>omega)
 rw[qO,← hlen]
 refine⟨.ref s.heap.objs.size,_,I.laid (t':=s.toks) (o:=.lst (cutV xs lo hi)) (fun b ob q=>Heap.get?_push_of_some _ q) (Nat.le_refl _) ?_,rfl,q _ (I.hok.fresh (Nat.le_refl _))⟩
 exact⟨Nat.le_trans (nP xs lo hi) hz,_,0,(r.drop (HT.sIx xs.length 0 lo)).take (HT.sIx xs.length xs.length hi-HT.sIx xs.length 0 lo),Heap.get?_push_size _ rfl⟩
def pL:V→Bool
 |.non=>true
 |.bl _=>true
 |.int _=>true
 |.str _=>true
 |_=>false
def eqV:V→V→Bool
 |.non,.non=>true
 |.bl a,.bl b=>a == b
 |.bl a,.int b=>(if a then 1 else 0) == b
 |.int a,.bl b=>a == (if b then 1 else 0)
 |.int a,.int b=>a == b
 |.str a,.str b=>a == b
 |_,_=>false
theorem GU{A:Around}{s:Shared}{y x:V}{u v:Value}(ry:RelV y u)(rx:RelV x v)(fy:pL y=true)(fx:pL x=true):SeqAt.EqAt A s u v (eqV y x):=by
 cases y with
 | non =>
  cases ry
  cases x with
  |non=>cases rx;exact SeqAt.EqAt.same _
  |bl b=>cases rx;exact SeqAt.EqAt.none_bool b
  |int b=>obtain⟨t,rfl⟩:=rx;exact SeqAt.EqAt.none_int b t
  |str b=>obtain⟨t,rfl⟩:=rx;exact SeqAt.EqAt.none_str b t
  |_=>exact absurd (show false=true from fx) Bool.false_ne_true
 | bl a =>
  cases ry
  cases x with
  |non=>cases rx;exact SeqAt.EqAt.bool_none a
  |bl b=>cases rx;exact SeqAt.EqAt.bool_bool a b
  |int b=>obtain⟨t,rfl⟩:=rx;exact SeqAt.EqAt.bool_int a b t
  |str b=>obtain⟨t,rfl⟩:=rx;exact SeqAt.EqAt.bool_str a b t
  |_=>exact absurd (show false=true from fx) Bool.false_ne_true
 | int a =>
  obtain⟨t',rfl⟩:=ry
  cases x with
  |non=>cases rx;exact SeqAt.EqAt.int_none a t'
  |bl b=>cases rx;exact SeqAt.EqAt.int_bool a t' b
  |int b=>obtain⟨t,rfl⟩:=rx;exact SeqAt.EqAt.int_int a t' b t
  |str b=>obtain⟨t,rfl⟩:=rx;exact SeqAt.EqAt.int_str a t' b t
  |_=>exact absurd (show false=true from fx) Bool.false_ne_true
 | str a =>
  obtain⟨t',rfl⟩:=ry
  cases x with
  |non=>cases rx;exact SeqAt.EqAt.str_none a t'
  |bl b=>cases rx;exact SeqAt.EqAt.str_bool a t' b
  |int b=>obtain⟨t,rfl⟩:=rx;exact SeqAt.EqAt.str_int a t' b t
  |str b=>obtain⟨t,rfl⟩:=rx;exact SeqAt.EqAt.str_str a t' b t
  |_=>exact absurd (show false=true from fx) Bool.false_ne_true
 |_=>exact absurd (show false=true from fy) Bool.false_ne_true
def eqU(x:V)(u:Value):Bool:=match u with
 |.none=>eqV .non x
 |.bool b=>eqV (.bl b) x
 |.int i _=>eqV (.int i) x
 |.str z _=>eqV (.str z) x
 |_=>false
theorem DQ{x y:V}{u:Value}(r:RelV y u)(f:pL y=true):eqU x u=eqV y x:=by
 cases y with
 |non=>cases r;rfl
 |bl b=>cases r;rfl
 |int i=>obtain⟨t,rfl⟩:=r;rfl
 |str z=>obtain⟨t,rfl⟩:=r;rfl
 |_=>exact absurd (show false=true from f) Bool.false_ne_true
theorem ve{x:V}:∀{xs:List V}{us:List Value},Vals xs us→xs.all pL=true→us.any (eqU x)=xs.any fun y=>eqV y x
 |_,_,.nil,_=>rfl
 | y::xs,u::us,.cons r t,f=>by
  rw[List.all_cons,Bool.and_eq_true]at f
  rw[List.any_cons,List.any_cons,DQ r f.1,ve t f.2]
theorem qP{A:Around}{s:Shared}{x:V}{v:Value}(rx:RelV x v)(fx:pL x=true):∀{xs:List V}{us:List Value},Vals xs us→xs.all pL=true→∀u∈us,SeqAt.EqAt A s u v (eqU x u)
 |_,_,.nil,_=>fun u hu=>by cases hu
 | y::xs,u::us,.cons r t,f=>fun u' hu=>by
  rw[List.all_cons,Bool.and_eq_true]at f
  rcases List.mem_cons.mp hu with rfl|hu
  ·
   rw[DQ r f.1];exact GU r rx f.1 fx
  ·
   exact qP rx fx t f.2 u' hu
def inV(x:V)(xs:List V):Bool:=xs.any fun y=>eqV y x
def rIn(K:PySem.W.Frag)(neg:Bool):R2:=fun x y H Q=>∃p xs,y=.ref p∧(SqL K H p xs∨SqT K H p xs)∧pL x=true∧xs.all pL=true∧Q (.bl (if neg then !inV x xs else inV x xs)) H
theorem za:OpR X (compareOp .In) (rIn X.K false):=by
 intro pins s σ H x y v u Q I rx ry h
 obtain⟨p,xs,rfl,hq,fx,fs,q⟩:=h
 cases ry
 rcases hq with hq|hq
 ·
  obtain⟨its,r,pl,hz⟩:=I.list hq
  refine SeqAt.in_listAt (eqU x) pl.isList (fun w hw=>qP rx fx r fs w (by simpa using hw)) ⟨.bl _,H,I,rfl,?_⟩
  rw[show its.toArray.any (eqU x)=its.any (eqU x) by simp,ve r fs]
  exact q
 ·
  obtain⟨its,r,pl,hz⟩:=I.tuple hq
  refine SeqAt.in_tupleAt (eqU x) pl (fun w hw=>qP rx fx r fs w (by simpa using hw)) ⟨.bl _,H,I,rfl,?_⟩
  rw[show its.toArray.any (eqU x)=its.any (eqU x) by simp,ve r fs]
  exact q
theorem mv:jB X (.builtin "len") (fun xs H Q=>∃ p ys,xs=[.ref p]∧(SqL X.K H p ys∨SqT X.K H p ys)∧Q (.int ys.length) H):=by
 intro pins s σ H xs us Q I r h
 obtain⟨p,ys,rfl,hq,q⟩:=h
 obtain⟨u,rfl,rx⟩:=qM r
 cases rx
 have hn:=nO
 rcases hq with hq|hq
 ·
  obtain⟨its,r',pl,hz⟩:=I.list hq
  have hlen:=r'.length
  exact Calls.call_len_list pl.isList (by simp only[List.size_toArray]<;>omega) ⟨.int ys.length,H,I.tok _,⟨s.toks+1,by rw[List.size_toArray,hlen]⟩,q⟩
 ·
  obtain⟨its,r',pl,hz⟩:=I.tuple hq
  have hlen:=r'.length
  exact len_tuple pl (by simp only[List.size_toArray]<;>omega) ⟨.int ys.length,H,I.tok _,⟨s.toks+1,by rw[List.size_toArray,hlen]⟩,q⟩
theorem tD:jB X (.builtin "len") (fun xs H Q=>∃ z,xs=[.str z]∧z.length≤sizeLine∧Q (.int z.length) H):=by
 intro pins s σ H xs us Q I r h
 obtain⟨z,rfl,hz,q⟩:=h
 obtain⟨u,rfl,t,rfl⟩:=qM r
 have hn:=nO
 exact len_str (by omega) ⟨.int z.length,H,I.tok _,⟨_,rfl⟩,q⟩
theorem jB.or{f:Value}{r r':List V→Hp→VK→Prop}(h:jB X f r)(h':jB X f r'):jB X f (fun xs H Q=>r xs H Q∨r' xs H Q):=by
 intro pins s σ H xs us Q I rs q
 rcases q with q|q
 ·
  exact h pins s σ H xs us Q I rs q
 ·
  exact h' pins s σ H xs us Q I rs q
theorem tE:jB X (.type "list") (fun xs H Q=>∃ p ys,xs=[.ref p]∧(SqL X.K H p ys∨SqT X.K H p ys)∧∀ l,H l=none→Q (.ref l) (upd H l (.lst ys))):=by
 intro pins s σ H xs us Q I r h
 obtain⟨p,ys,rfl,hq,q⟩:=h
 obtain⟨u,rfl,rx⟩:=qM r
 cases rx
 have fin:∀(its:List Value),Vals ys its→ys.length≤sizeLine→∀(h':Heap)(c':Nat),(∀b o',s.heap.get? b=some o'→h'.get? b=some o') →
   h'.get? s.heap.objs.size=some {cls:=.type "list",dict:=none,data:=.seq its.toArray c',slots:=#[] }→EP X pins σ Q (.ref s.heap.objs.size) {s with heap:=h' }:=fun its r' hz h' c' kp e =>
  ⟨.ref s.heap.objs.size,_,I.laid (t':=s.toks) kp (Nat.le_refl _) (show gM X.prog X.w _ h' _ (.lst ys)from⟨hz,its,c',r',e⟩),rfl,q _ (I.hok.fresh (Nat.le_refl _))⟩
 rcases hq with hq|hq
 ·
  obtain⟨its,r',pl,hz⟩:=I.list hq
  have hlen:=r'.length
  obtain⟨o,ho,hc,n,hd⟩:=pl.isList
  exact call_list_seq p (.inl rfl) ho hc hd (fun h' c' kp e=>fin its r' hz h' c' kp e) (by simp only[List.size_toArray]<;>omega)
 ·
  obtain⟨its,r',pl,hz⟩:=I.tuple hq
  have hlen:=r'.length
  obtain⟨o,ho,hc,n,hd⟩:=pl
  exact call_list_seq p (.inr rfl) ho hc hd (fun h' c' kp e=>fin its r' hz h' c' kp e) (by simp only[List.size_toArray]<;>omega)
theorem qQ:jB X (.type "tuple") (fun xs H Q=>∃ p ys,xs=[.ref p]∧((SqL X.K H p ys∧∀ l,H l=none→Q (.ref l) (upd H l (.tup ys)))∨(SqT X.K H p ys∧Q (.ref p) H))):=by
 intro pins s σ H xs us Q I r h
 obtain⟨p,ys,rfl,h⟩:=h
 obtain⟨u,rfl,rx⟩:=qM r
 cases rx
 rcases h with⟨hq,q⟩|⟨hq,q⟩
 ·
  obtain⟨its,r',pl,hz⟩:=I.list hq
  have hlen:=r'.length
  refine call_tuple_list pl.isList (fun h' kp=>?_) (by simp only[List.size_toArray]<;>omega)
  have I1:Inv X pins σ H {s with heap:=h' }:=I.kept (t':=s.toks) kp
  have I2:Inv X pins σ (upd H h'.objs.size (.tup ys)) {s with heap:=h'.push {cls:=.type "tuple",data:=.seq its.toArray} } :=
   I1.laid (t':=s.toks) (fun b o e=>Heap.get?_push_of_some _ e) (Nat.le_refl _) (show gM X.prog X.w _ _ _ (.tup ys)from⟨hz,its,r',IsTup.new _ _⟩)
  exact⟨.ref h'.objs.size,_,I2,rfl,q _ (I1.hok.fresh (Nat.le_refl _))⟩
 ·
  obtain⟨its,r',pl,hz⟩:=I.tuple hq
  exact call_tuple_same pl ⟨.ref p,H,I,rfl,q⟩
def tyV(K:PySem.W.Frag)(T:String)(x:V)(H:Hp):Prop:=match x with
 |.str _=>T="str"
 |.int _=>T="int"
 | .ref p=>(T="list"∧∃ xs,SqL K H p xs)∨(T="tuple"∧∃ o,K.lookup p=some o∧o.cls=.type "tuple"∧o.dict=none) ∨
   (T="dict"∧((∃ kvs,H p=some (.dK kvs))∨∃ kvs,H p=some (.dT kvs)))∨(T="set"∧∃ S n,H p=some (.set S n))
 |_=>False
theorem DS{pins:List (Addr×Obj)}{σ:St}{H:Hp}{s:Shared}{T:String}{x:V}{v:Value}(I:Inv X pins σ H s)(r:RelV x v)(ty:tyV X.K T x H) :
  s.TypeIs v T∧∀a,v=.ref a→∃ob,s.heap.get? a=some ob∧ob.dict=none:=by
 cases x with
 | str z =>
  obtain⟨t,rfl⟩:=r
  cases(show T="str" from ty)
  exact⟨typeIs_str s z t,fun _ e=>nomatch e⟩
 | int i =>
  obtain⟨t,rfl⟩:=r
  cases(show T="int" from ty)
  exact⟨typeIs_int s i t,fun _ e=>nomatch e⟩
 | ref p =>
  cases r
  rcases ty with⟨rfl,xs,hq⟩|⟨rfl,o,hk,hc,hd⟩|⟨rfl,hk⟩|⟨rfl,S,n,hk⟩
  ·
   obtain⟨its,_,pl,_⟩:=I.list hq
   refine⟨pl.isList.typeIs,fun a e=>?_⟩
   cases e
   obtain⟨o,n,e,c,hd,_⟩:=pl
   exact⟨o,e,hd⟩
  ·
   refine⟨⟨o,I.kIn p o hk,hc⟩,fun a e=>?_⟩
   cases e
   exact⟨o,I.kIn _ o hk,hd⟩
  ·
   have z:∃o,s.heap.get? p=some o∧o.ExactDict:=by
    rcases hk with⟨kvs,hk⟩|⟨kvs,hk⟩
    ·
     obtain⟨_,_,_,_,o,_,_,e,ex,_⟩:=I.hok p _ hk
     exact⟨o,e,ex⟩
    ·
     obtain⟨_,_,_,_,o,_,_,e,ex,_⟩:=I.hok p _ hk
     exact⟨o,e,ex⟩
   obtain⟨o,e,ex⟩:=z
   refine⟨⟨o,e,ex.1⟩,fun a e2=>?_⟩
   cases e2
   exact⟨o,e,ex.2.1⟩
  ·
   obtain⟨o,_,_,_,e,ex,_⟩:=I.hok p _ hk
   refine⟨⟨o,e,ex.1⟩,fun a e2=>?_⟩
   cases e2
   exact⟨o,e,ex.2.1⟩
 |_=>exact False.elim ty
def tBM0(K:PySem.W.Frag)(T:String)(r:V→List V→Hp→VK→Prop)(to:TE):TE:=fun σ H Q=>to σ H fun x H1=>tyV K T x H1∧r x [] H1 Q
def tBM(K:PySem.W.Frag)(T:String)(r:V→List V→Hp→VK→Prop)(to:TE)(t:TA):TE:=fun σ H Q=>to σ H fun x H1=>tyV K T x H1∧t σ H1 fun xs H2=>r x xs H2 Q
variable{o e:Expr}{es:List Expr}{to:TE}{t:TA}{name:Str}{apos cpos:Pos}{T id:String}{r:V→List V→Hp→VK→Prop}
theorem DT(pa:PlainAttrs T)(slot:Slot T name id) (hty:typeOf (.builtin id)=pure (.type "method_descriptor")) (hm:MtR X id r) (ho:PE X o to)
  (hbase:attributeBase o name X.env (eval o X.env)=eval o X.env:=by rfl) (hline:(apos.endLine == cpos.line)=true:=by rfl):PE X (.Call (.Attribute o name apos) [] [] cpos) (tBM0 X.K T r to):=by
 intro pins s σ H Q I h
 refine wpAny_Call_method0_late hbase hline (thn (ho pins s σ H _ I h) fun v s1 ⟨x,H1,I1,r1,ty,q1⟩=>?_)
 obtain⟨h1,h2⟩:=DS I1 r1 ty
 exact⟨T,id,pa,slot,hty,h1,h2,Calls.callWith_builtin rfl (PySem.evalArgs_none (hm pins s1 σ H1 x [] v [] Q I1 r1 .nil q1))⟩
theorem BZ(pa:PlainAttrs T)(slot:Slot T name id) (hty:typeOf (.builtin id)=pure (.type "method_descriptor")) (hm:MtR X id r) (ho:PE X o to) (ha:PA X (e::es) t)
  (hbase:attributeBase o name X.env (eval o X.env)=eval o X.env:=by rfl)
  (hfew:((backTo cpos (starEach (e::es) X.env)).all (fun x=>!x.1) && (backToKw cpos (keywordEach [] X.env)).all (fun x=>x.1.isSome)
   && decide ((e::es).length+([]:List Keyword).length+(if([]:List Keyword).isEmpty then 0 else 1)<30))=true:=by rfl)
  (hline:(apos.endLine == cpos.line)=true:=by rfl) (hs:starEach (e::es) X.env=(false,eval e X.env)::starEach es X.env:=by rfl) (hplain:(backTo cpos (starEach es X.env)).any (·.1)=false:=by rfl) :
  PE X (.Call (.Attribute o name apos) (e::es) [] cpos) (tBM X.K T r to t):=by
 intro pins s σ H Q I h
 refine wpAny_Call_method_late hbase hfew hline rfl (thn (ho pins s σ H _ I h) fun v s1 ⟨x,H1,I1,r1,ty,q1⟩=>?_)
 obtain⟨h1,h2⟩:=DS I1 r1 ty
 refine⟨T,id,pa,slot,hty,h1,h2,?_⟩
 have hA:=ha cpos pins s1 σ H1 _ I1 q1
 rw[hs]at hA ⊢
 refine Calls.callWith_builtin (by show(false ||(backTo cpos (starEach es X.env)).any (·.1))=false;rw[hplain]<;>rfl) (Calls.evalArgs_plain ?_)
 exact thn hA fun us s2 ⟨vs,H2,I2,r2,q2⟩=>hm pins s2 σ H2 x vs v us Q I2 r1 r2 q2
/- xs.append(e),list.index on a module's tuple .. are MtR facts of 06m -/
end
def MtM(X:Cx)(id:String)(r:V→List V→Hp→VK→Prop):Prop :=
 ∀(pins:List (Addr×Obj))(s:Shared)(σ:St)(H:Hp)(x:V)(xs:List V)(v:Value)(us:List Value)(Q:VK),Inv X pins σ H s→RelV x v→Vals xs us→r x xs H Q →
  wpAny (model X.prog X.w) X.A (call (.builtin id) (v::us)) (EP X pins σ Q) X.xe s
theorem Vals.one:∀{x:V}{us:List Value},Vals [x] us→∃u,us=[u]∧RelV x u
 |_,_,.cons r .nil=>⟨_,rfl,r⟩
theorem Vals.two:∀{x y:V}{us:List Value},Vals [x,y] us→∃u v,us=[u,v]∧RelV x u∧RelV y v
 |_,_,_,.cons r (.cons q .nil)=>⟨_,_,rfl,r,q⟩
theorem Vals.zero:∀{us:List Value},Vals [] us→us=[]
 |_,.nil=>rfl
theorem Vals.dropLast{xs:List V}{us:List Value}(h:Vals xs us):Vals xs.dropLast us.dropLast:=by
 induction h with
 |nil=>exact .nil
 | cons r t ih =>
  cases t with
  |nil=>exact .nil
  |cons q t'=>exact .cons r ih
theorem xX{α:Type}(l:List α):l.eraseIdx (l.length-1)=l.dropLast:=by
 induction l with
 |nil=>rfl
 | cons a r ih =>
  cases r with
  |nil=>rfl
  | cons b r =>
   have e:(a::b::r).length-1=((b::r).length-1)+1:=by
    have h1:(a::b::r).length=r.length+2:=rfl
    have h2:(b::r).length=r.length+1:=rfl
    omega
   rw[e,List.eraseIdx_cons_succ,ih]
   all_goals rfl
section
variable{X:Cx}{pins:List (Addr×Obj)}{σ:St}{H:Hp}{s:Shared}{l:Addr}{xs ys:List V}
theorem Inv.lset{its its':List Value}{n:Nat}{f:Array Value→Array Value}{t':Nat}(I:Inv X pins σ H s)(hH:H l=some (.lst xs))
  (e:s.heap.get? l=some {cls:=.type "list",data:=.seq its.toArray n}) (hf:f its.toArray=its'.toArray) (hv:Vals ys its') (hz:ys.length≤sizeLine) :
  Inv X pins σ (upd H l (.lst ys)) {s with heap:=s.heap.update l (Obj.mapSeq f),toks:=t' }:=by
 have q:=PySem.IsL.update e f
 rw[hf]at q
 refine I.write (x:=l) (e:=l) (by rw[hH];exact trivial) (.inl rfl) (fun b' u hb hu=>(Heap.get?_update_other s.heap (Obj.mapSeq f) (Ne.symm hb)).trans hu) ⟨_,q⟩ ?_
 exact⟨hz,its',_,hv,q⟩
theorem Inv.lnew{its:List Value}{t':Nat}(I:Inv X pins σ H s)(hv:Vals ys its)(hz:ys.length≤sizeLine) :
  Inv X pins σ (upd H s.heap.objs.size (.lst ys)) {s with heap:=s.heap.push {cls:=.type "list",data:=.seq its.toArray},toks:=t' } :=
 I.laid (fun _ _ q=>Heap.get?_push_of_some _ q) (Nat.le_refl _) ⟨hz,its,0,hv,Heap.get?_push_size _ rfl⟩
theorem Inv.fresh(I:Inv X pins σ H s):H s.heap.objs.size=none:=I.hok.fresh (Nat.le_refl _)
theorem Inv.lstM(I:Inv X pins σ H s)(hH:H l=some (.lst xs)):xs.length≤sizeLine∧∃(its:List Value)(n:Nat),Vals xs its∧xs.length=its.length∧s.heap.get? l=some {cls:=.type "list",data:=.seq its.toArray n}:=by
 obtain⟨z,its,n,r,e⟩:=I.hok l _ hH
 exact⟨z,its,n,r,r.length,e⟩
theorem B0{n:Nat}(h:n≤sizeLine):Builtin.List.listTooLong n=false:=by
 unfold Builtin.List.listTooLong
 exact decide_eq_false (by omega)
end
section
variable{X:Cx}
def En:V→List V→Hp→VK→Prop:=fun x vs H Q=>∃l xs y,x=.ref l∧vs=[y]∧H l=some (.lst xs)∧xs.length<sizeLine∧Q .non (upd H l (.lst (xs++[y])))
theorem ko:MtM X "list.append" En:=by
 intro pins s σ H x vs v us Q I rx rv h
 obtain⟨l,xs,y,rfl,rfl,hH,hz,q⟩:=h
 cases rx
 obtain⟨u,rfl,ru⟩:=rv.one
 obtain⟨z,its,n,r,hl,e⟩:=I.lstM hH
 refine call_meets F.slot_list_append ⟨_,e,rfl⟩ F.entry_list_append (F.args_list_append_2 _ _) (PySem.list_append l its.toArray n u (by rw[List.size_toArray];omega)) ⟨e,?_⟩
 refine⟨.non,_,I.lset (its':=its++[u]) hH e (by simp) (r.append (.cons ru .nil)) ?_,rfl,q⟩
 rw[List.length_append,List.length_singleton]
 omega
def Eo:V→List V→Hp→VK→Prop:=fun x vs H Q=>∃l b xs zs,x=.ref l∧vs=[.ref b]∧H l=some (.lst xs)∧H b=some (.lst zs)∧xs.length+zs.length≤sizeLine∧Q .non (upd H l (.lst (xs++zs)))
theorem zb:MtM X "list.extend" Eo:=by
 intro pins s σ H x vs v us Q I rx rv h
 obtain⟨l,b,xs,zs,rfl,rfl,hH,hB,hz,q⟩:=h
 cases rx
 obtain⟨u,rfl,ru⟩:=rv.one
 cases ru
 obtain⟨z,its,n,r,hl,e⟩:=I.lstM hH
 obtain⟨z2,its2,n2,r2,hl2,e2⟩:=I.lstM hB
 have hsz:its.toArray.size+its2.toArray.size≤sizeLine:=by rw[List.size_toArray,List.size_toArray];omega
 have hlong:¬(!its.toArray.isEmpty && Builtin.List.listTooLong (its.toArray.size+its2.toArray.size))=true:=by
  rw[B0 hsz,Bool.and_false]
  exact Bool.false_ne_true
 refine call_meets F.slot_list_extend ⟨_,e,rfl⟩ F.entry_list_extend (F.args_list_extend_2 _ _)
  (AutoSeq1.list_extend_list_list_0 l its.toArray n b its2.toArray n2 hlong (by rw[List.size_toArray];omega) (by omega)) ⟨e,e2,?_⟩
 refine⟨.non,_,I.lset (its':=its++its2) hH e (by simp) (r.append r2) ?_,rfl,q⟩
 rw[List.length_append]
 omega
def rPop:V→List V→Hp→VK→Prop:=fun x vs H Q=>∃l xs y,x=.ref l∧vs=[]∧H l=some (.lst xs)∧xs[xs.length-1]?=some y∧Q y (upd H l (.lst xs.dropLast))
theorem GV:MtM X "list.pop" rPop:=by
 intro pins s σ H x vs v us Q I rx rv h
 obtain⟨l,xs,y,rfl,rfl,hH,hy,q⟩:=h
 cases rx
 have hus:=rv.zero
 subst hus
 obtain⟨z,its,n,r,hl,e⟩:=I.lstM hH
 obtain⟨u,hu,ru⟩:=r.get hy
 have hy':its.toArray[its.toArray.size-1]?=some u:=by
  show its.toArray[its.length-1]?=some u
  rw[← Array.getElem?_toList,← hl]
  exact hu
 refine call_meets F.slot_list_pop ⟨_,e,rfl⟩ F.entry_list_pop (F.args_list_pop_1 _) (MeetsSeq.list_pop_last l its.toArray n u hy' (by rw[List.size_toArray];omega)) ⟨e,?_⟩
 refine⟨y,_,I.lset (its':=its.dropLast) hH e ?_ r.dropLast ?_,ru,q⟩
 ·
  show its.toArray.eraseIdxIfInBounds (its.toArray.size-1)=its.dropLast.toArray
  rw[List.size_toArray,List.eraseIdxIfInBounds_toArray,xX]
 ·
  rw[List.length_dropLast]
  omega
def GW:V→List V→Hp→VK→Prop:=fun x vs H Q=>∃l xs,x=.ref l∧vs=[]∧H l=some (.lst xs)∧Q .non (upd H l (.lst []))
theorem B1:MtM X "list.clear" GW:=by
 intro pins s σ H x vs v us Q I rx rv h
 obtain⟨l,xs,rfl,rfl,hH,q⟩:=h
 cases rx
 have hus:=rv.zero
 subst hus
 obtain⟨z,its,n,r,hl,e⟩:=I.lstM hH
 refine call_meets F.slot_list_clear ⟨_,e,rfl⟩ F.entry_list_clear (F.args_list_clear_1 _) (AutoSeq1.list_clear_list_0 l its.toArray n (by rw[List.size_toArray];omega)) ⟨e,?_⟩
 exact⟨.non,_,I.lset (its':=[]) (ys:=[]) hH e rfl .nil (Nat.zero_le _),rfl,q⟩
end
end L2
namespace Att
open PySem PySem.W PySem.Calls PyProof.Rows
theorem nR{P:Params}{h:Heap}:∀(ns:List Int)(vs:List Value),WellAll P h vs (ns.map WData.int)→IntsAre vs ns:=by
 intro ns
 induction ns with
 | nil =>
  intro vs w
  rw[List.map_nil]at w
  cases w
  exact .nil
 | cons n ns ih =>
  intro vs w
  rw[List.map_cons]at w
  cases w with
  | cons a b =>
   cases a
   exact .cons _ _ (ih _ b)
theorem zc{l:OpenLaw}{n:Nat}(hn:l.most=some n){P:Params}{h:Heap}{args:List WData}{vals:List Value}
  (hpre:l.row.toRowW.claim.pre args=true) (hwl:WellAll P h vals args) :
  ∃ a vs ns,vals=[Value.ref a]∧args=[WData.list (ns.map WData.int)]∧h.get? a=some {cls:=.type "list",data:=.seq vs.toArray}∧IntsAre vs ns∧ns.length≤n:=by
 have hsh:WShape.hasAll [] args [.list .int]=true:=(pre_splitW hpre).1
 have hc:l.pre.holds [] {args:=args}=true:=(pre_splitW hpre).2
 obtain⟨d,r,rfl,h1,h2⟩:=hasAllW_cons hsh
 obtain rfl:=hasAllW_nil h2
 obtain⟨xs,rfl,h3⟩:=hasW_list h1
 obtain⟨ns,rfl⟩:=items_int h3
 have hlen:ns.length≤n:=by
  unfold OpenLaw.pre at hc
  have h4:(WTm.not (.lt (.lit (.int (n:Int))) (.len (.arg 0)))).holds [] {args:=[.list (ns.map .int)] }=true:=by
   have h4:=(holds_andW hc).1
   rw[hn]at h4
   exact h4
  have h5:=condW_of h4 (w_not (w_lt w_lit (w_len_list (w_arg rfl))))
  rw[List.length_map]at h5
  refine Nat.le_of_not_lt fun q=>?_
  have q':(n:Int)<((ns.length:Nat):Int):=by omega
  first
   |(rw[decide_eq_true q']at h5;exact absurd h5 (by decide))
   |(simp at h5;omega)
 cases hwl with
 | cons w1 w2 =>
  cases w2
  cases w1 with
  |list ho hall=>exact⟨_,_,ns,rfl,rfl,ho,nR ns _ hall,hlen⟩
theorem zd(l:OpenLaw)(args:List WData):l.row.toRowW.claim.post args (.bool true) args=true :=
 postW_of (r:=l.row.toRowW) (X:=(true == true))
  (show WShape.has [] (.bool true) .bool=true by first|rfl|decide|simp[WShape.has,WShape.arms,WShape.armsAll])
  (show(WTm.eq .res (.lit (.bool true))).value [] {args:=args,res:=some (.bool true),after:=args}=some (.bool (true == true))from w_eq_bool (w_res rfl) w_lit) rfl
theorem attach_call{l:OpenLaw}{n:Nat}{q:Program}{loose:List Str}{XP:(Str→Option Value)→Heap→Prop}{YP:World→Heap→Prop}{d:DefRec}
  (hn:l.most=some n) (hdf:d.params.defaults=[])
  (call:∀(w:World)(s₀ s₁:Shared)(mg mb:Str→Option Value)(fa:Addr)(o:Obj)(pm cd doc:Value)(a:Addr)(vs:List Value)(ns:List Int),
   Ground q loose [] XP w s₀ mg mb s₁.heap→YP w s₁.heap →
   s₁.heap.get? fa=some o→o.data=.func (docDef d.name d.params d.body d.scope pm cd doc)→s₁.heap.CodeRec cd d.name→mg d.name=some (.ref fa) →
   s₁.heap.get? a=some {cls:=.type "list",data:=.seq vs.toArray}→IntsAre vs ns→ns.length≤n→s₁.gens=#[] →
   codeAny (model l.prog w) callerA (.call (.ref fa) ⟨[.ref a],[]⟩) (fun r s'=>r=.ok (.ret (.bool true))∧OldK s₁.heap s'.heap∧s'.os=s₁.os∧AllBare s'.gens) s₁) :
  WalkO q loose XP YP l.row.toRowW d [] (fun f vs=>PySem.call f vs):=by
 intro w s₀ s₁ mg mb G Y fa o pm cd doc dV kV ho hd hcd hD hmg hg args vals as hpre hlay hrd hwl hlo
 obtain rfl:dV=.none:=Dflts.none hD hdf
 obtain rfl:kV=.none:=Dflts.noKw hD
 obtain⟨a,vs,ns,rfl,rfl,hobj,hints,hlen⟩:=zc hn hpre hwl
 refine enter_call (codeAny_mono (call w s₀ s₁ mg mb fa o pm cd doc a vs ns G Y ho (fd_plain hd) hcd hmg hobj hints hlen hg) fun r s' hq=>?_)
 obtain⟨rfl,h2,h3,h4⟩:=hq
 exact⟨.inl ⟨.bool true,.bool true,[],rfl,fun _=>rfl,.bool true,zd l _,fun _=>⟨List.Pairwise.nil,fun _ hm=>(nomatch hm)⟩⟩,h2,h3,h4⟩
section
def Jy(h:Heap)(L d:Addr):List (Addr×Obj):=(List.range h.objs.size).filterMap fun a=>if a=L∨a=d then none else(h.get? a).map fun o=>(a,o)
end
end Att
namespace L2
open PySem PySem.Spec PyProof.Rows
theorem tF:∀{vs:List Value}{ns:List Int},IntsAre vs ns→Vals (ns.map V.int) vs
 |_,_,.nil=>.nil
 |_,_,.cons n t h=>.cons ⟨t,rfl⟩ (tF h)
def Only(H:Hp):Prop:=∀b,H b=none∨∃o xs,H b=some (.frz o (.lst xs))
theorem B2{P:Program}{w:World}{K:PySem.W.Frag}{mg mb:Str→Option Value}{CX:CXT}{k:Nat}{fa a:Addr}{fd:FuncData}{x:Str}{sp:Sp}{s₁:Shared}{vs:List Value}{ns:List Int}
  (KX:K.In s₁.heap) (hns:s₁.heap.Ns mainGlobals mg) (hb:s₁.heap.Ns builtinsNs mb) (hbb:∀ x:Str,x≠"__name__"→mb x=bootBuiltins x) (hlim:s₁.heap.NoLimit) (hsys:∃ mm,s₁.heap.Ns sysModules mm) (hg:s₁.gens=#[])
  (ha:s₁.heap.get? a=some {cls:=.type "list",data:=.seq vs.toArray}) (hi:IntsAre vs ns) (hl:ns.length≤sizeLine) (hr:Room k callerA)
  (F:∀base:Heap,K.In base→base.Ns mainGlobals mg→FnOk P w K mg base CX k fa fd [x] sp) (hbind:∀(s:Shared)(u:Value),BindsTo s fd ⟨[u],[]⟩ [(x,u)])
  (hsp:∀H:Hp,Only H→SqL K H a (ns.map V.int)→sp [.ref a] H (fun v _=>v=.bl true) fun _ _ _=>False)
  (hCX:∀H e s',CX [] H s₁ (fun _ _ _=>False) e s'→False) :
  codeAny (model P w) callerA (.call (.ref fa) ⟨[.ref a],[]⟩) (fun r s'=>r=.ok (.ret (.bool true))∧OldK s₁.heap s'.heap∧s'.os=s₁.os∧AllBare s'.gens) s₁:=by
 have rv:=tF hi
 have lenV:=hi.length
 have core:∀H:Hp,Only H→SqL K H a (ns.map V.int)→HOk P w H s₁.heap→(∀b,H b≠none→b=a)→(H a≠none→K.lookup a=none) →
   codeAny (model P w) callerA (.call (.ref fa) ⟨[.ref a],[]⟩) (fun r s'=>r=.ok (.ret (.bool true))∧OldK s₁.heap s'.heap∧s'.os=s₁.os∧AllBare s'.gens) s₁:=by
  intro H hO hS hok hA hK
  have base_of:∀{b:Addr}{o:Obj},s₁.heap.get? b=some o→H b=none→(hidT s₁.heap H).get? b=some o:=fun e n=>BO e n
  have noA:∀{b:Addr}{o:Obj}{es:Array DictEntry}{ep:Nat},s₁.heap.get? b=some o→o.data=.dict es ep→H b=none:=fun {b o es ep} e d=>by
   cases q:H b with
   |none=>rfl
   | some u =>
    have e':b=a:=hA b (by rw[q];simp)
    subst e'
    rw[ha]at e;cases e
    have d':Data.seq vs.toArray _=Data.dict es ep:=d
    cases d'
  have nsK:∀{b:Addr}{m:Str→Option Value},s₁.heap.Ns b m→(hidT s₁.heap H).Ns b m:=fun {b m} ⟨o,es,ep,e,d,r⟩=>⟨o,es,ep,base_of e (noA e d),d,r⟩
  have hKb:K.In (hidT s₁.heap H):=fun b o e=>base_of (KX b o e) (by
   cases q:H b with
   |none=>rfl
   | some u =>
    have e':b=a:=hA b (by rw[q];simp)
    subst e'
    rw[hK (by rw[q];simp)]at e;cases e)
  have hM:Mod K mg (hidT s₁.heap H):=⟨hKb,nsK hns,⟨mb,nsK hb,hbb⟩,let ⟨mc,h1,h2⟩:=hlim;⟨mc,nsK h1,h2⟩,let ⟨mm,h1⟩:=hsys;⟨mm,nsK h1⟩⟩
  have e0:Env0 P w K mg (hidT s₁.heap H) callerA [] s₁ H:=⟨rfl,hM,fun b o e=>Ec e,Nat.le_of_eq (yU _ _),trivial,fun b hb=>absurd (show b∈([]:List Addr)from hb) (by simp),hok,.of_eq hg⟩
  refine codeAny_mono ((F _ hKb (nsK hns)).run callerA [] s₁ H ⟨[.ref a],[]⟩ [.ref a] [.ref a] _ _ hr e0 (hbind s₁ (.ref a)) (.cons rfl .nil) (hsp H hO hS)) fun r s' h=>?_
  cases r with
  |error e=>exact(hCX H e s' h).elim
  | ok fl =>
   cases fl with
   |next=>exact False.elim h
   |brk=>exact False.elim h
   |cont=>exact False.elim h
   | ret u =>
    obtain⟨v,H',os,bare,un,hok',r',q⟩:=h
    have q':v=.bl true:=q
    subst q'
    obtain rfl:u=Value.bool true:=r'
    refine⟨rfl,OldK.of_keep fun b o e=>?_,os,bare⟩
    cases q:H b with
    |none=>exact un.keep b o e q (by intro z;exact absurd (show b∈([]:List Addr)from z) (by simp)) (by simp)
    | some u =>
     rcases hO b with z|⟨ob,xs,z⟩
     ·
      rw[q]at z;cases z
     ·
      have z2:=un.frzs b ob _ z
      obtain⟨e1,_⟩:=hok b _ z
      obtain⟨e2,_⟩:=hok' b _ z2
      rw[e]at e1;cases e1
      exact e2
 cases hk:K.lookup a with
 | some o =>
  have e:=KX a o hk
  rw[ha]at e
  cases e
  refine core (fun _=>none) (fun _=>.inl rfl) (.inr ⟨_,vs.toArray,_,hk,rfl,rfl,rfl,by rw[List.size_toArray,lenV];exact hl,by simpa using rv⟩) (fun b u z=>by have z':(none:Option HO)=some u:=z;cases z') (fun b z=>absurd rfl z) fun z=>absurd rfl z
 | none =>
  refine core (fun b=>if b=a then some (.frz {cls:=.type "list",data:=.seq vs.toArray} (.lst (ns.map V.int)))else none) (fun b=>?_) (.inl (.inr ⟨{cls:=.type "list",data:=.seq vs.toArray},if_pos rfl⟩)) (fun b u z=>?_) (fun b z=>?_) fun _=>hk
  ·
   by_cases hb:b=a
   ·
    exact .inr ⟨_,_,if_pos hb⟩
   ·
    exact .inl (if_neg hb)
  ·
   by_cases hb:b=a
   ·
    have z':=(if_pos hb).symm.trans z
    cases z'
    subst hb
    exact⟨ha,by rw[List.length_map];exact hl,vs,_,rv,ha⟩
   ·
    have z':=(if_neg hb).symm.trans z
    cases z'
  ·
   by_cases hb:b=a
   ·
    exact hb
   ·
    exact absurd (if_neg hb) z
theorem walk_of{l:PySem.W.OpenLaw}{n k:Nat}{q:Program}{loose:List Str}{XP:(Str→Option Value)→Heap→Prop}{YP:World→Heap→Prop}{d:DefRec}{K:Params→PySem.W.Frag}{CX:World→CXT}{sp:World→Sp}{x:Str}
  (hn:l.most=some n) (hq:importsNone q=true) (hn2:n≤sizeLine) (hdf:d.params.defaults=[]) (hr:Room k callerA)
  (hY:∀(w:World)(h:Heap),YP w h→(K w.params).In h)
  (F:∀(w:World)(mg:Str→Option Value)(fa:Addr)(h:Heap),(K w.params).In h→h.Ns mainGlobals mg→mg d.name=some (.ref fa) →
   ∃fd:FuncData,(∀(s:Shared)(u:Value),BindsTo s fd ⟨[u],[]⟩ [(x,u)]) ∧
    ∀base:Heap,(K w.params).In base→base.Ns mainGlobals mg→FnOk l.prog w (K w.params) mg base (CX w) k fa fd [x] (sp w))
  (hsp:∀(w:World)(H:Hp)(a:Addr)(ns:List Int),ns.length≤n→Only H→SqL (K w.params) H a (ns.map V.int)→sp w [.ref a] H (fun v _=>v=.bl true) fun _ _ _=>False)
  (hCX:∀(w:World)(H:Hp)(s:Shared)(e:Value)(s':Shared),CX w [] H s (fun _ _ _=>False) e s'→False) :
  PySem.W.WalkO q loose XP YP l.row.toRowW d [] (fun f vs=>PySem.call f vs):=by
 refine Att.attach_call hn hdf fun w s₀ s₁ mg mb fa o pm cd doc a vs ns G Y ho hd hcd hmg hobj hints hlen hg=>?_
 have KX:=hY w _ Y
 obtain⟨fd,hb,hF⟩:=F w mg fa _ KX G.T.g hmg
 exact B2 KX G.T.g G.T.b G.T.builtins G.T.nolimit (let ⟨mm,h1,_⟩:=(G.T.seer hq).mods;⟨mm,h1⟩) hg hobj hints (Nat.le_trans hlen hn2) hr hF hb (fun H hO hS=>hsp w H a ns hlen hO hS) fun H e s'=>hCX w H s₁ e s'
def lF(s:Stmt):Arguments:=match s with
 |.FunctionDef _ a _ _ _ _ _ _ _ _=>a
 |_=>{posonlyargs:=[],args:=[],vararg:=none,kwonlyargs:=[],kw_defaults:=[],kwarg:=none,defaults:=[] }
def gO(s:Stmt):List Stmt:=match s with
 |.FunctionDef _ _ b _ _ _ _ _ _ _=>b
 |_=>[]
def ak(s:Stmt):Scope:=match s with
 |.FunctionDef _ _ _ _ _ _ sc _ _ _=>sc
 |_=>{kind:=.function,names:=[],isGenerator:=false,isCoroutine:=false}
abbrev CX0:CXT:=fun _ _ _ _ _ _=>False
abbrev E0:XK:=fun _ _ _=>False
theorem GX{X:Cx}:wL CX0 X E0:=fun _ _ _ _ _ _ _ h=>h.elim
structure Fun (K:PySem.W.Frag) (x qual:Str) (st:Stmt) (f:Addr) (fd:FuncData):Prop where
 ex:∃(oc:Value)(od:Option Addr)(kV doc pm:Value)(an:Option Addr)(cdv ct:Value)(osl:Array (Option Value)),
  fd=PySem.W.fnOf x qual (lF st) (gO st) (ak st) .none kV doc pm an cdv ct∧K.lookup f=some ⟨oc,od,.func fd,osl⟩∧PySem.W.codeIn K cdv qual=true
 kp:PySem.W.keepIn K (.ref f)=true
section
variable{P:Program}{w:World}{K:PySem.W.Frag}{mg:Str→Option Value}{base:Heap}
theorem Fun.ok{x qual:Str}{st:Stmt}{f:Addr}{fd:FuncData}{N ps:List Str}{k:Nat}{sp:Sp}(F:Fun K x qual st f fd)(S:ax N ps (ak st))(len:∀vs H Q E,sp vs H Q E→vs.length=ps.length)
  (hbody:∀(cdv:Value)(A:Around)(outer:List Env)(s:Shared)(H:Hp)(vs:List V)(Q:VK)(E:XK),Room k (A.deeper (envOfC qual (ak st) s.heap.objs.size f cdv))→sp vs H Q E →
   ∃t,PSs (cxOf CX0 P w K mg base N qual (ak st) f cdv A outer s H E).nox (gO st) t∧t {nx:=fun _ H'=>Q .non H',rt:=Q} (qN N vs) H):FnOk P w K mg base CX0 (k+1) f fd ps sp:=by
 obtain⟨oc,od,kV,doc,pm,an,cdv,ct,osl,rfl,lk,hcd⟩:=F.ex
 refine IJ lk hcd S len fun A outer s H vs Q E hr hsp=>?_
 obtain⟨t,h,q⟩:=hbody cdv A outer s H vs Q E hr hsp
 exact⟨t,h.nox,q⟩
theorem Fun.binds{x qual:Str}{st:Stmt}{f:Addr}{fd:FuncData}{ps:List Str}(F:Fun K x qual st f fd)
  (h:∀(kV doc pm:Value)(an:Option Addr)(cdv ct:Value)(us:List Value),us.length=ps.length→bindArgs (PySem.W.fnOf x qual (lF st) (gO st) (ak st) .none kV doc pm an cdv ct) ⟨us,[]⟩=pure (ps.zip us)):vb K fd ps []:=by
 obtain⟨oc,od,kV,doc,pm,an,cdv,ct,osl,rfl,lk,hcd⟩:=F.ex
 exact .all (h kV doc pm an cdv ct)
theorem DU{x qual:Str}{st:Stmt}{f:Addr}{oc:Value}{od an:Option Addr}{osl:Array (Option Value)}{kV doc pm cdv ct:Value}(l:K.lookup f=some ⟨oc,od,.func (PySem.W.fnOf x qual (lF st) (gO st) (ak st) .none kV doc pm an cdv ct),osl⟩)
  (c:PySem.W.codeIn K cdv qual=true) (k:PySem.W.keepIn K (.ref f)=true):Fun K x qual st f (PySem.W.fnOf x qual (lF st) (gO st) (ak st) .none kV doc pm an cdv ct):=⟨⟨oc,od,kV,doc,pm,an,cdv,ct,osl,rfl,l,c⟩,k⟩
end
def Same(H H':Hp):Prop:=∀b o,H b=some o→H' b=some o
inductive D where
 |non|bl (b:Bool)|int (i:Int)|str (x:Str)|tup (xs:List D)|lst (xs:List D)|dct (n:Nat)|exc (c:Str) (ns:List Str) (xs:List D)
def SqZ(K:PySem.W.Frag)(H:Hp)(a:Addr)(xs:List V):Prop :=
 (∃o,H a=some (.frz o (.lst xs))) ∨
  ∃(o:Obj)(its:Array Value)(n:Nat),K.lookup a=some o∧o.cls=.type "list"∧o.dict=none∧o.data=.seq its n∧its.size≤sizeLine∧Vals xs its.toList
theorem SqZ.l{K:PySem.W.Frag}{H:Hp}{a:Addr}{xs:List V}(h:SqZ K H a xs):SqL K H a xs:=by
 rcases h with⟨o,h⟩|h
 ·
  exact .inl (.inr ⟨o,h⟩)
 ·
  exact .inr h
def Ep:HO→Prop
 |.frz _ u=>Ep u
 |.ins _ _ _=>False
 |_=>True
def qh(K:PySem.W.Frag)(c:Str)(C:Addr):Bool:=match PySem.W.clsIn K C,PySem.W.nsIn K mainGlobals "LoadError" with
 | some cd,some (some (.ref L))=>cd.name == c && cd.hasDict && cd.mro == [.ref C,.ref L,.type "ValueError",.type "Exception",.type "BaseException",.type "object"] && (PySem.W.clsIn K L).any (fun k=>k.name == ("LoadError" : Str)) &&
  PySem.W.findIn K (.ref C) "__getattribute__" == some (some (.builtin "BaseException.__getattribute__")) && PySem.W.findIn K (.ref C) "__getattr__" == some none && PySem.W.findIn K (.ref C) "__class__" == some (some (.builtin "object.__class__")) &&
  PySem.W.findIn K (.ref C) "__setattr__" == some (some (.builtin "object.__setattr__")) && PySem.W.typeIn K (.ref C) == some (.type "type") && PySem.W.nsIn K mainGlobals c == some (some (.ref C))
 |_,_=>false
def XF(H:Hp)(dx:Option Addr)(ns:List Str)(vs:List V):Prop:=(ns=[]∧vs=[]∧dx=none)∨∃d od,dx=some d∧H d=some (.frz od (.xd (ns.zip vs)))∧ns.length=vs.length
mutual
inductive Rep (K:PySem.W.Frag) (H:Hp):V→D→Prop where
 |non:Rep K H .non .non
 |bl (b:Bool):Rep K H (.bl b) (.bl b)
 |int (i:Int):Rep K H (.int i) (.int i)
 |str (x:Str):Rep K H (.str x) (.str x)
 |tup {a:Addr} {vs:List V} {ds:List D} (h:SqT K H a vs) (r:Reps K H vs ds):Rep K H (.ref a) (.tup ds)
 |lst {a:Addr} {vs:List V} {ds:List D} (h:SqZ K H a vs) (r:Reps K H vs ds):Rep K H (.ref a) (.lst ds)
 |dct {a:Addr} {o:Obj} {kvs:List (Key×V)} (h:H a=some (.frz o (.dK kvs))):Rep K H (.ref a) (.dct kvs.length)
 |exc {a:Addr} {o:Obj} {u:HO} {c:Str} {C:Addr} {ns:List Str} {vs:List V} {ds:List D} (h:H a=some (.frz o u)) (hv:Ep u) (hc:o.cls=.ref C) (hn:PySem.W.notCls o=true) (hs:qh K c C=true) (hq:∀f∈ns,PySem.W.findIn K (.ref C) f=some none) (hf:XF H o.dict ns vs) (r:Reps K H vs ds):Rep K H (.ref a) (.exc c ns ds)
inductive Reps (K:PySem.W.Frag) (H:Hp):List V→List D→Prop where
 |nil:Reps K H [] []
 |cons {v:V} {d:D} {vs:List V} {ds:List D} (h:Rep K H v d) (t:Reps K H vs ds):Reps K H (v::vs) (d::ds)
end
def Pers:HO→Prop
 |.tup _=>True
 |.frz _ _=>True
 |_=>False
def Pres(H H':Hp):Prop:=∀b o,Pers o→H b=some o→H' b=some o
theorem SqT.pres{K:PySem.W.Frag}{H H':Hp}{a:Addr}{xs:List V}(p:Pres H H')(h:SqT K H a xs):SqT K H' a xs:=by
 rcases h with(h|⟨o,h⟩)|h
 ·
  exact .inl (.inl (p _ _ True.intro h))
 ·
  exact .inl (.inr ⟨o,p _ _ True.intro h⟩)
 ·
  exact .inr h
theorem SqZ.pres{K:PySem.W.Frag}{H H':Hp}{a:Addr}{xs:List V}(p:Pres H H')(h:SqZ K H a xs):SqZ K H' a xs:=by
 rcases h with⟨o,h⟩|h
 ·
  exact .inl ⟨o,p _ _ True.intro h⟩
 ·
  exact .inr h
theorem XF.pres{H H':Hp}(p:Pres H H'){dx:Option Addr}{ns:List Str}{vs:List V}(h:XF H dx ns vs):XF H' dx ns vs:=by
 rcases h with h|⟨d,od,e,h,l⟩
 ·
  exact .inl h
 ·
  exact .inr ⟨d,od,e,p _ _ True.intro h,l⟩
mutual
theorem Rep.pres{K:PySem.W.Frag}{H H':Hp}(p:Pres H H'):∀{v:V}{d:D},Rep K H v d→Rep K H' v d
 |_,_,.non=>.non
 |_,_,.bl b=>.bl b
 |_,_,.int i=>.int i
 |_,_,.str x=>.str x
 |_,_,.tup h r=>.tup (h.pres p) (Reps.pres p r)
 |_,_,.lst h r=>.lst (h.pres p) (Reps.pres p r)
 |_,_,.dct h=>.dct (p _ _ True.intro h)
 |_,_,.exc h hv hc hn hs hq hf r=>.exc (p _ _ True.intro h) hv hc hn hs hq (hf.pres p) (Reps.pres p r)
theorem Reps.pres{K:PySem.W.Frag}{H H':Hp}(p:Pres H H'):∀{vs:List V}{ds:List D},Reps K H vs ds→Reps K H' vs ds
 |_,_,.nil=>.nil
 |_,_,.cons h t=>.cons (Rep.pres p h) (Reps.pres p t)
end
theorem Reps.length{K:PySem.W.Frag}{H:Hp}:∀{vs:List V}{ds:List D},Reps K H vs ds→vs.length=ds.length
 |_,_,.nil=>rfl
 |_,_,.cons _ t=>by simp[Reps.length t]
theorem Reps.get{K:PySem.W.Frag}{H:Hp}:∀{vs:List V}{ds:List D}{i:Nat}{d:D},Reps K H vs ds→ds[i]?=some d→∃v,vs[i]?=some v∧Rep K H v d
 |_,_,_,_,.nil,e=>by simp at e
 |_,_,0,_,.cons h _,e=>by simp at e;subst e;exact⟨_,rfl,h⟩
 | _,_,i+1,d,.cons _ t,e=>by
  obtain⟨v,h1,h2⟩:=Reps.get (i:=i) (d:=d) t (by simpa using e)
  exact⟨v,by simpa using h1,h2⟩
theorem Reps.set{K:PySem.W.Frag}{H:Hp}{v:V}{d:D}(r:Rep K H v d):∀{vs:List V}{ds:List D}(i:Nat),Reps K H vs ds→Reps K H (vs.set i v) (ds.set i d)
 |_,_,_,.nil=>.nil
 |_,_,0,.cons _ t=>.cons r t
 |_,_,i+1,.cons h t=>.cons h (Reps.set r i t)
theorem Reps.append{K:PySem.W.Frag}{H:Hp}:∀{vs us:List V}{ds es:List D},Reps K H vs ds→Reps K H us es→Reps K H (vs++us) (ds++es)
 |_,_,_,_,.nil,s=>s
 |_,_,_,_,.cons h t,s=>.cons h (Reps.append t s)
theorem Reps.take{K:PySem.W.Frag}{H:Hp}:∀{vs:List V}{ds:List D}(n:Nat),Reps K H vs ds→Reps K H (vs.take n) (ds.take n)
 |_,_,0,_=>.nil
 |_,_,_+1,.nil=>.nil
 |_,_,n+1,.cons h t=>.cons h (Reps.take n t)
theorem Reps.drop{K:PySem.W.Frag}{H:Hp}:∀{vs:List V}{ds:List D}(n:Nat),Reps K H vs ds→Reps K H (vs.drop n) (ds.drop n)
 |_,_,0,r=>r
 |_,_,_+1,.nil=>.nil
 |_,_,n+1,.cons _ t=>Reps.drop n t
inductive L where
 |un|d (x:D)|own (a:Addr) (xs:List D)|bx (k:Option Addr) (ls:List L)|dic (a:Addr) (kvs:List (Key×D))
abbrev Ev:=List L
mutual
def aS:L→List Addr
 |.un=>[]
 |.d _=>[]
 |.own a _=>[a]
 |.bx k ls=>k.toList++c9 ls
 |.dic a _=>[a]
def c9:List L→List Addr
 |[]=>[]
 |l::ls=>aS l++c9 ls
end
def owns(ρ:Ev):List Addr:=ρ.flatMap aS
theorem cv:∀ls:List L,c9 ls=owns ls
 |[]=>rfl
 |l::ls=>by rw[c9,cv ls];rfl
mutual
def aK(K:PySem.W.Frag)(H:Hp)(s:Option V):L→Prop
 |.un=>True
 |.d x=>∃v,s=some v∧Rep K H v x
 |.own a xs=>s=some (.ref a)∧∃vs,H a=some (.lst vs)∧Reps K H vs xs
 |.bx none ls=>∃a vs,s=some (.ref a)∧SqT K H a vs∧bB K H vs ls
 |.bx (some a) ls=>s=some (.ref a)∧∃vs,H a=some (.lst vs)∧bB K H vs ls
 |.dic a kvs=>s=some (.ref a)∧∃vs,H a=some (.dK vs)∧Paired (fun (p:Key×V) (q:Key×D)=>p.1=q.1∧Rep K H p.2 q.2) vs kvs
def bB(K:PySem.W.Frag)(H:Hp)(vs:List V):List L→Prop
 |[]=>vs=[]
 |l::ls=>∃v us,vs=v::us∧aK K H (some v) l∧bB K H us ls
end
mutual
theorem aK.pres{K:PySem.W.Frag}{H H':Hp}(p:Pres H H'):∀{s:Option V}(l:L),(∀a∈aS l,H' a=H a)→aK K H s l→aK K H' s l
 |_,.un,_,_=>by simp only[aK]
 | _,.d x,_,h=>by
  simp only[aK]at h ⊢
  obtain⟨v,e,r⟩:=h
  exact⟨v,e,r.pres p⟩
 | _,.own a xs,q,h=>by
  simp only[aK]at h ⊢
  obtain⟨e,vs,ha,r⟩:=h
  exact⟨e,vs,(q a (by simp[aS])).trans ha,r.pres p⟩
 | _,.bx none ls,q,h=>by
  simp only[aK]at h ⊢
  obtain⟨a,vs,e,ha,r⟩:=h
  exact⟨a,vs,e,ha.pres p,bB.pres p ls (fun b hb=>q b (by simp[aS,hb])) r⟩
 | _,.bx (some a) ls,q,h=>by
  simp only[aK]at h ⊢
  obtain⟨e,vs,ha,r⟩:=h
  exact⟨e,vs,(q a (by simp[aS])).trans ha,bB.pres p ls (fun b hb=>q b (by simp[aS,hb])) r⟩
 | _,.dic a kvs,q,h=>by
  simp only[aK]at h ⊢
  obtain⟨e,vs,ha,r⟩:=h
  exact⟨e,vs,(q a (by simp[aS])).trans ha,Paired.mapP r fun _ _ z=>⟨z.1,z.2.pres p⟩⟩
theorem bB.pres{K:PySem.W.Frag}{H H':Hp}(p:Pres H H'):∀{vs:List V}(ls:List L),(∀a∈c9 ls,H' a=H a)→bB K H vs ls→bB K H' vs ls
 |_,[],_,h=>by simpa only[bB]using h
 | _,l::ls,q,h=>by
  simp only[bB]at h ⊢
  obtain⟨v,us,e,h1,h2⟩:=h
  exact⟨v,us,e,aK.pres p l (fun b hb=>q b (by simp[c9,hb])) h1,bB.pres p ls (fun b hb=>q b (by simp[c9,hb])) h2⟩
end
def OMut:HO→Prop
 |.lst _=>True
 |.dK _=>True
 |_=>False
theorem OMut.no{o:HO}(h:OMut o)(p:Pers o):False:=by cases o<;>first|exact h|exact p
mutual
theorem aK.lstAt{K:PySem.W.Frag}{H:Hp}:∀{s:Option V}(l:L),aK K H s l→∀a∈aS l,∃o,H a=some o∧OMut o
 |_,.un,_,a,ha=>by simp[aS]at ha
 |_,.d x,_,a,ha=>by simp[aS]at ha
 | _,.own b xs,h,a,ha=>by
  simp only[aK]at h
  have e:a=b:=by simpa[aS]using ha
  subst e
  obtain⟨_,vs,q,_⟩:=h
  exact⟨_,q,True.intro⟩
 | _,.bx none ls,h,a,ha=>by
  simp only[aK]at h
  obtain⟨b,vs,e,_,r⟩:=h
  exact bB.lstAt ls r a (by simpa[aS]using ha)
 | _,.bx (some b) ls,h,a,ha=>by
  simp only[aK]at h
  obtain⟨e,vs,q,r⟩:=h
  rcases(by simpa[aS]using ha:a=b∨a∈c9 ls)with z|z
  ·
   subst z;exact⟨_,q,True.intro⟩
  ·
   exact bB.lstAt ls r a z
 | _,.dic b xs,h,a,ha=>by
  simp only[aK]at h
  have e:a=b:=by simpa[aS]using ha
  subst e
  obtain⟨_,vs,q,_⟩:=h
  exact⟨_,q,True.intro⟩
theorem bB.lstAt{K:PySem.W.Frag}{H:Hp}:∀{vs:List V}(ls:List L),bB K H vs ls→∀a∈c9 ls,∃o,H a=some o∧OMut o
 |_,[],_,a,ha=>by simp[c9]at ha
 | _,l::ls,h,a,ha=>by
  simp only[bB]at h
  obtain⟨v,us,e,h1,h2⟩:=h
  rcases(by simpa[c9]using ha:a∈aS l∨a∈c9 ls)with z|z
  ·
   exact aK.lstAt l h1 a z
  ·
   exact bB.lstAt ls h2 a z
end
structure REnv (K:PySem.W.Frag) (Pr H:Hp) (σ:St) (ρ:Ev):Prop where
 sub:∀b o,Pr b=some o→H b=some o
 nd:(owns ρ).Nodup
 off:∀a∈owns ρ,Pr a=none
 sl:Paired (aK K H) σ ρ
theorem fQ{ρ:Ev}{a:Addr}:a∈owns ρ↔∃l∈ρ,a∈aS l:=by
 unfold owns
 rw[List.mem_flatMap]
theorem vf{ρ:Ev}{a:Addr}{xs:List D}(h:L.own a xs∈ρ):a∈owns ρ:=fQ.mpr ⟨_,h,by simp[aS]⟩
theorem ay(a b:Ev):owns (a++b)=owns a++owns b:=List.flatMap_append
theorem Paired.mem2{α β:Type}{F:α→β→Prop}:∀{l1:List α}{l2:List β}{b:β},Paired F l1 l2→b∈l2→∃a,a∈l1∧F a b
 |_,_,_,.nil,h=>by simp at h
 | _,_,_,.cons r t,h=>by
  rcases List.mem_cons.mp h with rfl|h
  ·
   exact⟨_,List.mem_cons_self,r⟩
  ·
   obtain⟨a,h1,h2⟩:=Paired.mem2 t h
   exact⟨a,List.mem_cons_of_mem _ h1,h2⟩
theorem Paired.app{α β:Type}{F:α→β→Prop}:∀{a c:List α}{b d:List β},Paired F a b→Paired F c d→Paired F (a++c) (b++d)
 |_,_,_,_,.nil,s=>s
 |_,_,_,_,.cons r t,s=>.cons r (Paired.app t s)
theorem Paired.unapp{α β:Type}{F:α→β→Prop}:∀{a c:List α}{b d:List β},a.length=b.length→Paired F (a++c) (b++d)→Paired F a b∧Paired F c d
 |[],_,[],_,_,s=>⟨.nil,s⟩
 | x::a,_,y::b,_,hl,.cons r t=>by
  obtain⟨p,q⟩:=Paired.unapp (a:=a) (b:=b) (by simpa using hl) t
  exact⟨.cons r p,q⟩
 |[],_,_::_,_,hl,_=>by simp at hl
 |_::_,_,[],_,hl,_=>by simp at hl
theorem Paired.get2{α β:Type}{F:α→β→Prop}:∀{l1:List α}{l2:List β}{i:Nat}{b:β},Paired F l1 l2→l2[i]?=some b→∃a,l1[i]?=some a∧F a b
 |_,_,_,_,.nil,e=>by simp at e
 |_,_,0,_,.cons h _,e=>by simp at e;subst e;exact⟨_,rfl,h⟩
 | _,_,i+1,d,.cons _ t,e=>by
  obtain⟨v,h1,h2⟩:=Paired.get2 (i:=i) (b:=d) t (by simpa using e)
  exact⟨v,by simpa using h1,h2⟩
theorem Paired.set2{α β:Type}{F:α→β→Prop}{a:α}{b:β}(r:F a b):∀{l1:List α}{l2:List β}(i:Nat),Paired F l1 l2→Paired F (l1.set i a) (l2.set i b)
 |_,_,_,.nil=>.nil
 |_,_,0,.cons _ t=>.cons r t
 |_,_,i+1,.cons h t=>.cons h (Paired.set2 r i t)
theorem Paired.impMem{α β:Type}{F G:α→β→Prop}:∀{l1:List α}{l2:List β},Paired F l1 l2→(∀b∈l2,∀a,F a b→G a b)→Paired G l1 l2
 |_,_,.nil,_=>.nil
 |_,_,.cons r t,h=>.cons (h _ List.mem_cons_self _ r) (Paired.impMem t fun b hb=>h b (List.mem_cons_of_mem _ hb))
theorem Paired.set_r{α β:Type}{F:α→β→Prop}{b:β}:∀{l1:List α}{l2:List β}(i:Nat),Paired F l1 l2→(∀a,l1[i]?=some a→F a b)→Paired F l1 (l2.set i b)
 |_,_,_,.nil,_=>.nil
 |_,_,0,.cons _ t,h=>.cons (h _ rfl) t
 |_,_,i+1,.cons q t,h=>.cons q (Paired.set_r i t fun a e=>h a (by simpa using e))
section
variable{K:PySem.W.Frag}{Pr H H':Hp}{σ τ w σ':St}{ρ μ lam ρ':Ev}
theorem REnv.len(E:REnv K Pr H σ ρ):σ.length=ρ.length:=Paired.length E.sl
def a5(H:Hp)(ρ:Ev):Hp:=fun b=>if b∈owns ρ then none else H b
theorem REnv.at_own(E:REnv K Pr H σ ρ){a:Addr}(h:a∈owns ρ):∃o,H a=some o∧OMut o:=by
 obtain⟨l,hx,ha⟩:=fQ.mp h
 obtain⟨s,_,q⟩:=Paired.mem2 E.sl hx
 exact q.lstAt l a ha
theorem REnv.wide(E:REnv K Pr H σ ρ):REnv K (a5 H ρ) H σ ρ :=
 ⟨fun b o e=>by unfold a5 at e;split at e;cases e;exact e,E.nd,fun a h=>by unfold a5;rw[if_pos h],E.sl⟩
theorem REnv.drop(E:REnv K Pr H (τ++σ) (lam++ρ))(hl:τ.length=lam.length):REnv K Pr H σ ρ :=
 ⟨E.sub,(List.nodup_append.mp (ay lam ρ ▸ E.nd)).2.1,fun a h=>E.off a (by rw[ay];exact List.mem_append_right _ h),(Paired.unapp hl E.sl).2⟩
theorem REnv.left(E:REnv K Pr H (τ++σ) (lam++ρ))(hl:τ.length=lam.length):REnv K Pr H τ lam :=
 ⟨E.sub,(List.nodup_append.mp (ay lam ρ ▸ E.nd)).1,fun a h=>E.off a (by rw[ay];exact List.mem_append_left _ h),(Paired.unapp hl E.sl).1⟩
theorem qR{H H':Hp}{ρ:Ev}{σ:St}{Pr:Hp}(E:REnv K Pr H σ ρ)(h:∀b o,a5 H ρ b=some o→H' b=some o):Pres H H':=fun b o p e=>by
 refine h b o ?_
 unfold a5
 rw[if_neg,e]
 intro hm
 obtain⟨u,e',m⟩:=E.at_own hm
 rw[e]at e'
 cases e'
 exact m.no p
theorem REnv.step(E:REnv K Pr H (τ++σ) (lam++ρ))(hl:τ.length=lam.length)(E':REnv K (a5 H ρ) H' (w++σ') (μ++ρ'))(hw:w.length=μ.length):REnv K Pr H' (w++(τ++σ')) (μ++(lam++ρ')):=by
 have Eσ:=E.drop hl
 have p:Pres H H':=qR Eσ E'.sub
 have dis:∀a∈owns lam,a∉owns ρ:=fun a h1 h2=>(List.nodup_append.mp (ay lam ρ ▸ E.nd)).2.2 a h1 a h2 rfl
 have at':∀a∈owns lam,a5 H ρ a=H a:=fun a h=>by unfold a5;rw[if_neg (dis a h)]
 have some':∀a∈owns lam,∃o,H a=some o∧OMut o:=fun a h=>E.at_own (by rw[ay];exact List.mem_append_left _ h)
 have out:∀a∈owns lam,a∉owns (μ++ρ'):=fun a h h2=>by
  have z:=E'.off a h2
  rw[at' a h]at z
  obtain⟨vs,e,_⟩:=some' a h
  rw[e]at z
  cases z
 have s1:=(Paired.unapp hw E'.sl)
 have s2:=(Paired.unapp hl E.sl).1
 refine⟨fun b o e=>?_,?_,fun a ha=>?_,Paired.app s1.1 (Paired.app ?_ s1.2)⟩
 ·
  refine E'.sub b o ?_
  unfold a5
  rw[if_neg,E.sub b o e]
  intro hm
  have z:=Eσ.off b hm
  rw[e]at z
  cases z
 ·
  have n1:=E'.nd
  rw[ay]at n1
  rw[ay,ay]
  obtain⟨q1,q2,q3⟩:=List.nodup_append.mp n1
  refine List.nodup_append.mpr ⟨q1,List.nodup_append.mpr ⟨(List.nodup_append.mp (ay lam ρ ▸ E.nd)).1,q2,fun a ha b hb=>?_⟩,fun a ha b hb=>?_⟩
  ·
   rintro rfl
   exact out a ha (by rw[ay];exact List.mem_append_right _ hb)
  ·
   rcases List.mem_append.mp hb with hb|hb
   ·
    rintro rfl
    exact out a hb (by rw[ay];exact List.mem_append_left _ ha)
   ·
    exact q3 a ha b hb
 ·
  rw[ay,ay]at ha
  have key:a∈owns (μ++ρ')→Pr a=none:=fun h=>by
   have z:=E'.off a h
   unfold a5 at z
   by_cases hm:a∈owns ρ
   ·
    exact Eσ.off a hm
   ·
    rw[if_neg hm]at z
    cases q:Pr a with
    |none=>rfl
    |some o=>rw[E.sub a o q]at z;cases z
  rcases List.mem_append.mp ha with h|h
  ·
   exact key (by rw[ay];exact List.mem_append_left _ h)
  ·
   rcases List.mem_append.mp h with h|h
   ·
    exact E.off a (by rw[ay];exact List.mem_append_left _ h)
   ·
    exact key (by rw[ay];exact List.mem_append_right _ h)
 ·
  have:∀l∈lam,∀s,aK K H s l→aK K H' s l:=fun l hlm s h=>h.pres p l fun a e=>by
   have ha:a∈owns lam:=fQ.mpr ⟨l,hlm,e⟩
   obtain⟨vs,e,_⟩:=some' a ha
   rw[E'.sub a _ ((at' a ha).trans e),e]
  exact Paired.impMem s2 this
end
end L2
namespace L2
open PySem PySem.Spec PyProof.Rows PySem.W
structure XStd (K:Frag) (c:Str) (C L:Addr) (cd:ClassData):Prop where
 cls:clsIn K C=some cd
 load:nsIn K mainGlobals "LoadError"=some (some (.ref L))
 name:cd.name=c
 dct:cd.hasDict=true
 mro:cd.mro=[.ref C,.ref L,.type "ValueError",.type "Exception",.type "BaseException",.type "object"]
 lname:∃ k,clsIn K L=some k∧k.name=("LoadError" : Str)
 ga:findIn K (.ref C) "__getattribute__"=some (some (.builtin "BaseException.__getattribute__"))
 gx:findIn K (.ref C) "__getattr__"=some none
 gc:findIn K (.ref C) "__class__"=some (some (.builtin "object.__class__"))
 sa:findIn K (.ref C) "__setattr__"=some (some (.builtin "object.__setattr__"))
 ty:typeIn K (.ref C)=some (.type "type")
 own:nsIn K mainGlobals c=some (some (.ref C))
theorem tG{K:Frag}{c:Str}{C:Addr}(h:qh K c C=true):∃L cd,XStd K c C L cd:=by
 unfold qh at h
 split at h
 ·
  rename_i cd L e1 e2
  simp only[Bool.and_eq_true,beq_iff_eq]at h
  obtain⟨⟨⟨⟨⟨⟨⟨⟨⟨h1,h2⟩,h3⟩,h4⟩,h5⟩,h6⟩,h7⟩,h8⟩,h9⟩,h10⟩:=h
  obtain⟨k,hk,hn⟩:=any_some h4
  exact⟨L,cd,e1,e2,h1,h2,h3,⟨k,hk,beq_iff_eq.mp hn⟩,h5,h6,h7,h8,h9,h10⟩
 ·
  cases h
section
variable{K:Frag}{c:Str}{C L:Addr}{cd:ClassData}
theorem XStd.mroIn(S:XStd K c C L cd)(b:Value):PySem.W.mroIn K C b=some (([.ref C,.ref L,.type "ValueError",.type "Exception",.type "BaseException",.type "object"]:List Value).contains b):=by
 unfold PySem.W.mroIn
 rw[S.cls,Option.bind_some,S.mro]
 rfl
theorem nT(C L:Addr)(T:String):(([.ref C,.ref L,.type "ValueError",.type "Exception",.type "BaseException",.type "object"]:List Value).contains (.type T))=(["ValueError","Exception","BaseException","object"]:List String).contains T:=by
 simp only[List.contains_cons,List.contains_nil,Bool.or_false]
 have e:∀a:Addr,(Value.type T == Value.ref a)=false:=fun _=>rfl
 have f:∀U:String,(Value.type T == Value.type U)=(T == U):=fun U=>by
  by_cases q:T=U
  ·
   subst q;simp
  ·
   rw[beq_eq_false_iff_ne.mpr q,beq_eq_false_iff_ne]
   intro z;injection z with z;exact q z
 rw[e,e,f,f,f,f];rfl
theorem XStd.has(S:XStd K c C L cd){T:String} (h:(["ValueError","Exception","BaseException","object"]:List String).contains T=true):PySem.W.mroIn K C (.type T)=some true:=by
 rw[S.mroIn,nT,h]
theorem XStd.isT(S:XStd K c C L cd){M:Model}{h:Heap}(X:K.In h)(T:String):Looks M h (isSubtype (.ref C) (.type T)) ((["ValueError","Exception","BaseException","object"]:List String).contains T):=looks_mroIn X (by rw[S.mroIn,nT])
end
section
variable{prog:Program}{w:World}{A:Around}{E:Value→Shared→Prop}{s:Shared}{K:Frag}{c:Str}{x C L:Addr}{cd:ClassData}{ox:Obj}{od:Option Obj}{name:Str}
theorem tH{tk:Tok}{Q:Fin→Shared→Prop}(S:XStd K c C L cd)(X:K.In s.heap)(I:InstAt s.heap x ox C od) (hf:findObj K C od "__class__"=some (.bind (.builtin "getset_descriptor.__get__") (.builtin "object.__class__"))) (hq:Q (.done (.ret (.ref C))) s) :
  wpAny (model prog w) A (Builtin.«object.__getattribute__» ⟨[.ref x,.str "__class__" tk],[]⟩) Q E s:=by
 obtain⟨hh,g,d,t,os⟩:=s
 have L0:=I.type (M:=model prog w)
 have L1:=looks_find (M:=model prog w) X I hf
 unfold Builtin.«object.__getattribute__»
 refine wpAny_bind (wpAny_pure (wpAny_bind (wpAny_pure ?_)))
 refine wpAny_bind (L0.at (wpAny_bind (L1.at ?_)))
 show wpAny _ _ (holding [Value.builtin "object.__class__"] (call (.builtin "getset_descriptor.__get__") [.builtin "object.__class__",.ref x,.ref C]) >>= ret) _ _ _
 refine wpAny_bind (wpAny_holding (wpAny_call ?_))
 exact class_get (s:=⟨hh,g,d,t,os⟩) (ox:=ox) (od:=od) X I (S.has (by decide)) (wpAny_pure hq)
theorem Er{tk:Tok}{v:Value}{fill expr:Bool}{Q:Value→Shared→Prop}(S:XStd K c C L cd)(X:K.In s.heap)(I:InstAt s.heap x ox C od)
  (he:∀(A':Around)(Q':Fin→Shared→Prop),Q' (.done (.ret v)) s→wpAny (model prog w) A' (Builtin.«object.__getattribute__» ⟨[.ref x,.str name tk],[]⟩) Q' (fun _ _=>False) s) (hh:handedIn v=true) (hq:Q v s) :
  wpAny (model prog w) A (getAttrBy (.ref x) (.str name tk) fill expr) Q E s:=by
 have FB:=F.excAttr_ValueError
 have L0:=I.type (M:=model prog w)
 have L1:=looks_findIn (M:=model prog w) X S.ga
 have L2:=looks_findIn (M:=model prog w) X S.gx
 unfold getAttrBy
 refine wpAny_holding (wpAny_bind (L0.here (wpAny_bind (L1.here ?_))))
 have hx2:(Value.builtin "BaseException.__getattribute__" == Value.builtin "object.__getattribute__")=false:=by decide +kernel
 dsimp only
 rw[hx2,Bool.and_false,if_neg (by decide)]
 unfold getAttrByItsOwn
 refine wpAny_bind ((looks_hook (mc:=.ref C) X (r:=none) S.gx).here ?_)
 refine wpAny_bind (wpAny_attempt (wpAny_holding ?_))
 have hx0:(expr && onTheHeap (Value.builtin "BaseException.__getattribute__"))=false:=by cases expr <;> rfl
 unfold callGetattribute boundAndCalled
 rw[hx0,if_neg (by decide),FB.ga.bind]
 refine wpAny_bind (wpAny_pure (wpAny_call ?_))
 have hi:Looks (model prog w) s.heap (isInstance (.ref x) (.type "BaseException")) true:=L0.andThen (S.isT X _)
 have hkd:builtinKind "BaseException.__getattribute__"=some .slot:=by decide +kernel
 have hsp:splitId "BaseException.__getattribute__"=some ("BaseException","__getattribute__"):=by decide +kernel
 refine codeAny_call_builtin FB.ga.plain F.entry_bexc_ga (@check_slot (model prog w) _ _ s "BaseException.__getattribute__" "BaseException" "__getattribute__" (.ref x) [.str name tk] [] _ hkd hsp hi (F.args_bexc_ga (.ref x) (.str name tk)) ?_)
 refine wpAny_mono (he _ _ ?_) (fun _ _ z=>z) fun _ _ z=>z.elim
 show wpAny _ _ (handedOut v) _ _ _
 rw[handedOut_of hh]
 exact wpAny_pure hq
end
theorem Es(K:Frag):specialIn K (.builtin "object.__class__") "__get__"=some (some (.builtin "getset_descriptor.__get__")):=(by decide +kernel:specialIn [] (.builtin "object.__class__") "__get__"=some (some (.builtin "getset_descriptor.__get__")))
theorem ze(K:Frag):takesIn K (.builtin "object.__class__")=some true:=(by decide +kernel:takesIn [] (.builtin "object.__class__")=some true)
section
variable{prog:Program}{w:World}{A:Around}{E:Value→Shared→Prop}{s:Shared}{K:Frag}{c:Str}{x C L:Addr}{cd:ClassData}{ox:Obj}{od:Option Obj}
theorem XStd.fclass(S:XStd K c C L cd)(od:Option Obj):findObj K C od "__class__"=some (.bind (.builtin "getset_descriptor.__get__") (.builtin "object.__class__")):=by
 unfold findObj
 rw[S.cls,Option.bind_some,S.gc,Option.bind_some]
 simp[Es,ze]
theorem vg{Q:Option Value→Shared→Prop}(S:XStd K c C L cd)(X:K.In s.heap)(I:InstAt s.heap x ox C od)(hq:Q (some (.ref C)) {s with toks:=s.toks+1}) :
  wpAny (model prog w) A (getAttr? (.ref x) "__class__") Q E s:=by
 obtain⟨hh,g,d,t,os⟩:=s
 unfold getAttr? getAttrBy?
 refine wpAny_bind (wpAny_mkText (wpAny_bind (wpAny_attempt ?_)))
 exact Er (s:=⟨hh,g,d,t+1,os⟩) (ox:=ox) (od:=od) S X I (fun A' Q' q=>tH (s:=⟨hh,g,d,t+1,os⟩) S X I (S.fclass od) q) rfl (wpAny_pure hq)
theorem B3(S:XStd K c C L cd):KitX K (.ref x) (.ref C) (fun h=>∃ox od,InstAt h x ox C od) where
 ty:=fun _ _ _ ⟨_,_,I⟩=>I.type
 it:=fun _ _ X _=>by
  have hc:=S.cls
  unfold clsIn at hc
  split at hc
  ·
   rename_i ho
   intro A' Q' E' s' k q
   unfold isType loadHead
   exact wpAny_bind (wpAny_loadPart (k _ _ (X _ _ ho)) (wpAny_pure q))
  ·
   cases hc
 ne:=fun h tp dd its n sl X htp=>by
  refine Bool.eq_false_iff.mpr fun q=>?_
  have e:C=tp:=Value.ref.inj (beq_iff_eq.mp q)
  subst e
  have hc:=S.cls
  unfold clsIn at hc
  split at hc
  ·
   rename_i ho
   have z:=(X _ _ ho).symm.trans htp
   cases z
  ·
   cases hc
 ca:=fun X ⟨_,_,I⟩ k=>vg S X I k
end
end L2
namespace L2
open PySem PySem.Spec PyProof.Rows
section
variable{X:Cx}{pins:List (Addr×Obj)}{σ:St}{H:Hp}{s:Shared}
theorem Inv.reword{a:Addr}{u w:HO}(I:Inv X pins σ H s)(h:H a=some u)(hu:¬Pers u)(hw:∀y,u≠.own y)(ht:∀ps,u≠.tbl ps)(nw:gM X.prog X.w H s.heap a w)(hw2:∀C dx fs,w≠.ins C dx fs):Inv X pins σ (upd H a w) s:=by
 have ne:∀b,H b=none→b≠a:=fun b n e=>by subst e;rw[h]at n;cases n
 have nt:∀b xs,H b=some (.tup xs)→b≠a:=fun b xs n e=>by subst e;rw[h]at n;cases n;exact hu True.intro
 have nf:∀b o z,H b=some (.frz o z)→b≠a:=fun b o z n e=>by subst e;rw[h]at n;cases n;exact hu True.intro
 have no:∀b z,H b=some (.own z)→b≠a:=fun b z n e=>by subst e;rw[h]at n;cases n;exact hw _ rfl
 refine⟨I.ok,I.os,I.bare,⟨I.base.keep,I.base.slot,fun b ob e n hx=>?_,I.base.there,fun b xs e=>?_,fun b ob z e=>?_,fun b ps e=>?_⟩,I.loc,I.cell,?_,fun x c e=>?_,fun p hp=>?_,fun b z e=>?_,I.len⟩
 ·
  have q:=I.base.free b ob e n hx
  rw[aB (ne b q)];exact q
 ·
  have q:=I.base.tups b xs e
  rw[aB (nt b xs q)];exact q
 ·
  have q:=I.base.frzs b ob z e
  rw[aB (nf b ob z q)];exact q
 ·
  obtain⟨more,q⟩:=I.base.tbls b ps e
  refine⟨more,?_⟩
  rw[aB (fun z=>by subst z;rw[h]at q;cases q;exact ht _ rfl)];exact q
 ·
  rw[aB (ne _ I.free)];exact I.free
 ·
  rw[aB (ne _ (I.freeC x c e))];exact I.freeC x c e
 ·
  obtain⟨e,n,r⟩:=I.pin p hp
  exact⟨e,by rw[aB (ne _ n)];exact n,r⟩
 ·
  by_cases hb:b=a
  ·
   subst hb
   rw[bo]at e
   cases e
   exact nw.stay (fun c v _ q=>q) (fun c q=>by rw[aB (no c _ q)];exact q) fun c xs q=>by rw[aB (nt c xs q)];exact q
  ·
   rw[aB hb]at e
   exact(I.hok b z e).stay (fun c v _ q=>q) (fun c q=>by rw[aB (no c _ q)];exact q) fun c xs q=>by rw[aB (nt c xs q)];exact q
theorem Inv.freezeL{a:Addr}{xs:List V}(I:Inv X pins σ H s)(h:H a=some (.lst xs)):∃o,Inv X pins σ (upd H a (.frz o (.lst xs))) s:=by
 obtain⟨z,its,n,r,e⟩:=id (I.hok a _ h)
 exact⟨_,I.reword h (fun q=>q) (fun _ q=>nomatch q) (fun _ q=>nomatch q) ⟨e,z,its,n,r,e⟩ (fun _ _ _ q=>nomatch q)⟩
end
section
variable{K:PySem.W.Frag}{Pr H:Hp}{σ:St}{ρ:Ev}
theorem REnv.new(E:REnv K Pr H σ ρ){p:Addr}{o:HO}(h:H p=none):REnv K Pr (upd H p o) σ ρ:=by
 have k:∀b u,H b=some u→upd H p o b=some u:=fun b u e=>by rw[aB (cq e h)];exact e
 exact⟨fun b u e=>k b u (E.sub b u e),E.nd,E.off,Paired.impMem E.sl fun l hl s q=>q.pres (fun b u _ e=>k b u e) l fun a e=>by
  obtain⟨vs,e,_⟩:=E.at_own (fQ.mpr ⟨l,hl,e⟩)
  rw[k _ _ e,e]⟩
theorem Reps.new{vs:List V}{ds:List D}(r:Reps K H vs ds){p:Addr}{o:HO}(h:H p=none):Reps K (upd H p o) vs ds:=r.pres fun b u _ e=>by rw[aB (cq e h)];exact e
theorem Rep.new{v:V}{d:D}(r:Rep K H v d){p:Addr}{o:HO}(h:H p=none):Rep K (upd H p o) v d:=r.pres fun b u _ e=>by rw[aB (cq e h)];exact e
theorem mw:owns (.un::ρ)=owns ρ:=rfl
theorem aM{a:Addr}{xs:List D}:owns (.own a xs::ρ)=a::owns ρ:=rfl
theorem REnv.cons_d(E:REnv K Pr H σ ρ){v:V}{x:D}(r:Rep K H v x):REnv K Pr H (some v::σ) (.d x::ρ):=⟨E.sub,E.nd,E.off,.cons ⟨v,rfl,r⟩ E.sl⟩
theorem REnv.cons_un(E:REnv K Pr H σ ρ){v:Option V}:REnv K Pr H (v::σ) (.un::ρ):=⟨E.sub,E.nd,E.off,.cons True.intro E.sl⟩
theorem REnv.cons_own(E:REnv K Pr H σ ρ){p:Addr}{vs:List V}{xs:List D}(h:H p=none)(r:Reps K H vs xs):REnv K Pr (upd H p (.lst vs)) (some (.ref p)::σ) (.own p xs::ρ):=by
 have E':=E.new (o:=.lst vs) h
 refine⟨E'.sub,?_,fun a ha=>?_,.cons ⟨rfl,vs,bo,r.new h⟩ E'.sl⟩
 ·
  rw[aM]
  refine List.nodup_cons.mpr ⟨fun hm=>?_,E.nd⟩
  obtain⟨us,e,_⟩:=E.at_own hm
  rw[h]at e;cases e
 ·
  rw[aM]at ha
  rcases List.mem_cons.mp ha with rfl|ha
  ·
   cases q:Pr a with
   |none=>rfl
   |some u=>rw[E.sub a u q]at h;cases h
  ·
   exact E.off a ha
theorem REnv.cons_tup(E:REnv K Pr H σ ρ){p:Addr}{vs:List V}{xs:List D}(h:H p=none)(r:Reps K H vs xs):REnv K Pr (upd H p (.tup vs)) (some (.ref p)::σ) (.d (.tup xs)::ρ) :=
 (E.new h).cons_d (.tup (SqT.of bo) (r.new h))
theorem REnv.freeze(E:REnv K Pr H σ (.own a xs::ρ)){vs:List V}(h:H a=some (.lst vs))(o:Obj):REnv K Pr (upd H a (.frz o (.lst vs))) σ (.d (.lst xs)::ρ):=by
 have pa:Pr a=none:=E.off a (by rw[aM];exact List.mem_cons_self)
 have nd:=E.nd
 rw[aM]at nd
 obtain⟨hn,nd⟩:=List.nodup_cons.mp nd
 have p:Pres H (upd H a (.frz o (.lst vs))):=fun b u pu e=>by
  rw[aB];exact e
  rintro rfl
  rw[h]at e;cases e;exact pu
 refine⟨fun b u e=>?_,nd,fun b hb=>E.off b (by rw[aM];exact List.mem_cons_of_mem _ hb),?_⟩
 ·
  rw[aB];exact E.sub b u e
  rintro rfl
  rw[pa]at e;cases e
 ·
  have sl:=E.sl
  cases sl with
  | cons q t =>
   obtain⟨e,us,e2,r⟩:=q
   rw[h]at e2;cases e2
   refine .cons ⟨.ref a,e,.lst (.inl ⟨o,bo⟩) (r.pres p)⟩ (Paired.impMem t fun l hl s z=>z.pres p l fun b hbm=>?_)
   rw[aB]
   rintro rfl
   exact hn (fQ.mpr ⟨l,hl,hbm⟩)
theorem aA(l:L)(ρ:Ev):owns (l::ρ)=aS l++owns ρ:=rfl
theorem mx{a:Addr}{xs ys:List D}:∀{ρ:Ev}{i:Nat},ρ[i]?=some (.own a xs)→owns (ρ.set i (.own a ys))=owns ρ
 |[],_,h=>by simp at h
 |_::_,0,h=>by simp at h;subst h;rfl
 | l::ρ,i+1,h=>by
  have ih:=mx (i:=i) (ρ:=ρ) (ys:=ys) (by simpa using h)
  show owns (l::ρ.set i (.own a ys))=owns (l::ρ)
  rw[aA,aA,ih]
theorem fz{k:L}:∀{ρ:Ev}{i:Nat}{l:L},ρ[i]?=some k→aS l=[]→(owns ρ).Perm (aS k++owns (ρ.set i l))
 |[],_,_,h,_=>by simp at h
 | _::ρ,0,l,h,hl=>by
  simp at h;subst h
  show(owns (_::ρ)).Perm (_++owns (l::ρ))
  rw[aA,aA,hl]
  exact List.Perm.refl _
 | m::ρ,i+1,l,h,hl=>by
  have ih:=fz (i:=i) (ρ:=ρ) (l:=l) (by simpa using h) hl
  show(owns (m::ρ)).Perm (aS k++owns (m::ρ.set i l))
  rw[aA,aA]
  refine(List.Perm.append_left _ ih).trans ?_
  rw[← List.append_assoc,← List.append_assoc]
  exact List.Perm.append_right _ List.perm_append_comm
theorem zf{a:Addr}{xs:List D}{ρ:Ev}{i:Nat}{l:L}(h:ρ[i]?=some (.own a xs))(hl:aS l=[]):(owns ρ).Perm (a::owns (ρ.set i l)):=fz h hl
theorem wO{ρ:Ev}{i:Nat}(l:L)(h:ρ[i]?=some .un):(owns (ρ.set i l)).Perm (aS l++owns ρ):=by
 have hi:i<ρ.length:=(List.getElem?_eq_some_iff.mp h).1
 have pm:=fz (ρ:=ρ.set i l) (i:=i) (k:=l) (l:=.un) (by simp[hi]) rfl
 rw[List.set_set]at pm
 have e2:ρ.set i .un=ρ:=by
  have:=List.set_getElem_self (as:=ρ) (i:=i) hi
  have e3:ρ[i]=.un:=(List.getElem?_eq_some_iff.mp h).2
  rw[e3]at this;exact this
 rw[e2]at pm
 exact pm
theorem REnv.outL(E:REnv K Pr H σ ρ){i:Nat}{k:L}{s:Option V}(h:ρ[i]?=some k)(hs:σ[i]?=some s):REnv K Pr H (s::σ) (k::ρ.set i .un):=by
 have pm:=fz (l:=.un) h rfl
 obtain⟨s',hs',q⟩:=Paired.get2 E.sl h
 rw[hs]at hs'
 cases hs'
 refine⟨E.sub,?_,fun b hb=>E.off b (pm.mem_iff.mpr (by rw[aA]at hb;exact hb)),.cons q (Paired.set_r i E.sl fun _ _=>by simp only[aK])⟩
 rw[aA];exact pm.nodup_iff.mp E.nd
theorem REnv.out(E:REnv K Pr H σ ρ){i:Nat}{a:Addr}{xs:List D}(h:ρ[i]?=some (.own a xs)):REnv K Pr H (some (.ref a)::σ) (.own a xs::ρ.set i .un):=by
 have pm:=zf (l:=.un) h rfl
 obtain⟨s,hs,q⟩:=Paired.get2 E.sl h
 refine⟨E.sub,?_,fun b hb=>E.off b (pm.mem_iff.mpr (by rw[aM]at hb;exact hb)),.cons ?_ (Paired.set_r i E.sl fun _ _=>by simp only[aK])⟩
 ·
  rw[aM];exact pm.nodup_iff.mp E.nd
 ·
  obtain⟨_,r⟩:=q
  exact⟨rfl,r⟩
theorem REnv.back{v:Option V}{l:L}(E:REnv K Pr H (v::σ) (l::ρ)){i:Nat}(h:ρ[i]?=some .un)(hs:σ[i]?=some v):REnv K Pr H σ (ρ.set i l):=by
 have sl:=E.sl
 cases sl with
 | cons q t =>
  have e1:ρ.set i l=(ρ.set i l):=rfl
  refine⟨E.sub,?_,fun b hb=>?_,Paired.set_r i t fun a e=>by rw[hs]at e;cases e;exact q⟩
  ·
   exact(wO l h).nodup_iff.mpr E.nd
  ·
   exact E.off b ((wO l h).mem_iff.mp hb)
theorem REnv.write(E:REnv K Pr H σ (.own a xs::ρ)){vs:List V}{ys:List D}(r:Reps K H vs ys):REnv K Pr (upd H a (.lst vs)) σ (.own a ys::ρ):=by
 have pa:Pr a=none:=E.off a (by rw[aM];exact List.mem_cons_self)
 have nd:=E.nd
 rw[aM]at nd
 obtain⟨hn,nd'⟩:=List.nodup_cons.mp nd
 obtain⟨us,ha,mu⟩:=E.at_own (a:=a) (by rw[aM];exact List.mem_cons_self)
 have p:Pres H (upd H a (.lst vs)):=fun b u pu e=>by
  rw[aB];exact e
  rintro rfl
  rw[ha]at e;cases e;exact mu.no pu
 refine⟨fun b u e=>?_,nd,fun b hb=>E.off b hb,?_⟩
 ·
  rw[aB];exact E.sub b u e
  rintro rfl
  rw[pa]at e;cases e
 ·
  have sl:=E.sl
  cases sl with
  | cons q t =>
   obtain⟨e,_⟩:=q
   refine .cons ⟨e,vs,bo,r.pres p⟩ (Paired.impMem t fun l hl s z=>z.pres p l fun b hbm=>?_)
   rw[aB]
   rintro rfl
   exact hn (fQ.mpr ⟨l,hl,hbm⟩)
end
abbrev W(α:Type):=Ev→(α→Ev→Prop)→Prop
inductive Fl where
 |nx|bk|ct|rt (r:L)
def EL(X:Cx)(pins:List (Addr×Obj))(σ:St)(Pr:Hp)(post:L→Ev→Prop)(u:Value)(s':Shared):Prop :=
 ∃v H' r ρ',Inv X pins σ H' s'∧RelV v u∧REnv X.K Pr H' (some v::σ) (r::ρ')∧post r ρ'
def PL(X:Cx)(e:Expr)(t:W L):Prop :=
 ∀(pins:List (Addr×Obj))(s:Shared)(σ:St)(H Pr:Hp)(ρ:Ev)(post:L→Ev→Prop),Inv X pins σ H s→REnv X.K Pr H σ ρ→t ρ post→wpAny (model X.prog X.w) X.A (eval e X.env) (EL X pins σ Pr post) X.xe s
def EB(X:Cx)(pins:List (Addr×Obj))(σ:St)(Pr:Hp)(post:Bool→Ev→Prop)(b:Bool)(s':Shared):Prop :=
 ∃H' ρ',Inv X pins σ H' s'∧REnv X.K Pr H' σ ρ'∧post b ρ'
def PB(X:Cx)(e:Expr)(t:W Bool):Prop :=
 ∀(pins:List (Addr×Obj))(s:Shared)(σ:St)(H Pr:Hp)(ρ:Ev)(post:Bool→Ev→Prop),Inv X pins σ H s→REnv X.K Pr H σ ρ→t ρ post→wpAny (model X.prog X.w) X.A (isTrue e X.env (eval e X.env)) (EB X pins σ Pr post) X.xe s
def EA(X:Cx)(pins:List (Addr×Obj))(σ:St)(Pr:Hp)(bs:List (Option Nat))(post:List L→Ev→Prop)(us:List Value)(s':Shared):Prop :=
 ∃vs H' ls ρ',Inv X pins σ H' s'∧Vals vs us∧vs.length=ls.length∧vs.length=bs.length∧REnv X.K Pr H' (vs.map some++σ) (ls++ρ')∧(∀(k i:Nat),bs[k]?=some (some i)→ls[k]?=some L.un∧∃v,vs[k]?=some v∧σ[i]?=some (some v))∧post ls ρ'
def PAL(X:Cx)(es:List Expr)(bs:List (Option Nat))(t:W (List L)):Prop :=
 ∀(pos:Pos)(pins:List (Addr×Obj))(s:Shared)(σ:St)(H Pr:Hp)(ρ:Ev)(post:List L→Ev→Prop),Inv X pins σ H s→REnv X.K Pr H σ ρ→t ρ post →
  wpAny (model X.prog X.w) X.A (spliced (backTo pos (starEach es X.env))) (EA X pins σ Pr bs post) X.xe s
def SM(X:Cx)(pins:List (Addr×Obj))(Pr:Hp)(post:Fl→Ev→Prop)(f:Flow)(s':Shared):Prop :=
 match f with
 |.next=>∃σ' H' ρ',Inv X pins σ' H' s'∧REnv X.K Pr H' σ' ρ'∧post .nx ρ'
 |.brk=>∃σ' H' ρ',Inv X pins σ' H' s'∧REnv X.K Pr H' σ' ρ'∧post .bk ρ'
 |.cont=>∃σ' H' ρ',Inv X pins σ' H' s'∧REnv X.K Pr H' σ' ρ'∧post .ct ρ'
 |.ret u=>∃v σ' H' r ρ' τ,Inv X pins σ' H' s'∧RelV v u∧REnv X.K Pr H' (some v::τ) (r::ρ')∧post (.rt r) ρ'
def PM(X:Cx)(st:Stmt)(t:W Fl):Prop :=
 ∀(pins:List (Addr×Obj))(s:Shared)(σ:St)(H Pr:Hp)(ρ:Ev)(post:Fl→Ev→Prop),Inv X pins σ H s→REnv X.K Pr H σ ρ→t ρ post→wpAny (model X.prog X.w) X.A (exec st X.env) (SM X pins Pr post) X.xe s
def PMs(X:Cx)(st:List Stmt)(t:W Fl):Prop :=
 ∀(pins:List (Addr×Obj))(s:Shared)(σ:St)(H Pr:Hp)(ρ:Ev)(post:Fl→Ev→Prop),Inv X pins σ H s→REnv X.K Pr H σ ρ→t ρ post→wpAny (model X.prog X.w) X.A (execs st X.env) (SM X pins Pr post) X.xe s
section
variable{X:Cx}{e a b:Expr}{pos:Pos}{ta tb:W L}
theorem PL.of{t:TE}{u:W L}(h:PE X e t)(q:∀σ H Pr ρ post,REnv X.K Pr H σ ρ→u ρ post→t σ H fun v H'=>∃r ρ',REnv X.K Pr H' (some v::σ) (r::ρ')∧post r ρ'):PL X e u :=
 fun pins s σ H Pr ρ post I E hu=>thn (h pins s σ H _ I (q σ H Pr ρ post E hu)) fun u s1 ⟨v,H1,I1,r1,r,ρ',E1,p⟩=>⟨v,H1,r,ρ',I1,r1,E1,p⟩
mutual
def bc:L→Option D
 |.un=>none
 |.d x=>some x
 |.own _ xs=>some (.lst xs)
 |.bx none ls=>(bK ls).map .tup
 |.bx (some _) ls=>(bK ls).map .lst
 |.dic _ _=>none
def bK:List L→Option (List D)
 |[]=>some []
 | l::ls=>match bc l,bK ls with
  |some x,some xs=>some (x::xs)
  |_,_=>none
end
def cP:Option D→(D→Prop)→Prop
 |some x,k=>k x
 |none,_=>False
theorem xY{o:Option D}{k:D→Prop}(h:cP o k):∃x,o=some x∧k x:=by
 cases o with
 |some x=>exact⟨x,rfl,h⟩
 |none=>exact h.elim
def toDB(a:Option Addr)(ls:List L)(k:D→Prop):Prop:=cP (bc (.bx a ls)) k
def toD:L→(D→Prop)→Prop
 |.un,_=>False
 |.d x,k=>k x
 |.own _ xs,k=>k (.lst xs)
 |.bx a ls,k=>toDB a ls k
 |.dic _ _,_=>False
theorem qS{a:Option Addr}{ls:List L}{k:D→Prop}(h:toDB a ls k):∃x,bc (.bx a ls)=some x∧k x:=xY h
def eraK(ls:List L)(k:List D→Prop):Prop:=∃xs,bK ls=some xs∧k xs
theorem DV(ls:List L)(k:D→Prop):toDB none ls k=eraK ls fun xs=>k (.tup xs):=by
 unfold toDB eraK
 simp only[bc]
 cases bK ls with
 |none=>simp[cP]
 |some xs=>simp[cP]
theorem GY(a:Addr)(ls:List L)(k:D→Prop):toDB (some a) ls k=eraK ls fun xs=>k (.lst xs):=by
 unfold toDB eraK
 simp only[bc]
 cases bK ls with
 |none=>simp[cP]
 |some xs=>simp[cP]
theorem wQ(k:List D→Prop):eraK [] k=k []:=by
 unfold eraK
 simp[bK]
theorem Et(l:L)(k:D→Prop):toD l k=∃x,bc l=some x∧k x:=by
 cases l with
 |un=>simp[toD,bc]
 |d x=>simp[toD,bc]
 |own a xs=>simp[toD,bc]
 | bx a ls =>
  show cP _ k=_
  cases bc (.bx a ls)with
  |none=>simp[cP]
  |some x=>simp[cP]
 |dic a kvs=>simp[toD,bc]
theorem tI(l:L)(ls:List L)(k:List D→Prop):eraK (l::ls) k=toD l fun x=>eraK ls fun xs=>k (x::xs):=by
 rw[Et]
 unfold eraK
 simp only[bK]
 cases bc l with
 |none=>simp
 | some x =>
  cases bK ls with
  |none=>simp
  |some xs=>simp
theorem bt{K:PySem.W.Frag}{H:Hp}:∀{vs:List V}{ls:List L},bB K H vs ls↔Paired (aK K H) (vs.map some) ls
 |[],[]=>⟨fun _=>.nil,fun _=>by simp only[bB]⟩
 | v::vs,l::ls=>by
  simp only[bB,List.map_cons]
  constructor
  ·
   rintro⟨w,us,e,h1,h2⟩
   cases e
   exact .cons h1 (bt.mp h2)
  ·
   intro h
   cases h with
   |cons q t=>exact⟨v,vs,rfl,q,bt.mpr t⟩
 | [],l::ls=>by
  simp only[bB,List.map_nil]
  constructor
  ·
   rintro⟨w,us,e,_⟩;cases e
  ·
   intro h;cases h
 | v::vs,[]=>by
  simp only[bB,List.map_cons]
  constructor
  ·
   intro h;cases h
  ·
   intro h;cases h
theorem vh{K:PySem.W.Frag}{H:Hp}:∀{vs:List V}{xs:List D},Paired (aK K H) (vs.map some) (xs.map .d)→Reps K H vs xs
 |[],[],_=>.nil
 | v::vs,x::xs,h=>by
  simp only[List.map_cons]at h
  cases h with
  | cons q t =>
   simp only[aK]at q
   obtain⟨w,e,r⟩:=q
   cases e
   exact .cons r (vh t)
 |[],_::_,h=>by simp only[List.map_cons,List.map_nil]at h;cases h
 |_::_,[],h=>by simp only[List.map_cons,List.map_nil]at h;cases h
theorem bB.len{K:PySem.W.Frag}{H:Hp}{vs:List V}{ls:List L}(h:bB K H vs ls):vs.length=ls.length:=by
 have:=Paired.length (bt.mp h)
 simpa using this
theorem fR:∀{ls:List L}{xs:List D},bK ls=some xs→xs.length=ls.length
 |[],_,h=>by simp[bK]at h;subst h;rfl
 | l::ls,xs,h=>by
  simp only[bK]at h
  split at h
  ·
   rename_i x ys h1 h2
   cases h
   simp[fR h2]
  ·
   cases h
theorem REnv.openT{K:PySem.W.Frag}{Pr H:Hp}{σ:St}{ρ:Ev}{v:Option V}{ls:List L}(E:REnv K Pr H (v::σ) (.bx none ls::ρ)):∃a vs,v=some (.ref a)∧SqT K H a vs∧vs.length=ls.length∧REnv K Pr H (vs.map some++σ) (ls++ρ):=by
 have sl:=E.sl
 cases sl with
 | cons q t =>
  simp only[aK]at q
  obtain⟨a,vs,e,h,r⟩:=q
  have ow:owns (.bx none ls::ρ)=owns (ls++ρ):=by
   rw[aA,ay]
   simp only[aS,Option.toList,List.nil_append,cv]
  exact⟨a,vs,e,h,r.len,E.sub,by rw[← ow];exact E.nd,fun b hb=>E.off b (by rw[ow];exact hb),Paired.app (bt.mp r) t⟩
theorem REnv.openO{K:PySem.W.Frag}{Pr H:Hp}{σ:St}{ρ:Ev}{v:Option V}{a:Addr}{ls:List L}(E:REnv K Pr H (v::σ) (.bx (some a) ls::ρ)):∃vs,v=some (.ref a)∧H a=some (.lst vs)∧vs.length=ls.length∧a∉owns (ls++ρ)∧Pr a=none∧REnv K Pr H (vs.map some++σ) (ls++ρ):=by
 have sl:=E.sl
 cases sl with
 | cons q t =>
  simp only[aK]at q
  obtain⟨e,vs,h,r⟩:=q
  have ow:owns (.bx (some a) ls::ρ)=a::owns (ls++ρ):=by
   rw[aA,ay]
   simp only[aS,Option.toList,List.cons_append,List.nil_append,cv]
  have nd:=E.nd
  rw[ow]at nd
  obtain⟨n1,n2⟩:=List.nodup_cons.mp nd
  exact⟨vs,e,h,r.len,n1,E.off a (by rw[ow];exact List.mem_cons_self),E.sub,n2,fun b hb=>E.off b (by rw[ow];exact List.mem_cons_of_mem _ hb),Paired.app (bt.mp r) t⟩
def my(H H':Hp)(S:List Addr):Prop:=Pres H H'∧(∀b,b∉S→H' b=H b)∧∀a∈S,∀vs,H a=some (.lst vs)→∃o,H' a=some (.frz o (.lst vs))
theorem my.refl(H:Hp):my H H []:=⟨fun _ _ _ e=>e,fun _ _=>rfl,fun _ h=>by simp at h⟩
mutual
theorem frzL:∀(l:L){pins:List (Addr×Obj)}{σ0:St}{s:Shared}{Pr H:Hp}{σ:St}{ρ:Ev}{v:Option V}{x:D},Inv X pins σ0 H s→REnv X.K Pr H (v::σ) (l::ρ)→bc l=some x→∃H',Inv X pins σ0 H' s∧REnv X.K Pr H' (v::σ) (.d x::ρ)∧my H H' (aS l)
 |.un,_,_,_,_,_,_,_,_,_,_,_,h=>by simp[bc]at h
 |.dic _ _,_,_,_,_,_,_,_,_,_,_,_,h=>by simp[bc]at h
 | .d y,_,_,_,_,_,_,_,_,_,I,E,h=>by
  simp only[bc,Option.some.injEq]at h
  subst h
  exact⟨_,I,E,my.refl _⟩
 | .own a xs,_,_,_,_,H,σ,ρ,v,_,I,E,h=>by
  simp only[bc,Option.some.injEq]at h
  subst h
  have sl:=E.sl
  cases sl with
  | cons q t =>
   simp only[aK]at q
   obtain⟨e0,vs,ha,r⟩:=q
   obtain⟨o,I'⟩:=I.freezeL ha
   refine⟨_,I',E.freeze ha o,fun b u pu eb=>?_,fun b hb=>?_,fun b hb vs' eb=>?_⟩
   ·
    rw[aB];exact eb
    rintro rfl
    rw[ha]at eb;cases eb;exact pu
   ·
    rw[aB]
    rintro rfl
    exact hb (by simp[aS])
   ·
    have e:b=a:=by simpa[aS]using hb
    subst e
    rw[ha]at eb;cases eb
    exact⟨o,bo⟩
 | .bx none ls,_,_,_,Pr,H,σ,ρ,v,x,I,E,h=>by
  simp only[bc,Option.map_eq_some_iff]at h
  obtain⟨xs,h,rfl⟩:=h
  obtain⟨a,vs,rfl,ha,hl,E1⟩:=E.openT
  obtain⟨H',I',E',F⟩:=Eu ls hl I E1 h
  have hxl:=fR h
  obtain⟨s1,s2⟩:=Paired.unapp (by simp[hl,hxl]) E'.sl
  refine⟨H',I',(E'.drop (by simp[hl,hxl])).cons_d (.tup (ha.pres F.1) (vh s1)),F.1,fun b hb=>F.2.1 b ?_,fun b hb=>F.2.2 b ?_⟩
  ·
   simpa[aS,cv]using hb
  ·
   simpa[aS,cv]using hb
 | .bx (some a) ls,_,_,_,Pr,H,σ,ρ,v,x,I,E,h=>by
  simp only[bc,Option.map_eq_some_iff]at h
  obtain⟨xs,h,rfl⟩:=h
  obtain⟨vs,rfl,ha,hl,hn,hp,E1⟩:=E.openO
  obtain⟨H',I',E',F⟩:=Eu ls hl I E1 h
  have hxl:=fR h
  have hal:a∉owns ls:=fun z=>hn (by rw[ay];exact List.mem_append_left _ z)
  have haρ:a∉owns ρ:=fun z=>hn (by rw[ay];exact List.mem_append_right _ z)
  have ha':H' a=some (.lst vs):=(F.2.1 a hal).trans ha
  obtain⟨s1,s2⟩:=Paired.unapp (by simp[hl,hxl]) E'.sl
  have E2:=E'.drop (by simp[hl,hxl])
  have E3:REnv X.K Pr H' (some (.ref a)::σ) (.own a xs::ρ):=by
   refine⟨E2.sub,?_,fun b hb=>?_,.cons ?_ E2.sl⟩
   ·
    rw[aM];exact List.nodup_cons.mpr ⟨haρ,E2.nd⟩
   ·
    rw[aM]at hb
    rcases List.mem_cons.mp hb with z|z
    ·
     rw[z];exact hp
    ·
     exact E2.off b z
   ·
    unfold aK
    exact⟨rfl,vs,ha',vh s1⟩
  obtain⟨o,I2⟩:=I'.freezeL ha'
  refine⟨_,I2,E3.freeze ha' o,fun b u pu e=>?_,fun b hb=>?_,fun b hb vs' eb=>?_⟩
  ·
   rw[aB];exact F.1 b u pu e
   rintro rfl
   rw[ha]at e;cases e;exact pu
  ·
   have hb':b≠a∧b∉owns ls:=by simpa[aS,cv,not_or]using hb
   rw[aB hb'.1]
   exact F.2.1 b hb'.2
  ·
   by_cases hba:b=a
   ·
    subst hba
    rw[ha]at eb;cases eb
    exact⟨o,bo⟩
   ·
    have hb':b∈owns ls:=by
     rcases(by simpa[aS,cv]using hb:b=a∨b∈owns ls)with z|z
     ·
      exact absurd z hba
     ·
      exact z
    rw[aB hba]
    exact F.2.2 b hb' vs' eb
theorem Eu:∀(ls:List L){pins:List (Addr×Obj)}{σ0:St}{s:Shared}{Pr H:Hp}{σ:St}{ρ:Ev}{vs:List V}{xs:List D},vs.length=ls.length→Inv X pins σ0 H s→REnv X.K Pr H (vs.map some++σ) (ls++ρ)→bK ls=some xs→∃H',Inv X pins σ0 H' s∧REnv X.K Pr H' (vs.map some++σ) (xs.map .d++ρ)∧my H H' (owns ls)
 | [],_,_,_,_,_,_,_,vs,xs,hl,I,E,h=>by
  simp only[bK,Option.some.injEq]at h
  subst h
  cases vs with
  |nil=>exact⟨_,I,E,my.refl _⟩
  |cons _ _=>simp at hl
 | l::ls,_,_,_,Pr,H,σ,ρ,vs,xs,hl,I,E,h=>by
  simp only[bK]at h
  split at h
  rotate_left
  ·
   cases h
  rename_i x ys h1 h2
  cases h
  cases vs with
  |nil=>simp at hl
  | cons v vs =>
   have hl':vs.length=ls.length:=by simpa using hl
   obtain⟨H1,I1,E1,F1⟩:=frzL l I E h1
   have E2:REnv X.K (a5 H1 (ls++ρ)) H1 (vs.map some++σ) (ls++ρ):=(E1.drop (τ:=[some v]) (lam:=[.d x]) rfl).wide
   obtain⟨H2,I2,E3,F2⟩:=Eu ls hl' I1 E2 h2
   have hyl:=fR h2
   have E4:REnv X.K Pr H2 (some v::(vs.map some++σ)) (.d x::(ys.map .d++ρ)):=by
    have z:=REnv.step (τ:=[some v]) (lam:=[.d x]) (w:=[]) (μ:=[]) (σ':=vs.map some++σ) (ρ':=ys.map .d++ρ) E1 rfl E3 rfl
    exact z
   refine⟨H2,I2,E4,fun b u pu e=>F2.1 b u pu (F1.1 b u pu e),fun b hb=>?_,fun b hb vs' eb=>?_⟩
   ·
    rw[aA]at hb
    rw[F2.2.1 b (fun z=>hb (List.mem_append_right _ z)),F1.2.1 b (fun z=>hb (List.mem_append_left _ z))]
   ·
    rw[aA]at hb
    rcases List.mem_append.mp hb with z|z
    ·
     obtain⟨o,eo⟩:=F1.2.2 b z vs' eb
     exact⟨o,F2.1 b _ True.intro eo⟩
    ·
     have hn:b∉aS l:=fun z'=>by
      have nd:=E.nd
      rw[List.cons_append,aA,ay]at nd
      exact(List.nodup_append.mp nd).2.2 b z' b (List.mem_append_left _ z) rfl
     exact F2.2.2 b z vs' ((F1.2.1 b hn).trans eb)
end
theorem EL.frz{pins:List (Addr×Obj)}{σ:St}{Pr:Hp}{post:D→Ev→Prop}{u:Value}{s':Shared}(h:EL X pins σ Pr (fun r ρ=>toD r fun x=>post x ρ) u s') :
  ∃v H' x ρ',Inv X pins σ H' s'∧RelV v u∧REnv X.K Pr H' (some v::σ) (.d x::ρ')∧post x ρ':=by
 obtain⟨v,H',r,ρ',I,rv,E,p⟩:=h
 cases r with
 |un=>exact p.elim
 |d x=>exact⟨v,H',x,ρ',I,rv,E,p⟩
 | own a xs =>
  obtain⟨H2,I2,E2,_⟩:=frzL (.own a xs) I E rfl
  exact⟨v,H2,.lst xs,ρ',I2,rv,E2,p⟩
 | bx a ls =>
  obtain⟨x,ex,p⟩:=qS p
  obtain⟨H2,I2,E2,_⟩:=frzL (.bx a ls) I E ex
  exact⟨v,H2,x,ρ',I2,rv,E2,p⟩
 |dic a kvs=>exact p.elim
def wFrz(t:W L):W L:=fun ρ post=>t ρ fun r ρ1=>toD r fun x=>post (.d x) ρ1
theorem au{t:W L}(h:PL X e t):PL X e (wFrz t):=fun pins s σ H Pr ρ post I E ht =>
 thn (h pins s σ H Pr ρ _ I E ht) fun u s1 q=>by
  obtain⟨v,H',x,ρ',I',rv,E',p⟩:=EL.frz (post:=fun x ρ=>post (.d x) ρ) q
  exact⟨v,H',.d x,ρ',I',rv,E',p⟩
theorem REnv.head_d{K:PySem.W.Frag}{Pr H:Hp}{v:Option V}{σ:St}{x:D}{ρ:Ev}(E:REnv K Pr H (v::σ) (.d x::ρ)):∃w,v=some w∧Rep K H w x:=by
 have sl:=E.sl
 cases sl with
 |cons q t=>exact q
theorem REnv.tail{K:PySem.W.Frag}{Pr H:Hp}{v:Option V}{σ:St}{l:L}{ρ:Ev}(E:REnv K Pr H (v::σ) (l::ρ)):REnv K Pr H σ ρ:=REnv.drop (τ:=[v]) (lam:=[l]) E rfl
theorem two{pins:List (Addr×Obj)}{s:Shared}{σ:St}{H Pr:Hp}{ρ:Ev}{R:D→D→Ev→Prop}(ha:PL X a ta)(hb:PL X b tb)(I:Inv X pins σ H s)(E:REnv X.K Pr H σ ρ)
  (h:ta ρ fun x ρ1=>toD x fun dx=>tb ρ1 fun y ρ2=>toD y fun dy=>R dx dy ρ2) {α:Type} {Q:α→Shared→Prop} {f:Value→Value→Sem α}
  (hf:∀v u s2 x y H2 dx dy ρ2,Inv X pins σ H2 s2→RelV x v→RelV y u→REnv X.K Pr H2 (some y::some x::σ) (.d dy::.d dx::ρ2)→Rep X.K H2 x dx→Rep X.K H2 y dy→R dx dy ρ2→wpAny (model X.prog X.w) X.A (f v u) Q X.xe s2) :
  wpAny (model X.prog X.w) X.A (eval a X.env) (fun v s₁=>wpAny (model X.prog X.w) X.A (eval b X.env) (fun u s₂=>wpAny (model X.prog X.w) X.A (f v u) Q X.xe s₂) X.xe s₁) X.xe s:=by
 refine thn (ha pins s σ H Pr ρ _ I E h) fun v s1 q=>?_
 obtain⟨x,H1,dx,ρ1,I1,r1,E1,q1⟩:=EL.frz (post:=fun dx ρ1=>tb ρ1 fun y ρ2=>toD y fun dy=>R dx dy ρ2) q
 refine thn (hb pins s1 σ H1 _ ρ1 _ I1 E1.tail.wide q1) fun u s2 q=>?_
 obtain⟨y,H2,dy,ρ2,I2,r2,E2,q2⟩:=EL.frz (post:=fun dy ρ2=>R dx dy ρ2) q
 have E3:REnv X.K Pr H2 (some y::some x::σ) (.d dy::.d dx::ρ2):=REnv.step (τ:=[some x]) (lam:=[.d dx]) (w:=[some y]) (μ:=[.d dy]) E1 rfl E2 rfl
 obtain⟨_,e1,p1⟩:=E3.head_d
 obtain⟨_,e2,p2⟩:=E3.tail.head_d
 cases e1
 cases e2
 exact hf v u s2 x y H2 dx dy ρ2 I2 r1 r2 E3 p2 p1 q2
abbrev Op2:=D→D→(L→Prop)→Prop
def OpD(X:Cx)(f:Value→Value→Sem Value)(op:Op2):Prop :=
 ∀(pins:List (Addr×Obj))(s:Shared)(σ:St)(H Pr:Hp)(ρ:Ev)(x y:V)(v u:Value)(dx dy:D)(post:L→Prop),Inv X pins σ H s→RelV x v→RelV y u→REnv X.K Pr H σ ρ→Rep X.K H x dx→Rep X.K H y dy→op dx dy post →
  wpAny (model X.prog X.w) X.A (f v u) (fun w s'=>∃z H' r,Inv X pins σ H' s'∧RelV z w∧REnv X.K Pr H' (some z::σ) (r::ρ)∧post r) X.xe s
theorem OpD.of{f:Value→Value→Sem Value}{r:R2}{op:Op2}(h:OpR X f r)(q:∀σ H Pr ρ x y dx dy post,REnv X.K Pr H σ ρ→Rep X.K H x dx→Rep X.K H y dy→op dx dy post→r x y H fun z H'=>∃r,REnv X.K Pr H' (some z::σ) (r::ρ)∧post r):OpD X f op :=
 fun pins s σ H Pr ρ x y v u dx dy post I rx ry E px py ho=>thn (h pins s σ H x y v u _ I rx ry (q σ H Pr ρ x y dx dy post E px py ho)) fun w s' ⟨z,H',I',rz,r,E',p⟩=>⟨z,H',r,I',rz,E',p⟩
theorem OpD.imp{f:Value→Value→Sem Value}{o1 o2:Op2}(h1:OpD X f o1)(h:∀x y p,o2 x y p→o1 x y p):OpD X f o2 :=
 fun pins s σ H Pr ρ x y v u dx dy post I rx ry E px py ho=>h1 pins s σ H Pr ρ x y v u dx dy post I rx ry E px py (h _ _ _ ho)
def wBin(op:Op2)(ta tb:W L):W L:=fun ρ post=>ta ρ fun x ρ1=>toD x fun dx=>tb ρ1 fun y ρ2=>toD y fun dy=>op dx dy fun r=>post r ρ2
theorem ar{op:Operator}{o:Op2}(ho:OpD X (binaryOp op) o)(ha:PL X a ta)(hb:PL X b tb):PL X (.BinOp a op b pos) (wBin o ta tb):=fun pins s σ H Pr ρ post I E h =>
 wpAny_BinOp (two (R:=fun dx dy ρ2=>o dx dy fun r=>post r ρ2) ha hb I E h fun v u s2 x y H2 dx dy ρ2 I2 r1 r2 E2 p1 p2 q =>
  thn (ho pins s2 σ H2 Pr ρ2 x y v u dx dy _ I2 r1 r2 E2.tail.tail p1 p2 q) fun w s3 ⟨z,H3,r,I3,rz,E3,p⟩=>⟨z,H3,r,ρ2,I3,rz,E3,p⟩)
theorem cw{op:CmpOp}{o:Op2}(ho:OpD X (compareOp op) o)(ha:PL X a ta)(hb:PL X b tb)(hm:behindInMarks op b=false):PL X (.Compare a [op] [b] pos) (wBin o ta tb):=fun pins s σ H Pr ρ post I E h =>
 wpAny_Compare1 (two (R:=fun dx dy ρ2=>o dx dy fun r=>post r ρ2) ha hb I E h fun v u s2 x y H2 dx dy ρ2 I2 r1 r2 E2 p1 p2 q =>
  thn (ho pins s2 σ H2 Pr ρ2 x y v u dx dy _ I2 r1 r2 E2.tail.tail p1 p2 q) fun w s3 ⟨z,H3,r,I3,rz,E3,p⟩=>⟨z,H3,r,ρ2,I3,rz,E3,p⟩) hm
def wC(x:D):W L:=fun ρ post=>post (.d x) ρ
theorem ag {i j pos}:PL X (.Constant (.int i) j pos) (wC (.int i)):=PL.of DK fun σ H Pr ρ post E h=>⟨_,_,E.cons_d (.int i),h⟩
theorem nU {b j pos}:PL X (.Constant (.bool b) j pos) (wC (.bl b)):=PL.of Iu fun σ H Pr ρ post E h=>⟨_,_,E.cons_d (.bl b),h⟩
theorem i9 {j pos}:PL X (.Constant .none j pos) (wC .non):=PL.of GC fun σ H Pr ρ post E h=>⟨_,_,E.cons_d .non,h⟩
theorem gI {x j pos}:PL X (.Constant (.str x) j pos) (wC (.str x)):=PL.of DL fun σ H Pr ρ post E h=>⟨_,_,E.cons_d (.str x),h⟩
def varW(o:Option L)(i:Nat)(ρ:Ev)(post:L→Ev→Prop):Prop:=match o with
 |some (.d x)=>post (.d x) ρ
 |some (.own _ xs)=>post (.d (.lst xs)) (ρ.set i (.d (.lst xs)))
 |some (.bx a ls)=>toDB a ls fun x=>post (.d x) (ρ.set i (.d x))
 |_=>False
def wVar(i:Nat):W L:=fun ρ post=>varW ρ[i]? i ρ post
theorem GZ(x:D)(i:Nat)(ρ:Ev)(post:L→Ev→Prop):varW (some (.d x)) i ρ post=post (.d x) ρ:=(rfl)
theorem B4(a:Addr)(xs:List D)(i:Nat)(ρ:Ev)(post:L→Ev→Prop):varW (some (.own a xs)) i ρ post=post (.d (.lst xs)) (ρ.set i (.d (.lst xs))):=(rfl)
theorem Ew(a:Option Addr)(ls:List L)(i:Nat)(ρ:Ev)(post:L→Ev→Prop):varW (some (.bx a ls)) i ρ post=toDB a ls fun x=>post (.d x) (ρ.set i (.d x)):=(rfl)
theorem REnv.slot{K:PySem.W.Frag}{Pr H:Hp}{σ:St}{ρ:Ev}{i:Nat}{l:L}(E:REnv K Pr H σ ρ)(h:ρ[i]?=some l):∃s,σ[i]?=some s∧aK K H s l:=Paired.get2 E.sl h
theorem ae(i:Nat){x:Str}{pos:Pos}(hN:X.N[i]?=some x:=by rfl)(hv:Vis X.env.scope x:=by first | exact Or.inl rfl | exact Or.inr (Or.inl rfl) | exact Or.inr (Or.inr rfl)) (hd:(x == ("__debug__" : Str))=false:=by decide)
  (hcd:(x == ("__classdict__" : Str))=false:=by decide):PL X (.Name x pos) (wVar i):=by
 intro pins s σ H Pr ρ post I E h
 unfold wVar varW at h
 cases q:ρ[i]? with
 |none=>rw[q]at h;exact h.elim
 | some l =>
  rw[q]at h
  obtain⟨sv,hs,sl⟩:=E.slot q
  cases l with
  |un=>exact h.elim
  |dic a kvs=>exact h.elim
  | d y =>
   obtain⟨v,rfl,r⟩:=sl
   exact thn (cN hN hv hd hcd pins s σ H (fun w H'=>w=v∧H'=H) I ⟨v,hs,rfl,rfl⟩) fun u s1 ⟨w,H1,I1,r1,e1,e2⟩=>by
    subst e1 e2
    exact⟨w,H1,_,ρ,I1,r1,E.cons_d r,h⟩
  | own a xs =>
   obtain⟨rfl,vs,ha,r⟩:=sl
   refine thn (cN hN hv hd hcd pins s σ H (fun w H'=>w=.ref a∧H'=H) I ⟨.ref a,hs,rfl,rfl⟩) fun u s1 ⟨w,H1,I1,r1,e1,e2⟩=>?_
   subst e1 e2
   obtain⟨o,I2⟩:=I1.freezeL ha
   have E2:=(E.out q).freeze ha o
   have hi:i<ρ.length:=(List.getElem?_eq_some_iff.mp q).1
   have E3:=E2.back (i:=i) (by simp[hi]) hs
   rw[List.set_set]at E3
   obtain⟨_,e,p⟩:=E2.head_d
   cases e
   exact⟨_,_,_,_,I2,r1,E3.cons_d p,h⟩
  | bx a ls =>
   obtain⟨y,ey,h⟩:=qS h
   have hv':∃b,sv=some (.ref b):=by
    cases a with
    |none=>simp only[aK]at sl;obtain⟨b,_,e,_⟩:=sl;exact⟨b,e⟩
    |some b=>simp only[aK]at sl;exact⟨b,sl.1⟩
   obtain⟨b,rfl⟩:=hv'
   refine thn (cN hN hv hd hcd pins s σ H (fun w H'=>w=.ref b∧H'=H) I ⟨.ref b,hs,rfl,rfl⟩) fun u s1 ⟨w,H1,I1,r1,e1,e2⟩=>?_
   subst e1 e2
   obtain⟨H2,I2,E2,_⟩:=frzL (.bx a ls) I1 (E.outL q hs) ey
   have hi:i<ρ.length:=(List.getElem?_eq_some_iff.mp q).1
   have E3:=E2.back (i:=i) (by simp[hi]) hs
   rw[List.set_set]at E3
   obtain⟨_,e,p⟩:=E2.head_d
   cases e
   exact⟨_,_,_,_,I2,r1,E3.cons_d p,h⟩
def movW(o:Option L)(i:Nat)(ρ:Ev)(post:L→Ev→Prop):Prop:=match o with
 |some (.d x)=>post (.d x) ρ
 |some (.own a xs)=>post (.own a xs) (ρ.set i .un)
 |some (.bx a ls)=>post (.bx a ls) (ρ.set i .un)
 |_=>False
def fS(i:Nat):W L:=fun ρ post=>movW ρ[i]? i ρ post
theorem G0(x:D)(i:Nat)(ρ:Ev)(post:L→Ev→Prop):movW (some (.d x)) i ρ post=post (.d x) ρ:=(rfl)
theorem B5(a:Addr)(xs:List D)(i:Nat)(ρ:Ev)(post:L→Ev→Prop):movW (some (.own a xs)) i ρ post=post (.own a xs) (ρ.set i .un):=(rfl)
theorem Ex(a:Option Addr)(ls:List L)(i:Nat)(ρ:Ev)(post:L→Ev→Prop):movW (some (.bx a ls)) i ρ post=post (.bx a ls) (ρ.set i .un):=(rfl)
theorem bW(i:Nat){x:Str}{pos:Pos}(hN:X.N[i]?=some x:=by rfl)(hv:Vis X.env.scope x:=by first | exact Or.inl rfl | exact Or.inr (Or.inl rfl) | exact Or.inr (Or.inr rfl)) (hd:(x == ("__debug__" : Str))=false:=by decide)
  (hcd:(x == ("__classdict__" : Str))=false:=by decide):PL X (.Name x pos) (fS i):=by
 intro pins s σ H Pr ρ post I E h
 unfold fS movW at h
 cases q:ρ[i]? with
 |none=>rw[q]at h;exact h.elim
 | some l =>
  rw[q]at h
  obtain⟨sv,hs,sl⟩:=E.slot q
  cases l with
  |un=>exact h.elim
  |dic a kvs=>exact h.elim
  | d y =>
   obtain⟨v,rfl,r⟩:=sl
   exact thn (cN hN hv hd hcd pins s σ H (fun w H'=>w=v∧H'=H) I ⟨v,hs,rfl,rfl⟩) fun u s1 ⟨w,H1,I1,r1,e1,e2⟩=>by
    subst e1 e2
    exact⟨w,H1,_,ρ,I1,r1,E.cons_d r,h⟩
  | own a xs =>
   obtain⟨rfl,vs,ha,r⟩:=sl
   refine thn (cN hN hv hd hcd pins s σ H (fun w H'=>w=.ref a∧H'=H) I ⟨.ref a,hs,rfl,rfl⟩) fun u s1 ⟨w,H1,I1,r1,e1,e2⟩=>?_
   subst e1 e2
   exact⟨_,_,_,_,I1,r1,E.out q,h⟩
  | bx a ls =>
   have hv':∃b,sv=some (.ref b):=by
    cases a with
    |none=>simp only[aK]at sl;obtain⟨b,_,e,_⟩:=sl;exact⟨b,e⟩
    |some b=>simp only[aK]at sl;exact⟨b,sl.1⟩
   obtain⟨b,rfl⟩:=hv'
   refine thn (cN hN hv hd hcd pins s σ H (fun w H'=>w=.ref b∧H'=H) I ⟨.ref b,hs,rfl,rfl⟩) fun u s1 ⟨w,H1,I1,r1,e1,e2⟩=>?_
   subst e1 e2
   exact⟨_,_,_,_,I1,r1,E.outL q hs,h⟩
theorem Ey{x:Str}{v:V}{u:Value}{y:D}{pos:Pos}(hg:Gl X x)(hm:X.mg x=some u)(r:RelV v u)(hy:∀ H,Rep X.K H v y) (hd:(x == ("__debug__" : Str))=false:=by decide):PL X (.Name x pos) (wC y) :=
 PL.of (Ef hg hm r hd) fun σ H Pr ρ post E h=>⟨_,_,E.cons_d (hy H),h⟩
def isBl:L→(Bool→Prop)→Prop
 |.d (.bl b),k=>k b
 |_,_=>False
def aP(t:W L):W Bool:=fun ρ post=>t ρ fun r ρ1=>isBl r fun b=>post b ρ1
theorem qT{r:L}{k:Bool→Prop}(h:isBl r k):∃b,r=.d (.bl b)∧k b:=by
 cases r with
 | d x=>cases x with
  |bl b=>exact⟨b,rfl,h⟩
  |_=>exact h.elim
 |_=>exact h.elim
theorem bG{t:W L}(h:PL X e t)(he:∀whole,isTrue e X.env whole=(do let v ← whole;standAt e.pos;holding [v] (truthy v)):=by intro _;rfl):PB X e (aP t):=by
 intro pins s σ H Pr ρ post I E ht
 rw[he]
 refine wpAny_bind (thn (h pins s σ H Pr ρ _ I E ht) fun u s1 ⟨v,H1,r,ρ1,I1,rv,E1,p⟩=>wpAny_bind (wpAny_standAt (wpAny_holding ?_)))
 obtain⟨b,rfl,p⟩:=qT p
 obtain⟨_,e1,p1⟩:=E1.head_d
 cases e1
 cases p1
 cases rv
 exact wpAny_truthy_bool ⟨H1,ρ1,I1,E1.tail,p⟩
end
section
variable{X:Cx}{e a b c:Expr}{rest:List Expr}{pos:Pos}{ta tb:W L}{tA tB:W Bool}
def PBw(X:Cx)(e:Expr)(t:W Bool):Prop :=
 ∀(whole:Sem Value)(pins:List (Addr×Obj))(s:Shared)(σ:St)(H Pr:Hp)(ρ:Ev)(post:Bool→Ev→Prop),Inv X pins σ H s→REnv X.K Pr H σ ρ→t ρ post→wpAny (model X.prog X.w) X.A (isTrue e X.env whole) (EB X pins σ Pr post) X.xe s
theorem PBw.pb{t:W Bool}(h:PBw X e t):PB X e t:=h _
def wAnd(t u:W Bool):W Bool:=fun ρ post=>t ρ fun c ρ1=>if c=true then u ρ1 post else post false ρ1
def wOr(t u:W Bool):W Bool:=fun ρ post=>t ρ fun c ρ1=>if c=true then post true ρ1 else u ρ1 post
def wNot(t:W Bool):W Bool:=fun ρ post=>t ρ fun c ρ1=>post (!c) ρ1
theorem B6(ha:PB X a tA):PBw X (.BoolOp .And [a] pos) tA:=by
 intro wh pins s σ H Pr ρ post I E h
 refine isTrue_and (thn (ha pins s σ H Pr ρ post I E h) fun c s1 e=>?_)
 cases c with
 |true=>exact isTrue_and_nil e
 |false=>exact e
theorem lG(ha:PB X a tA):PBw X (.BoolOp .Or [a] pos) tA:=by
 intro wh pins s σ H Pr ρ post I E h
 refine isTrue_or (thn (ha pins s σ H Pr ρ post I E h) fun c s1 e=>?_)
 cases c with
 |false=>exact isTrue_or_nil e
 |true=>exact e
theorem Ez(ha:PB X a tA)(hb:PBw X (.BoolOp .And (b::rest) pos) tB):PBw X (.BoolOp .And (a::b::rest) pos) (wAnd tA tB):=by
 intro wh pins s σ H Pr ρ post I E h
 refine isTrue_and (thn (ha pins s σ H Pr ρ _ I E h) fun c s1 ⟨H1,ρ1,I1,E1,q1⟩=>?_)
 cases c with
 |true=>exact hb wh pins s1 σ H1 Pr ρ1 post I1 E1 q1
 |false=>exact⟨H1,ρ1,I1,E1,q1⟩
theorem mz(ha:PB X a tA)(hb:PBw X (.BoolOp .Or (b::rest) pos) tB):PBw X (.BoolOp .Or (a::b::rest) pos) (wOr tA tB):=by
 intro wh pins s σ H Pr ρ post I E h
 refine isTrue_or (thn (ha pins s σ H Pr ρ _ I E h) fun c s1 ⟨H1,ρ1,I1,E1,q1⟩=>?_)
 cases c with
 |true=>exact⟨H1,ρ1,I1,E1,q1⟩
 |false=>exact hb wh pins s1 σ H1 Pr ρ1 post I1 E1 q1
theorem kq(ha:PB X a tA):PB X (.UnaryOp .Not a pos) (wNot tA):=by
 intro pins s σ H Pr ρ post I E h
 exact isTrue_not (ha pins s σ H Pr ρ (fun c ρ1=>post (!c) ρ1) I E h)
theorem pbc{op:CmpOp}{o:Op2}(ho:OpD X (compareOp op) o)(ha:PL X a ta)(hb:PL X b tb)(hm:behindInMarks op b=false):PB X (.Compare a [op] [b] pos) (aP (wBin o ta tb)):=by
 intro pins s σ H Pr ρ post I E h
 refine wpAny_isTrue_Compare1 (two (R:=fun dx dy ρ2=>o dx dy fun r=>isBl r fun b=>post b ρ2) ha hb I E h fun v u s2 x y H2 dx dy ρ2 I2 r1 r2 E2 p1 p2 q=>?_) hm
 refine thn (ho pins s2 σ H2 Pr ρ2 x y v u dx dy _ I2 r1 r2 E2.tail.tail p1 p2 q) fun w s3 ⟨z,H3,r,I3,rz,E3,p⟩=>?_
 obtain⟨b,rfl,p⟩:=qT p
 obtain⟨_,e1,p1⟩:=E3.head_d
 cases e1
 cases p1
 cases rz
 exact wpAny_truthy_bool ⟨H3,ρ2,I3,E3.tail,p⟩
def jC(ta tb:W L):W L:=fun ρ post=>ta ρ fun r ρ1=>isBl r fun c=>if c=true then tb ρ1 post else post (.d (.bl false)) ρ1
def wOrV(ta tb:W L):W L:=fun ρ post=>ta ρ fun r ρ1=>isBl r fun c=>if c=true then post (.d (.bl true)) ρ1 else tb ρ1 post
def B7(t:W Bool):W L:=fun ρ post=>t ρ fun c ρ1=>post (.d (.bl (!c))) ρ1
theorem gQ {op} {t:W L} (h:PL X a t):PL X (.BoolOp op [a] pos) t:=fun pins s σ H Pr ρ post I E hw=>BoolOp_one (h pins s σ H Pr ρ post I E hw)
theorem EL.bl{pins:List (Addr×Obj)}{σ:St}{Pr:Hp}{post:Bool→Ev→Prop}{u:Value}{s':Shared}(h:EL X pins σ Pr (fun r ρ=>isBl r fun b=>post b ρ) u s') :
  ∃H' b ρ',u=.bool b∧Inv X pins σ H' s'∧REnv X.K Pr H' σ ρ'∧post b ρ':=by
 obtain⟨v,H',r,ρ',I,rv,E,p⟩:=h
 obtain⟨b,rfl,p⟩:=qT p
 obtain⟨_,e1,p1⟩:=E.head_d
 cases e1
 cases p1
 cases rv
 exact⟨H',b,ρ',rfl,I,E.tail,p⟩
theorem fA(ha:PL X a ta)(hb:PL X (.BoolOp .And (b::rest) pos) tb):PL X (.BoolOp .And (a::b::rest) pos) (jC ta tb):=by
 intro pins s σ H Pr ρ post I E h
 refine BoolOp_and (thn (ha pins s σ H Pr ρ _ I E h) fun v s1 q=>?_)
 obtain⟨H1,c,ρ1,rfl,I1,E1,q1⟩:=EL.bl (post:=fun c ρ1=>if c=true then tb ρ1 post else post (.d (.bl false)) ρ1) q
 refine wpAny_truthy_bool ?_
 cases c with
 |true=>exact hb pins s1 σ H1 Pr ρ1 post I1 E1 q1
 |false=>exact⟨.bl false,H1,_,ρ1,I1,rfl,E1.cons_d (.bl false),q1⟩
theorem IM(ha:PL X a ta)(hb:PL X (.BoolOp .Or (b::rest) pos) tb):PL X (.BoolOp .Or (a::b::rest) pos) (wOrV ta tb):=by
 intro pins s σ H Pr ρ post I E h
 refine BoolOp_or (thn (ha pins s σ H Pr ρ _ I E h) fun v s1 q=>?_)
 obtain⟨H1,c,ρ1,rfl,I1,E1,q1⟩:=EL.bl (post:=fun c ρ1=>if c=true then post (.d (.bl true)) ρ1 else tb ρ1 post) q
 refine wpAny_truthy_bool ?_
 cases c with
 |false=>exact hb pins s1 σ H1 Pr ρ1 post I1 E1 q1
 |true=>exact⟨.bl true,H1,_,ρ1,I1,rfl,E1.cons_d (.bl true),q1⟩
theorem DW(ha:PL X a ta):PL X (.UnaryOp .Not a pos) (B7 (aP ta)):=by
 intro pins s σ H Pr ρ post I E h
 refine UnaryOp_ (thn (ha pins s σ H Pr ρ _ I E h) fun v s1 q=>?_)
 obtain⟨H1,c,ρ1,rfl,I1,E1,q1⟩:=EL.bl (post:=fun c ρ1=>post (.d (.bl (!c))) ρ1) q
 exact not_of (wpAny_truthy_bool ⟨.bl (!c),H1,_,ρ1,I1,rfl,E1.cons_d (.bl _),q1⟩)
def wIfE(t:W Bool)(ta tb:W L):W L:=fun ρ post=>t ρ fun c ρ1=>if c=true then ta ρ1 post else tb ρ1 post
theorem qj(hc:PB X c tA)(ha:PL X a ta)(hb:PL X b tb):PL X (.IfExp c a b pos) (wIfE tA ta tb):=by
 intro pins s σ H Pr ρ post I E h
 refine wpAny_IfExp (thn (hc pins s σ H Pr ρ _ I E h) fun d s1 ⟨H1,ρ1,I1,E1,q1⟩=>?_)
 cases d with
 |true=>exact ha pins s1 σ H1 Pr ρ1 post I1 E1 q1
 |false=>exact hb pins s1 σ H1 Pr ρ1 post I1 E1 q1
def wUn(op:D→(L→Prop)→Prop)(t:W L):W L:=fun ρ post=>t ρ fun x ρ1=>toD x fun dx=>op dx fun r=>post r ρ1
def xZ:D→(L→Prop)→Prop
 |.int i,k=>k (.d (.int (-i)))
 |_,_=>False
theorem zg(ha:PL X a ta):PL X (.UnaryOp .USub a pos) (wUn xZ ta):=by
 intro pins s σ H Pr ρ post I E h
 refine UnaryOp_ (thn (ha pins s σ H Pr ρ _ I E h) fun v s1 q=>?_)
 obtain⟨x,H1,dx,ρ1,I1,r1,E1,q1⟩:=EL.frz (post:=fun dx ρ1=>xZ dx fun r=>post r ρ1) q
 obtain⟨_,e1,p1⟩:=E1.head_d
 cases e1
 cases p1 with
 | int i =>
  exact thn (GM pins s1 σ H1 _ v (fun w H'=>w=.int (-i)∧H'=H1) I1 r1 ⟨i,rfl,rfl,rfl⟩) fun u s2 ⟨w,H2,I2,r2,e1,e2⟩=>by
   subst e1 e2
   exact⟨_,_,_,ρ1,I2,r2,E1.tail.cons_d (.int _),q1⟩
 |_=>exact q1.elim
variable{st:Stmt}{sts:List Stmt}{t u:W Fl}
def bE:W Fl:=fun ρ post=>post .nx ρ
def wSeq(t u:W Fl):W Fl:=fun ρ post=>t ρ fun f ρ1=>match f with
 |.nx=>u ρ1 post
 |f=>post f ρ1
theorem aN:PMs X [] bE:=fun _ _ σ H Pr ρ post I E h=>wpAny_execs_nil ⟨σ,H,ρ,I,E,h⟩
theorem ai(h1:PM X st t)(h2:PMs X sts u):PMs X (st::sts) (wSeq t u):=by
 intro pins s σ H Pr ρ post I E h
 refine wpAny_execs_cons (thn (h1 pins s σ H Pr ρ _ I E h) fun f s1 q=>?_)
 cases f with
 | next =>
  obtain⟨σ',H',ρ',I',E',q⟩:=q
  exact h2 pins s1 σ' H' Pr ρ' post I' E' q
 |ret v=>exact q
 |brk=>exact q
 |cont=>exact q
theorem ao(h1:PM X st t):PMs X [st] t:=by
 intro pins s σ H Pr ρ post I E h
 refine wpAny_execs_cons (thn (h1 pins s σ H Pr ρ _ I E h) fun f s1 q=>?_)
 cases f with
 |next=>exact wpAny_execs_nil q
 |ret v=>exact q
 |brk=>exact q
 |cont=>exact q
def jD(t:W L):W Fl:=fun ρ post=>t ρ fun _ ρ1=>post .nx ρ1
theorem cQ{te:W L}(he:PL X e te)(hs:swapsWith e none pos.line X.env=pure false:=by rfl):PM X (.Expr e pos) (jD te):=by
 intro pins s σ H Pr ρ post I E h
 exact wpAny_Expr_any (thn (he pins s σ H Pr ρ _ I E h) fun v s1 ⟨x,H1,r,ρ1,I1,r1,E1,q1⟩=>⟨σ,H1,ρ1,I1,E1.tail,q1⟩) I.quiet hs
def wRet(t:W L):W Fl:=fun ρ post=>t ρ fun r ρ1=>post (.rt r) ρ1
theorem az{te:W L}(he:PL X e te):PM X (.Return (some e) pos) (wRet te):=by
 intro pins s σ H Pr ρ post I E h
 exact wpAny_Return_some (thn (he pins s σ H Pr ρ _ I E h) fun v s1 ⟨x,H1,r,ρ1,I1,r1,E1,q1⟩=>⟨x,σ,H1,r,ρ1,σ,I1,r1,E1,q1⟩)
def wIf(c:W Bool)(t u:W Fl):W Fl:=fun ρ post=>c ρ fun b ρ1=>if b=true then t ρ1 post else u ρ1 post
theorem bL{sa sb:List Stmt}(hc:PB X c tA)(ha:PMs X sa t)(hb:PMs X sb u):PM X (.If c sa sb pos) (wIf tA t u):=by
 intro pins s σ H Pr ρ post I E h
 refine wpAny_If (thn (hc pins s σ H Pr ρ _ I E h) fun d s1 ⟨H1,ρ1,I1,E1,q1⟩=>?_)
 cases d with
 |true=>exact ha pins s1 σ H1 Pr ρ1 post I1 E1 q1
 |false=>exact hb pins s1 σ H1 Pr ρ1 post I1 E1 q1
def wR:W Fl:=fun _ _=>False
theorem qU:PM X st wR:=fun _ _ _ _ _ _ _ _ _ h=>h.elim
theorem REnv.forget{K:PySem.W.Frag}{Pr H:Hp}{σ:St}{ρ:Ev}(E:REnv K Pr H σ ρ)(i:Nat)(v:Option V):REnv K Pr H (σ.set i v) (ρ.set i .un):=by
 have hsub:(owns (ρ.set i .un)).Sublist (owns ρ):=by
  have:∀(ρ:Ev)(i:Nat),(owns (ρ.set i .un)).Sublist (owns ρ):=by
   intro ρ
   induction ρ with
   |nil=>intro i;exact List.Sublist.refl _
   | cons l ρ ih =>
    intro i
    cases i with
    | zero =>
     show(owns ρ).Sublist (owns (l::ρ))
     rw[aA];exact List.sublist_append_right _ _
    | succ i =>
     show(owns (l::ρ.set i .un)).Sublist (owns (l::ρ))
     rw[aA,aA]
     exact(List.Sublist.refl _).append (ih i)
  exact this ρ i
 exact⟨E.sub,E.nd.sublist hsub,fun a h=>E.off a (hsub.subset h),Paired.set2 True.intro i E.sl⟩
theorem REnv.store{K:PySem.W.Frag}{Pr H:Hp}{σ:St}{ρ:Ev}{v:Option V}{l:L}(E:REnv K Pr H (v::σ) (l::ρ)){i:Nat}(hi:i<σ.length):REnv K Pr H (σ.set i v) (ρ.set i l):=by
 have E1:=E.forget (i+1) v
 have E2:REnv K Pr H (v::σ.set i v) (l::ρ.set i .un):=E1
 have hl:=E.tail.len
 have E3:=E2.back (i:=i) (by rw[List.getElem?_set_self (by omega)]) (by rw[List.getElem?_set_self hi])
 rw[List.set_set]at E3
 exact E3
def wSet(i:Nat)(t:W L):W Fl:=fun ρ post=>t ρ fun r ρ1=>post .nx (ρ1.set i r)
theorem av{i:Nat}{x:Str}{te:W L}{pos':Pos}(hN:X.N.Nodup)(hi:X.N[i]?=some x)(hx:Loc X.env.scope x)(he:PL X e te)(hs:swapsWith e (some (.Name x pos')) pos.line X.env=pure false:=by rfl)(hf:X.fn x=true∨X.env.scope.names.lookup x=some .local:=by first|exact .inl rfl|exact .inr rfl|assumption) :
  PM X (.Assign [.Name x pos'] e pos) (wSet i te):=by
 intro pins s σ H Pr ρ post I E h
 refine wpAny_Assign_Name (thn (he pins s σ H Pr ρ _ I E h) fun v s1 ⟨y,H1,r,ρ1,I1,r1,E1,q1⟩=>?_) hs
 exact kj I1 hN hi hx r1 (fun s2 I2=>⟨_,H1,_,I2,E1.store (by rw[I1.len];exact(List.getElem?_eq_some_iff.mp hi).1),q1⟩) hf
end
theorem kr{a b:Ev}(h:a.Perm b):(owns a).Perm (owns b):=by
 induction h with
 |nil=>exact .refl _
 |cons x _ ih=>rw[aA,aA];exact ih.append_left _
 | swap x y l =>
  rw[aA,aA,aA,aA,← List.append_assoc,← List.append_assoc]
  exact List.Perm.append_right _ List.perm_append_comm
 |trans _ _ h1 h2=>exact h1.trans h2
theorem B8{a b:Ev}(h:a.Sublist b):(owns a).Sublist (owns b):=by
 induction h with
 |slnil=>exact .refl _
 |cons x _ ih=>rw[aA];exact ih.trans (List.sublist_append_right _ _)
 |cons_cons x _ ih=>rw[aA,aA];exact(List.Sublist.refl _).append ih
def tL(K:PySem.W.Frag)(t:W L):TE:=fun σ H Q=>∃Pr ρ post,REnv K Pr H σ ρ∧t ρ post∧∀v H' r ρ',REnv K Pr H' (some v::σ) (r::ρ')→post r ρ'→Q v H'
def tW(K:PySem.W.Frag)(t:W Fl):TS:=fun D σ H=>∃Pr ρ post,REnv K Pr H σ ρ∧t ρ post∧(∀σ' H' ρ',REnv K Pr H' σ' ρ'→post .nx ρ'→D.nx σ' H')∧(∀σ' H' ρ',REnv K Pr H' σ' ρ'→post .bk ρ'→D.bk σ' H')∧(∀σ' H' ρ',REnv K Pr H' σ' ρ'→post .ct ρ'→D.ct σ' H') ∧
 ∀v τ H' r ρ',REnv K Pr H' (some v::τ) (r::ρ')→post (.rt r) ρ'→D.rt v H'
def tWb(K:PySem.W.Frag)(t:W Bool):TT:=fun σ H Q=>∃Pr ρ post,REnv K Pr H σ ρ∧t ρ post∧∀b H' ρ',REnv K Pr H' σ ρ'→post b ρ'→Q b H'
section
variable{X:Cx}{e a b:Expr}{es:List Expr}{pos:Pos}{st:Stmt}{sts:List Stmt}{t u:W Fl}
theorem PL.pe{t:W L}(h:PL X e t):PE X e (tL X.K t):=fun pins s σ H Q I ⟨Pr,ρ,post,E,ht,q⟩ =>
 thn (h pins s σ H Pr ρ post I E ht) fun u s1 ⟨v,H1,r,ρ1,I1,rv,E1,p⟩=>⟨v,H1,I1,rv,q v H1 r ρ1 E1 p⟩
theorem PB.pt{t:W Bool}(h:PB X e t):PT X e (tWb X.K t):=fun pins s σ H Q I ⟨Pr,ρ,post,E,ht,q⟩ =>
 thn (h pins s σ H Pr ρ post I E ht) fun b s1 ⟨H1,ρ1,I1,E1,p⟩=>⟨H1,I1,q b H1 ρ1 E1 p⟩
theorem PMs.pss(h:PMs X sts t):PSs X sts (tW X.K t):=fun pins s σ H D I ⟨Pr,ρ,post,E,ht,q1,q2,q3,q4⟩ =>
 thn (h pins s σ H Pr ρ post I E ht) fun f s1 q=>by
  cases f with
  |next=>obtain⟨σ',H',ρ',I',E',p⟩:=q;exact⟨σ',H',I',q1 σ' H' ρ' E' p⟩
  |brk=>obtain⟨σ',H',ρ',I',E',p⟩:=q;exact⟨σ',H',I',q2 σ' H' ρ' E' p⟩
  |cont=>obtain⟨σ',H',ρ',I',E',p⟩:=q;exact⟨σ',H',I',q3 σ' H' ρ' E' p⟩
  |ret u=>obtain⟨v,σ',H',r,ρ',τ,I',rv,E',p⟩:=q;exact⟨v,σ',H',I',rv,q4 v τ H' r ρ' E' p⟩
def G1(K:PySem.W.Frag)(Pr:Hp)(post:Fl→Ev→Prop):Ends where
 nx:=fun σ' H'=>∃ρ',REnv K Pr H' σ' ρ'∧post .nx ρ'
 rt:=fun v H'=>∃τ r ρ',REnv K Pr H' (some v::τ) (r::ρ')∧post (.rt r) ρ'
 bk:=fun σ' H'=>∃ρ',REnv K Pr H' σ' ρ'∧post .bk ρ'
 ct:=fun σ' H'=>∃ρ',REnv K Pr H' σ' ρ'∧post .ct ρ'
theorem PM.of{ts:TS}(h:PS X st ts)(q:∀σ H Pr ρ post,σ.length=X.N.length→REnv X.K Pr H σ ρ→t ρ post→ts (G1 X.K Pr post) σ H):PM X st t:=fun pins s σ H Pr ρ post I E ht =>
 thn (h pins s σ H _ I (q σ H Pr ρ post I.len E ht)) fun f s1 q=>by
  cases f with
  |next=>obtain⟨σ',H',I',ρ',E',p⟩:=q;exact⟨σ',H',ρ',I',E',p⟩
  |brk=>obtain⟨σ',H',I',ρ',E',p⟩:=q;exact⟨σ',H',ρ',I',E',p⟩
  |cont=>obtain⟨σ',H',I',ρ',E',p⟩:=q;exact⟨σ',H',ρ',I',E',p⟩
  |ret u=>obtain⟨v,σ',H',I',rv,τ,r,ρ',E',p⟩:=q;exact⟨v,σ',H',r,ρ',τ,I',rv,E',p⟩
theorem REnv.narrow{K:PySem.W.Frag}{Pr H1 H:Hp}{σ1 σ:St}{ρ1 ρ:Ev}(E1:REnv K Pr H1 σ1 ρ1)(E:REnv K (a5 H1 ρ1) H σ ρ):REnv K Pr H σ ρ:=by
 refine⟨fun b o e=>E.sub b o ?_,E.nd,fun a ha=>?_,E.sl⟩
 ·
  unfold a5
  rw[if_neg,E1.sub b o e]
  intro hm
  have z:=E1.off b hm
  rw[e]at z
  cases z
 ·
  have z:=E.off a ha
  unfold a5 at z
  by_cases hm:a∈owns ρ1
  ·
   exact E1.off a hm
  ·
   rw[if_neg hm]at z
   cases q:Pr a with
   |none=>rfl
   |some o=>rw[E1.sub a o q]at z;cases z
def aNil:W (List L):=fun ρ post=>post [] ρ
def aVal(t:W L)(r:W (List L)):W (List L):=fun ρ post=>t ρ fun x ρ1=>r ρ1 fun xs ρ2=>post (x::xs) ρ2
def aVar(i:Nat)(r:W (List L)):W (List L):=fun ρ post=>match ρ[i]? with
 |some (.own _ _)=>r ρ fun xs ρ2=>post (.un::xs) ρ2
 |_=>False
theorem ah:PAL X [] [] aNil:=fun _ pins s σ H Pr ρ post I E h=>Calls.spliced_nil ⟨[],H,[],ρ,I,.nil,rfl,rfl,E,fun k i e=>by simp at e,h⟩
theorem af{bs:List (Option Nat)}{r:W (List L)}{t:W L}(ha:PL X e t)(hr:PAL X es bs r)(hs:starEach (e::es) X.env=(false,eval e X.env)::starEach es X.env:=by rfl):PAL X (e::es) (none::bs) (aVal t r):=by
 intro pos pins s σ H Pr ρ post I E h
 rw[hs]
 show wpAny _ _ (spliced ((false,eval e X.env)::backTo pos (starEach es X.env))) _ _ s
 refine Calls.spliced_cons (thn (ha pins s σ H Pr ρ _ I E h) fun u s1 ⟨x,H1,l,ρ1,I1,r1,E1,q1⟩=>?_)
 refine thn (hr pos pins s1 σ H1 _ ρ1 _ I1 E1.tail.wide q1) fun us s2 ⟨vs,H2,ls,ρ2,I2,r2,hl,hb,E2,hv,q2⟩=>?_
 have E3:REnv X.K Pr H2 (vs.map some++(some x::σ)) (ls++(l::ρ2)):=REnv.step (τ:=[some x]) (lam:=[l]) E1 rfl E2 (by simp[hl])
 have E4:REnv X.K Pr H2 (some x::(vs.map some++σ)) (l::(ls++ρ2)):=by
  have pm:(owns (ls++(l::ρ2))).Perm (owns (l::(ls++ρ2))):=kr List.perm_middle
  have s1:=Paired.unapp (by simp[hl]) E3.sl
  obtain⟨s1,s2⟩:=s1
  cases s2 with
  |cons q t=>exact⟨E3.sub,pm.nodup_iff.mp E3.nd,fun a h=>E3.off a (pm.mem_iff.mpr h),.cons q (Paired.app s1 t)⟩
 refine⟨x::vs,H2,l::ls,ρ2,I2,.cons r1 r2,by simp[hl],by simp[hb],E4,fun k i e=>?_,q2⟩
 cases k with
 |zero=>simp at e
 |succ k=>simpa using hv k i (by simpa using e)
theorem bC(i:Nat){x:Str}{p:Pos}{bs:List (Option Nat)}{r:W (List L)}(hr:PAL X es bs r)(hN:X.N[i]?=some x:=by rfl)(hv:Vis X.env.scope x:=by first | exact Or.inl rfl | exact Or.inr (Or.inl rfl) | exact Or.inr (Or.inr rfl)) (hd:(x == ("__debug__" : Str))=false:=by decide)
  (hcd:(x == ("__classdict__" : Str))=false:=by decide) (hs:starEach (.Name x p::es) X.env=(false,eval (.Name x p) X.env)::starEach es X.env:=by rfl):PAL X (.Name x p::es) (some i::bs) (aVar i r):=by
 intro pos pins s σ H Pr ρ post I E h
 unfold aVar at h
 cases q:ρ[i]? with
 |none=>rw[q]at h;exact h.elim
 | some l =>
  rw[q]at h
  cases l with
  |un=>exact h.elim
  |d y=>exact h.elim
  |bx _ _=>exact h.elim
  |dic _ _=>exact h.elim
  | own a xs =>
   obtain⟨sv,hsl,sl⟩:=E.slot q
   obtain⟨rfl,_⟩:=sl
   rw[hs]
   show wpAny _ _ (spliced ((false,eval (.Name x p) X.env)::backTo pos (starEach es X.env))) _ _ s
   refine Calls.spliced_cons (thn (cN hN hv hd hcd pins s σ H (fun w H'=>w=.ref a∧H'=H) I ⟨.ref a,hsl,rfl,rfl⟩) fun u s1 ⟨w,H1,I1,r1,e1,e2⟩=>?_)
   subst e1 e2
   refine thn (hr pos pins s1 σ H1 Pr ρ _ I1 E h) fun us s2 ⟨vs,H2,ls,ρ2,I2,r2,hl,hb,E2,hv,q2⟩=>?_
   refine⟨.ref a::vs,H2,.un::ls,ρ2,I2,.cons r1 r2,by simp[hl],by simp[hb],E2.cons_un,fun k j e=>?_,q2⟩
   cases k with
   |zero=>simp at e;subst e;exact⟨rfl,.ref a,rfl,hsl⟩
   |succ k=>simpa using hv k j (by simpa using e)
def toDs:List L→(List D→Prop)→Prop
 |[],k=>k []
 |.d x::r,k=>toDs r fun xs=>k (x::xs)
 |_::_,_=>False
theorem nV:∀{ls:List L}{k:List D→Prop},toDs ls k→∃xs,ls=xs.map .d∧k xs
 |[],_,h=>⟨[],rfl,h⟩
 | .d x::r,k,h=>by
  obtain⟨xs,e,q⟩:=nV (ls:=r) h
  exact⟨x::xs,by rw[e];rfl,q⟩
 |.un::_,_,h=>h.elim
 |.own _ _::_,_,h=>h.elim
theorem nW{K:PySem.W.Frag}{Pr H:Hp}{σ:St}{ρ:Ev}:∀{vs:List V}{xs:List D},vs.length=xs.length→REnv K Pr H (vs.map some++σ) (xs.map .d++ρ)→Reps K H vs xs
 |[],[],_,_=>.nil
 | v::vs,x::xs,hl,E=>by
  obtain⟨w,e,r⟩:=REnv.head_d (v:=some v) (x:=x) E
  cases e
  exact .cons r (nW (by simpa using hl) (REnv.tail (v:=some v) (l:=.d x) E))
 |[],_::_,hl,_=>by simp at hl
 |_::_,[],hl,_=>by simp at hl
def wTup(t:W (List L)):W L:=fun ρ post=>t ρ fun ls ρ1=>toDs ls fun xs=>xs.length≤sizeLine∧post (.d (.tup xs)) ρ1
def wLst(t:W (List L)):W L:=fun ρ post=>t ρ fun ls ρ1=>toDs ls fun xs=>xs.length≤sizeLine∧∀a,post (.own a xs) ρ1
theorem bu {x1} {bs:List (Option Nat)} {t:W (List L)} (h:PAL X es bs t):PL X (.Tuple es x1 pos) (wTup t):=by
 intro pins s σ H Pr ρ post I E hq
 refine wpAny_Tuple_spliced (thn (h pos pins s σ H Pr ρ _ I E hq) fun us s1 ⟨vs,H1,ls,ρ1,I1,r,hl,hb,E1,hv,q⟩=>?_)
 obtain⟨xs,rfl,z,q⟩:=nV q
 have hlen:vs.length=xs.length:=by simpa using hl
 refine⟨by rw[← r.length,hlen];exact z,?_⟩
 have hf:H1 s1.heap.objs.size=none:=I1.hok.fresh (Nat.le_refl _)
 refine⟨.ref s1.heap.objs.size,upd H1 s1.heap.objs.size (.tup vs),_,ρ1,I1.laid (t':=s1.toks) (fun b u e=>Heap.get?_push_of_some _ e) (Nat.le_refl _) ?_,rfl,(E1.drop (by simp[hlen])).cons_tup hf (nW hlen E1),q⟩
 exact⟨by rw[hlen];exact z,us,r,⟨_,Heap.get?_push_size _ rfl,rfl,_,rfl⟩⟩
theorem b6{bs:List (Option Nat)}{t:W (List L)}(h:PAL X es bs t):PL X (.List es pos) (wLst t):=by
 intro pins s σ H Pr ρ post I E hq
 refine wpAny_List_spliced (thn (h pos pins s σ H Pr ρ _ I E hq) fun us s1 ⟨vs,H1,ls,ρ1,I1,r,hl,hb,E1,hv,q⟩=>?_)
 obtain⟨xs,rfl,z,q⟩:=nV q
 have hlen:vs.length=xs.length:=by simpa using hl
 refine⟨by rw[← r.length,hlen];exact z,?_⟩
 have hf:H1 s1.heap.objs.size=none:=I1.hok.fresh (Nat.le_refl _)
 refine⟨.ref s1.heap.objs.size,upd H1 s1.heap.objs.size (.lst vs),_,ρ1,I1.laid (t':=s1.toks) (fun b u e=>Heap.get?_push_of_some _ e) (Nat.le_refl _) ?_,rfl,(E1.drop (by simp[hlen])).cons_own hf (nW hlen E1),q _⟩
 exact⟨by rw[hlen];exact z,us,0,r,Heap.get?_push_size _ rfl⟩
abbrev FS:=List L→(L→List L→Prop)→Prop
def spF(K:PySem.W.Frag)(n:Nat)(fs:FS):Sp:=fun vs H Q _=>vs.length=n∧∃Pr ls post,REnv K Pr H (vs.map some) ls∧fs ls post∧∀v H' r ls',REnv K Pr H' (some v::vs.map some) (r::ls')→post r ls'→Q v H'
theorem REnv.swap{K:PySem.W.Frag}{Pr H:Hp}{σ τ:St}{ρ lam:Ev}(hl:τ.length=lam.length)(E:REnv K Pr H (τ++σ) (lam++ρ)):REnv K Pr H (σ++τ) (ρ++lam):=by
 have pm:(owns (lam++ρ)).Perm (owns (ρ++lam)):=kr List.perm_append_comm
 obtain⟨s1,s2⟩:=Paired.unapp hl E.sl
 exact⟨E.sub,pm.nodup_iff.mp E.nd,fun a h=>E.off a (pm.mem_iff.mpr h),Paired.app s2 s1⟩
theorem DX{K:PySem.W.Frag}{Pr H H':Hp}{σ τ:St}{ρ ls ls':Ev}{v:Option V}{r:L}(hl:τ.length=ls.length)(E:REnv K Pr H (τ++σ) (ls++ρ))(E':REnv K (a5 H ls) H' (v::τ) (r::ls')):REnv K Pr H' (v::(τ++σ)) (r::(ls'++ρ)):=by
 have hρ:σ.length=ρ.length:=(E.drop hl).len
 have z:=REnv.step (τ:=σ) (σ:=τ) (lam:=ρ) (ρ:=ls) (w:=[v]) (μ:=[r]) (E.swap hl) hρ E' rfl
 have hl':τ.length=ls'.length:=by have:=E'.len;simpa using this
 obtain⟨s1,s2⟩:=Paired.unapp (a:=[v]) (b:=[r]) rfl z.sl
 obtain⟨s2,s3⟩:=Paired.unapp hρ s2
 have pm:(owns ([r]++(ρ++ls'))).Perm (owns (r::(ls'++ρ))):=kr (List.Perm.cons r (List.perm_append_comm (l₁:=ρ) (l₂:=ls')))
 exact⟨z.sub,pm.nodup_iff.mp z.nd,fun a h=>z.off a (pm.mem_iff.mpr h),Paired.app s1 (Paired.app s3 s2)⟩
def aC(fs:FS)(t:W (List L)):W L:=fun ρ post=>t ρ fun ls ρ1=>fs ls fun r _=>post r ρ1
def bU(fs:FS)(k i:Nat)(t:W (List L)):W L:=fun ρ post=>t ρ fun ls ρ1=>match ρ1[i]? with
 |some (.own a xs)=>fs (ls.set k (.own a xs)) fun r ls'=>∃ys,ls'[k]?=some (.own a ys)∧post r (ρ1.set i (.own a ys))
 |_=>False
section
variable{CX:CXT}{k n:Nat}{f:Addr}{fd:FuncData}{ps:List Str}{fs:FS}{E:XK}{x:Str}{p:Pos}{bs:List (Option Nat)}{t:W (List L)}
theorem REnv.drop1{K:PySem.W.Frag}{Pr H:Hp}{σ τ:St}{ρ lam:Ev}{v:Option V}{r:L}(hl:τ.length=lam.length)(E:REnv K Pr H (v::(τ++σ)) (r::(lam++ρ))):REnv K Pr H (v::σ) (r::ρ):=by
 obtain⟨s1,s2⟩:=Paired.unapp (a:=[v]) (b:=[r]) rfl E.sl
 obtain⟨s2,s3⟩:=Paired.unapp hl s2
 have sb:(owns (r::ρ)).Sublist (owns (r::(lam++ρ))):=B8 (List.Sublist.cons_cons r (List.sublist_append_right _ _))
 exact⟨E.sub,E.nd.sublist sb,fun a h=>E.off a (sb.subset h),Paired.app s1 s3⟩
theorem EC(F:FnOk X.prog X.w X.K X.mg X.base CX k f fd ps (spF X.K n fs))(hr:Room k X.A)(hg:Gl X x)(hm:X.mg x=some (.ref f))(hk:PySem.W.keepIn X.K (.ref f)=true)(hb:vb X.K fd ps [])(hx:wL CX X E)
  (ha:PAL X (e::es) bs t) (hn:bs.length=n) (hdb:(x == ("__debug__" : Str))=false:=by decide) (he:starEach (e::es) X.env=(false,eval e X.env)::starEach es X.env:=by rfl) (hpl:(backTo pos (starEach es X.env)).any (·.1)=false:=by rfl) :
  PL X (.Call (.Name x p) (e::es) [] pos) (aC fs t):=by
 intro pins s σ H Pr ρ post I E0 h
 refine wpAny_Call_Name_kw (va I hg hm ?_ hdb)
 refine PySem.W.callWith_K (h₀:=X.base) I.ok.mod.kin hk (thn (ha pos pins s σ H Pr ρ _ I E0 h) fun us s1 ⟨vs,H1,ls,ρ1,I1,r,hl,hbl,E1,hv,q⟩=>⟨I1.kIn,?_⟩) he hpl
 have hl':(vs.map some).length=ls.length:=by simp[hl]
 refine thn (DP (Q:=fun v H'=>∃r ρ',REnv X.K Pr H' (some v::σ) (r::ρ')∧post r ρ') F hr hb .nil hx I1 r ?_) fun u s2 ⟨v,H2,I2,rv,r,ρ',E2,p⟩=>⟨v,H2,r,ρ',I2,rv,E2,p⟩
 rw[List.append_nil]
 refine⟨hbl.trans hn,a5 H1 ls,ls,_,(E1.left hl').wide,q,fun v H' r ls' E2 p=>⟨r,ρ1,?_,p⟩⟩
 have z:=DX hl' E1 E2
 have hl2:(vs.map some).length=ls'.length:=by have:=E2.len;simpa using this
 exact z.drop1 hl2
theorem B9(F:FnOk X.prog X.w X.K X.mg X.base CX k f fd ps (spF X.K n fs))(hr:Room k X.A)(hg:Gl X x)(hm:X.mg x=some (.ref f))(hk:PySem.W.keepIn X.K (.ref f)=true)(hb:vb X.K fd ps [])(hx:wL CX X E)
  (j i:Nat) (ha:PAL X (e::es) bs t) (hj:bs[j]?=some (some i)) (hn:bs.length=n) (hdb:(x == ("__debug__" : Str))=false:=by decide) (he:starEach (e::es) X.env=(false,eval e X.env)::starEach es X.env:=by rfl) (hpl:(backTo pos (starEach es X.env)).any (·.1)=false:=by rfl) :
  PL X (.Call (.Name x p) (e::es) [] pos) (bU fs j i t):=by
 intro pins s σ H Pr ρ post I E0 h
 refine wpAny_Call_Name_kw (va I hg hm ?_ hdb)
 refine PySem.W.callWith_K (h₀:=X.base) I.ok.mod.kin hk (thn (ha pos pins s σ H Pr ρ _ I E0 h) fun us s1 ⟨vs,H1,ls,ρ1,I1,r,hl,hbl,E1,hv,q⟩=>⟨I1.kIn,?_⟩) he hpl
 have hl':(vs.map some).length=ls.length:=by simp[hl]
 refine thn (DP (Q:=fun v H'=>∃r ρ',REnv X.K Pr H' (some v::σ) (r::ρ')∧post r ρ') F hr hb .nil hx I1 r ?_) fun u s2 ⟨v,H2,I2,rv,r,ρ',E2,p⟩=>⟨v,H2,r,ρ',I2,rv,E2,p⟩
 rw[List.append_nil]
 dsimp only at q
 cases qi:ρ1[i]? with
 |none=>rw[qi]at q;exact q.elim
 | some l =>
  rw[qi]at q
  cases l with
  |un=>exact q.elim
  |d y=>exact q.elim
  |bx _ _=>exact q.elim
  |dic _ _=>exact q.elim
  | own a xs =>
   obtain⟨hun,w,hw,hσ⟩:=hv j i hj
   obtain⟨sv,hs2,rfl,_⟩:=(E1.drop hl').slot qi
   rw[hσ]at hs2
   cases hs2
   have hjl:j<ls.length:=(List.getElem?_eq_some_iff.mp hun).1
   have hjv:j<vs.length:=by omega
   have hil:i<ρ1.length:=(List.getElem?_eq_some_iff.mp qi).1
   have E2:=E1.out (i:=ls.length+i) (a:=a) (xs:=xs) (by rw[List.getElem?_append_right (by omega)];simpa using qi)
   rw[List.set_append_right _ _ (by omega),Nat.add_sub_cancel_left]at E2
   have E3:=E2.back (i:=j) (by rw[List.getElem?_append_left hjl];exact hun) (by rw[List.getElem?_append_left (by simp;omega)];simp[hw])
   rw[List.set_append_left _ _ hjl]at E3
   have hl3:(vs.map some).length=(ls.set j (.own a xs)).length:=by simp[hl]
   refine⟨hbl.trans hn,a5 H1 (ls.set j (.own a xs)),_,_,(E3.left hl3).wide,q,fun v H' r ls' E4 p=>?_⟩
   obtain⟨ys,hys,p⟩:=p
   refine⟨r,ρ1.set i (.own a ys),?_,p⟩
   have z:=DX hl3 E3 E4
   have hl4:(vs.map some).length=ls'.length:=by have:=E4.len;simpa using this
   have hjl':j<ls'.length:=by simp at hl4;omega
   have z1:=z.out (i:=1+j) (a:=a) (xs:=ys) (by rw[Nat.add_comm];simp only[List.getElem?_cons_succ];rw[List.getElem?_append_left hjl'];exact hys)
   rw[Nat.add_comm 1 j,List.set_cons_succ,List.set_append_left _ _ hjl']at z1
   have z2:=z1.back (i:=(1+ls'.length)+i) (by
    rw[Nat.add_comm 1,Nat.add_right_comm,List.getElem?_cons_succ,List.getElem?_append_right (by simp)]
    simp[hil]) (by
    rw[Nat.add_comm 1,Nat.add_right_comm,List.getElem?_cons_succ,List.getElem?_append_right (by simp at hl4 ⊢;omega)]
    simp at hl4 ⊢
    rw[← hl4,Nat.add_sub_cancel_left]
    exact hσ)
   rw[Nat.add_comm 1,Nat.add_right_comm,List.set_cons_succ,List.set_append_right _ _ (by simp)]at z2
   simp only[List.length_set,Nat.add_sub_cancel_left,List.set_set]at z2
   exact z2.drop1 (by simp at hl4 ⊢;exact hl4)
end
end
def Back(ρ:Ev):List L→List L→Prop:=Paired fun l l'=>match l with
 |.own a _=>(∃ys,l'=.own a ys∧L.own a ys∈ρ)∨l'=.un
 |.bx _ _=>l'=.un
 |.dic _ _=>l'=.un
 |l=>l'=l
def aL(ls:List L)(post:L→List L→Prop):Fl→Ev→Prop:=fun f ρ=>match f with
 |.rt r=>∃ls',Back ρ ls ls'∧post r ls'
 |.nx=>∃ls',Back ρ ls ls'∧post (.d .non) ls'
 |_=>False
theorem Back.owns{ρ:Ev}:∀{ls ls':List L},Back ρ ls ls'→(owns ls').Sublist (owns ls)
 |_,_,.nil=>.refl _
 | l::ls,l'::ls',.cons h t=>by
  have ih:=Back.owns t
  rw[aA,aA]
  cases l with
  | own a xs =>
   rcases h with⟨ys,rfl,_⟩|rfl
   ·
    exact(List.Sublist.refl _).append ih
   ·
    exact ih.trans (List.sublist_append_right _ _)
  |un=>have e:l'=.un:=h;subst e;exact(List.Sublist.refl _).append ih
  |d x=>have e:l'=.d x:=h;subst e;exact(List.Sublist.refl _).append ih
  |bx k ms=>have e:l'=.un:=h;subst e;exact ih.trans (List.sublist_append_right _ _)
  |dic k ms=>have e:l'=.un:=h;subst e;exact ih.trans (List.sublist_append_right _ _)
theorem Back.sub{ρ:Ev}:∀{ls ls':List L},Back ρ ls ls'→∀a∈L2.owns ls',a∈L2.owns ρ
 |_,_,.nil=>fun a ha=>by simp[L2.owns]at ha
 | l::ls,l'::ls',.cons h t=>fun a ha=>by
  have ih:=Back.sub t
  rw[aA]at ha
  rcases List.mem_append.mp ha with z|z
  ·
   cases l with
   | own b xs =>
    rcases h with⟨ys,rfl,hm⟩|rfl
    ·
     have e:a=b:=by simpa[aS]using z
     subst e
     exact vf hm
    ·
     simp[aS]at z
   |un=>have e:l'=.un:=h;subst e;simp[aS]at z
   |d x=>have e:l'=.d x:=h;subst e;simp[aS]at z
   |bx k ms=>have e:l'=.un:=h;subst e;simp[aS]at z
   |dic k ms=>have e:l'=.un:=h;subst e;simp[aS]at z
  ·
   exact ih a z
theorem wU{K:PySem.W.Frag}{Pr H H':Hp}{σ τ:St}{ls ls' ρ:Ev}{v:Option V}{r:L}(E:REnv K Pr H σ ls)(E':REnv K (a5 H ls) H' (v::τ) (r::ρ))(B:Back ρ ls ls'):REnv K Pr H' (v::σ) (r::ls'):=by
 have E1:=E.narrow E'
 have p:Pres H H':=qR E E'.sub
 have sub:=B.sub
 have nd1:(owns ls').Nodup:=E.nd.sublist B.owns
 refine⟨E1.sub,?_,fun a ha=>?_,?_⟩
 ·
  have nd:=E'.nd
  rw[aA]at nd ⊢
  obtain⟨n1,n2,n3⟩:=List.nodup_append.mp nd
  exact List.nodup_append.mpr ⟨n1,nd1,fun a ha b hb=>n3 a ha b (sub b hb)⟩
 ·
  rw[aA]at ha
  refine E1.off a ?_
  rw[aA]
  rcases List.mem_append.mp ha with z|z
  ·
   exact List.mem_append_left _ z
  ·
   exact List.mem_append_right _ (sub a z)
 ·
  have s1:=E'.sl
  cases s1 with
  | cons q t =>
   refine .cons q ?_
   have sl:=E.sl
   clear E E' E1 nd1 sub
   induction B generalizing σ with
   |nil=>cases sl;exact .nil
   | cons h u ih =>
    rename_i l l' _ _
    cases sl with
    | cons s0 s2 =>
     refine .cons ?_ (ih s2)
     cases l with
     | own a xs =>
      rcases h with⟨ys,rfl,hm⟩|rfl
      ·
       obtain⟨e,_⟩:=s0
       obtain⟨_,_,_,z⟩:=Paired.mem2 t hm
       exact⟨e,z⟩
      ·
       unfold aK;exact True.intro
     |un=>have e:l'=.un:=h;subst e;unfold aK;exact True.intro
     |bx k ms=>have e:l'=.un:=h;subst e;unfold aK;exact True.intro
     |dic k ms=>have e:l'=.un:=h;subst e;unfold aK;exact True.intro
     | d x =>
      have e:l'=.d x:=h
      subst e
      obtain⟨w,e,r⟩:=s0
      exact⟨w,e,r.pres p⟩
section
variable{P:Program}{w:World}{K:PySem.W.Frag}{mg:Str→Option Value}{base:Heap}
theorem REnv.uns{K:PySem.W.Frag}{Pr H:Hp}{σ:St}{ρ:Ev}(E:REnv K Pr H σ ρ):∀n,REnv K Pr H (σ++List.replicate n none) (ρ++List.replicate n .un):=fun n=>by
 have e:owns (ρ++List.replicate n .un)=owns ρ:=by
  rw[ay]
  have:owns (List.replicate n L.un)=[]:=by
   induction n with
   |zero=>rfl
   |succ n ih=>rw[List.replicate_succ,mw];exact ih
  rw[this,List.append_nil]
 refine⟨E.sub,by rw[e];exact E.nd,fun a h=>E.off a (by rw[e]at h;exact h),Paired.app E.sl ?_⟩
 induction n with
 |zero=>exact .nil
 | succ n ih =>
  rw[List.replicate_succ,List.replicate_succ]
  refine .cons True.intro (ih ?_)
  have:owns (List.replicate n L.un)=[]:=by
   clear ih e
   induction n with
   |zero=>rfl
   |succ n ih=>rw[List.replicate_succ,mw];exact ih
  rw[ay,this,List.append_nil]
theorem aT{x qual:Str}{st:Stmt}{f:Addr}{fd:FuncData}{N ps:List Str}{k:Nat}{fs:FS}(F:Fun K x qual st f fd)(S:ax N ps (ak st))(t:W Fl)
  (hbody:∀(cdv:Value)(A:Around)(outer:List Env)(s:Shared)(H:Hp)(E:XK),Room k (A.deeper (envOfC qual (ak st) s.heap.objs.size f cdv))→PMs (cxOf CX0 P w K mg base N qual (ak st) f cdv A outer s H E).nox (gO st) t)
  (h:∀ls post,ls.length=ps.length→fs ls post→t (ls++List.replicate (N.length-ps.length) .un) (aL ls post)):FnOk P w K mg base CX0 (k+1) f fd ps (spF K ps.length fs):=by
 refine F.ok S (fun vs H Q E q=>q.1) (fun cdv A outer s H vs Q E hr q=>?_)
 obtain⟨hl,Pr,ls,post,E0,hf,q⟩:=q
 refine⟨_,(hbody cdv A outer s H E hr).pss,a5 H ls,ls++List.replicate (N.length-ps.length) .un,aL ls post,?_,h ls post (by rw[← hl];have:=E0.len;simpa using this.symm) hf,fun σ' H' ρ' E' p=>?_,fun _ _ _ _ p=>p.elim,fun _ _ _ _ p=>p.elim,fun v τ H' r ρ' E' p=>?_⟩
 ·
  unfold qN
  rw[hl]
  exact E0.wide.uns _
 ·
  obtain⟨ls',B,p⟩:=p
  exact q .non H' (.d .non) ls' (wU E0 (E'.cons_d .non) B) p
 ·
  obtain⟨ls',B,p⟩:=p
  exact q v H' r ls' (wU E0 E' B) p
end
theorem aD{ρ:Ev}:Back ρ [] []:=.nil
theorem aj{ρ:Ev}{x:D}{a b:List L}(t:Back ρ a b):Back ρ (.d x::a) (.d x::b):=.cons rfl t
theorem iN{ρ:Ev}{p:Addr}{xs ys:List D}{a b:List L}(h:L.own p ys∈ρ)(t:Back ρ a b):Back ρ (.own p xs::a) (.own p ys::b):=.cons (.inl ⟨ys,rfl,h⟩) t
theorem ku{ρ:Ev}{p:Addr}{xs:List D}{a b:List L}(t:Back ρ a b):Back ρ (.own p xs::a) (.un::b):=.cons (.inr rfl) t
section
variable{X:Cx}{e a b c tg:Expr}{es:List Expr}{pos:Pos}{tA:W Bool}{t u:W Fl}
def ja(c:W Bool)(b:W Fl):W Fl:=fun ρ post=>∃J:Nat→Ev→Prop,(∃n,J n ρ)∧∀n ρ,J n ρ→c ρ fun t ρ1=>if t=true then b ρ1 fun f ρ2=>(match f with
 |.nx=>∃m,m<n∧J m ρ2
 |.ct=>∃m,m<n∧J m ρ2
 |.bk=>post .nx ρ2
 |.rt r=>post (.rt r) ρ2)else post .nx ρ1
theorem fT{body:List Stmt}(hp:PassesOwn (model X.prog X.w) X.A X.env X.xe)(hc:PB X c tA)(hb:PMs X body t):PM X (.While c body [] pos) (ja tA t):=by
 refine PM.of (BP hp hc.pt hb.pss) fun σ H Pr ρ post hlen E h=>?_
 obtain⟨J,⟨n0,j0⟩,turn⟩:=h
 refine⟨fun n σ H=>∃ρ,REnv X.K Pr H σ ρ∧J n ρ,⟨n0,ρ,E,j0⟩,fun n σ1 H1 ⟨ρ1,E1,j1⟩=>⟨Pr,ρ1,_,E1,turn n ρ1 j1,fun b H2 ρ2 E2 q=>?_⟩⟩
 cases b with
 |false=>exact⟨ρ2,E2,q⟩
 | true =>
  refine⟨fun σ' H'=>∃ρ' m,REnv X.K Pr H' σ' ρ'∧m<n∧J m ρ',fun σ' H' ⟨ρ',m,E',hm,j⟩=>⟨m,hm,ρ',E',j⟩,Pr,ρ2,_,E2,q,fun σ' H' ρ' E' ⟨m,hm,j⟩=>⟨ρ',m,E',hm,j⟩,fun σ' H' ρ' E' p=>⟨ρ',E',p⟩,fun σ' H' ρ' E' ⟨m,hm,j⟩=>⟨ρ',m,E',hm,j⟩,fun v τ H' r ρ' E' p=>⟨τ,r,ρ',E',p⟩⟩
abbrev Tg:=D→Ev→(Ev→Prop)→Prop
def PT1(X:Cx)(tg:Expr)(g:Tg):Prop:=∃gg:TG,PG X tg gg∧∀v σ H Pr ρ x k,σ.length=X.N.length→REnv X.K Pr H σ ρ→Rep X.K H v x→g x ρ k→gg v σ H fun σ' H'=>H'=H∧σ'.length=X.N.length∧∃ρ',REnv X.K Pr H σ' ρ'∧k ρ'
def aI(i:Nat):Tg:=fun x ρ k=>k (ρ.set i (.d x))
theorem dj{i:Nat}{x:Str}(hN:X.N.Nodup)(hi:X.N[i]?=some x)(hx:Loc X.env.scope x)(hf:X.fn x=true∨X.env.scope.names.lookup x=some .local:=by first|exact .inl rfl|exact .inr rfl|assumption):PT1 X (.Name x pos) (aI i) :=
 ⟨_,qL hN hi hx hf,fun v σ H Pr ρ x k hl E r h=>⟨rfl,by simpa using hl,_,(E.cons_d r).store (by rw[hl];exact(List.getElem?_eq_some_iff.mp hi).1),h⟩⟩
def fU:List Nat→List D→Ev→(Ev→Prop)→Prop
 |[],[],ρ,k=>k ρ
 |i::is,x::xs,ρ,k=>fU is xs (ρ.set i (.d x)) k
 |_,_,_,_=>False
def PTs(X:Cx)(es:List Expr)(is:List Nat):Prop:=∃gg:TGs,PGs X es gg∧es.length=is.length∧∀vs σ H Pr ρ xs k,σ.length=X.N.length→REnv X.K Pr H σ ρ→Reps X.K H vs xs→fU is xs ρ k→gg vs σ H fun σ' H'=>H'=H∧σ'.length=X.N.length∧∃ρ',REnv X.K Pr H σ' ρ'∧k ρ'
theorem nX:PTs X [] []:=⟨_,yV,rfl,fun vs σ H Pr ρ xs k hl E r h=>by
 cases r with
 |nil=>exact⟨rfl,rfl,hl,ρ,E,h⟩
 |cons _ _=>exact h.elim⟩
theorem b9{i:Nat}{is:List Nat}{x:Str}(hN:X.N.Nodup)(hi:X.N[i]?=some x)(hx:Loc X.env.scope x)(hr:PTs X es is)(hf:X.fn x=true∨X.env.scope.names.lookup x=some .local:=by first|exact .inl rfl|exact .inr rfl|assumption)
  (hs:(assignEach (.Name x pos::es) X.env).map (·.2)=assign (.Name x pos) X.env::(assignEach es X.env).map (·.2):=by rfl):PTs X (.Name x pos::es) (i::is):=by
 obtain⟨gg,hg,hlen,q⟩:=hr
 refine⟨_,wJ (qL hN hi hx hf) hg hs,by simp[hlen],fun vs σ H Pr ρ xs k hl E r h=>?_⟩
 cases r with
 |nil=>exact h.elim
 | cons r0 t =>
  refine⟨_,_,rfl,?_⟩
  exact q _ _ H Pr _ _ k (by simpa using hl) ((E.cons_d r0).store (by rw[hl];exact(List.getElem?_eq_some_iff.mp hi).1)) t h
def dU(is:List Nat):Tg:=fun x ρ k=>match x with
 |.tup xs=>fU is xs ρ k
 |_=>False
theorem jE:∀{is:List Nat}{xs:List D}{ρ:Ev}{k:Ev→Prop},fU is xs ρ k→xs.length=is.length
 |[],[],_,_,_=>rfl
 |_::is,_::xs,_,_,h=>by simp[jE (is:=is) (xs:=xs) h]
 |[],_::_,_,_,h=>h.elim
 |_::_,[],_,_,h=>h.elim
theorem tJ{is:List Nat}{k:Nat}(hc:X.calm=true)(h:PTs X es is)(hn:(assignEach es X.env).length=is.length:=by rfl)(hst:(assignEach es X.env).findIdx? (·.1)=none:=by rfl):PT1 X (.Tuple es k pos) (dU is):=by
 obtain⟨gg,hg,hlen,q⟩:=h
 refine⟨_,DM hc hg hn hst,fun v σ H Pr ρ x k hl E r h=>?_⟩
 cases r with
 |tup hs rs=>exact⟨_,_,rfl,hs,by rw[rs.length];exact jE h,q _ σ H Pr ρ _ k hl E rs h⟩
 |_=>exact h.elim
def dW(g:Tg)(b:W Fl):List D→W Fl
 |[]=>fun ρ post=>post .nx ρ
 | x::xs=>fun ρ post=>g x ρ fun ρ1=>b ρ1 fun f ρ2=>match f with
  |.nx=>dW g b xs ρ2 post
  |.ct=>dW g b xs ρ2 post
  |.bk=>post .nx ρ2
  |.rt r=>post (.rt r) ρ2
def gR:D→(List D→Prop)→Prop
 |.lst xs,k=>k xs
 |.tup xs,k=>k xs
 |_,_=>False
def G2(H H':Hp):Prop:=H'=H∨∃p o,H p=none∧H'=upd H p o
theorem REnv.grown{K:PySem.W.Frag}{Pr H H':Hp}{σ:St}{ρ:Ev}(E:REnv K Pr H σ ρ)(g:G2 H H'):REnv K Pr H' σ ρ:=by
 rcases g with rfl|⟨p,o,h,rfl⟩
 ·
  exact E
 ·
  exact E.new h
def vi(K:PySem.W.Frag)(H:Hp)(J:It)(xs:List D):Prop:=∀H',Pres H H' →
 (∀i x,xs[i]?=some x→J.go i H'∧∀v H2,J.yld i H' v H2→G2 H' H2∧Rep K H2 v x)∧J.stop xs.length H'
def EI(X:Cx)(pins:List (Addr×Obj))(σ:St)(tg:Expr)(Pr:Hp)(post:List D→Ev→Prop)(itv:Value)(s2:Shared):Prop :=
 ∃(it:Addr)(fp:List Addr)(tn:Nat→Heap→Prop)(J:It)(H':Hp)(xs:List D)(ρ':Ev),itv=.ref it∧Inv X pins σ H' s2∧Turn X.prog X.w X.K tg J fp it tn∧tn 0 s2.heap∧(∀b∈fp,FpOk X pins H' b)∧REnv X.K Pr H' σ ρ'∧vi X.K H' J xs∧post xs ρ'
def PIL(X:Cx)(tg iter:Expr)(w:W (List D)):Prop :=
 ∀(pins:List (Addr×Obj))(s:Shared)(σ:St)(H Pr:Hp)(ρ:Ev)(post:List D→Ev→Prop),Inv X pins σ H s→REnv X.K Pr H σ ρ→w ρ post →
  wpAny (model X.prog X.w) X.A (eval iter X.env) (fun v s1=>wpAny (model X.prog X.w) X.A (pyIter v) (EI X pins σ tg Pr post) X.xe s1) X.xe s
def wSrc(t:W L):W (List D):=fun ρ post=>t ρ fun r ρ1=>toD r fun x=>gR x fun xs=>post xs ρ1
theorem x8{K:PySem.W.Frag}{H:Hp}{a:Addr}{vs:List V}{xs:List D}(h:SqZ K H a vs)(r:Reps K H vs xs):vi K H (Itl K a) xs:=fun H' p=>by
 have h':=(h.pres p).l
 refine⟨fun i x e=>?_,⟨vs,h',by rw[r.length];exact Nat.le_refl _⟩⟩
 obtain⟨v,ev,rv⟩:=r.get e
 refine⟨⟨vs,v,h',ev⟩,fun w H2 ⟨e1,e2⟩=>?_⟩
 have e3:=e2 vs h'
 rw[ev]at e3
 cases e3
 subst e1
 exact⟨.inl rfl,rv.pres p⟩
theorem zh{K:PySem.W.Frag}{H:Hp}{a:Addr}{vs:List V}{xs:List D}(h:SqT K H a vs)(r:Reps K H vs xs):vi K H (Itt K a) xs:=fun H' p=>by
 have h':=h.pres p
 refine⟨fun i x e=>?_,⟨vs,h',by rw[r.length];exact Nat.le_refl _⟩⟩
 obtain⟨v,ev,rv⟩:=r.get e
 refine⟨⟨vs,v,h',ev⟩,fun w H2 ⟨e1,e2⟩=>?_⟩
 have e3:=e2 vs h'
 rw[ev]at e3
 cases e3
 subst e1
 exact⟨.inl rfl,rv.pres p⟩
theorem aY{t:W L}(h:PL X e t):PIL X tg e (wSrc t):=by
 intro pins s σ H Pr ρ post I E ht
 refine thn (h pins s σ H Pr ρ _ I E ht) fun u s1 q=>?_
 obtain⟨v,H1,x,ρ1,I1,r1,E1,q2⟩:=EL.frz (post:=fun x ρ1=>gR x fun xs=>post xs ρ1) q
 obtain⟨_,e1,p⟩:=E1.head_d
 cases e1
 cases p with
 | lst hz rs =>
  cases r1
  obtain⟨its,rv,pl,hz'⟩:=I1.list hz.l
  refine wpAny_pyIter_list pl.isList ?_
  refine⟨s1.heap.objs.size,[s1.heap.objs.size],_,_,H1,_,ρ1,rfl,I1.kept (t':=s1.toks) fun b o e=>Heap.get?_push_of_some _ e,yW _ _,⟨_,Heap.get?_push_size _ rfl,rfl,rfl⟩,fun b hb=>?_,E1.tail,x8 hz rs,q2⟩
  have e:b=s1.heap.objs.size:=by simpa using hb
  subst e
  exact I1.fpOk (Nat.le_refl _) (I1.hok.fresh (Nat.le_refl _))
 | tup hz rs =>
  cases r1
  obtain⟨its,rv,pl,hz'⟩:=I1.tuple hz
  refine wpAny_pyIter_tuple (show s1.heap.IsTuple _ its.toArray from pl) ?_
  refine⟨s1.heap.objs.size,[s1.heap.objs.size],_,_,H1,_,ρ1,rfl,I1.kept (t':=s1.toks) fun b o e=>Heap.get?_push_of_some _ e,xQ _ _,⟨_,Heap.get?_push_size _ rfl,rfl,rfl⟩,fun b hb=>?_,E1.tail,zh hz rs,q2⟩
  have e:b=s1.heap.objs.size:=by simpa using hb
  subst e
  exact I1.fpOk (Nat.le_refl _) (I1.hok.fresh (Nat.le_refl _))
 |_=>exact q2.elim
def rngD(lo:Int)(n:Nat):List D:=(List.range n).map fun (i:Nat)=>.int (lo+(i:Int))
theorem tK{K:PySem.W.Frag}{H:Hp}(lo:Int)(n:Nat):vi K H (Itr lo n) (rngD lo n):=fun H' p=>by
 refine⟨fun i x e=>?_,?_⟩
 ·
  have hi:i<n:=by
   have:=(List.getElem?_eq_some_iff.mp e).1
   simpa[rngD]using this
  refine⟨hi,fun v H2 ⟨e1,e2⟩=>?_⟩
  subst e1 e2
  have:x=.int (lo+(i:Int)):=by
   unfold rngD at e
   rw[List.getElem?_map,List.getElem?_range hi]at e
   simpa using e.symm
  subst this
  exact⟨.inl rfl,.int _⟩
 ·
  show n≤(rngD lo n).length
  simp[rngD]
def i5:L→(Int→Prop)→Prop
 |.d (.int i),k=>k i
 |_,_=>False
theorem cb{r:L}{k:Int→Prop}(h:i5 r k):∃i,r=.d (.int i)∧k i:=by
 cases r with
 | d x=>cases x with
  |int i=>exact⟨i,rfl,h⟩
  |_=>exact h.elim
 |_=>exact h.elim
def zk(j:Int):Prop:=-(2^62)≤j∧j<2^62
def lH(t:W L):W (List D):=fun ρ post=>t ρ fun r ρ1=>i5 r fun j=>zk j∧post (rngD 0 j.toNat) ρ1
def ED(t u:W L):W (List D):=fun ρ post=>t ρ fun r ρ1=>i5 r fun i=>u ρ1 fun r ρ2=>i5 r fun j=>zk i∧zk j∧post (rngD i (j-i).toNat) ρ2
theorem cx{t:W L}{p pos:Pos} (hg:Gl X "range") (hm:X.mg "range"=none) (ha:PL X a t) (hs:starEach [a] X.env=[(false,eval a X.env)]:=by rfl):PIL X tg (.Call (.Name "range" p) [a] [] pos) (lH t):=by
 intro pins s σ H Pr ρ post I E h
 refine thn (yX (tg:=tg) hg hm (di ha.pe km hs) hs pins s σ H (fun J H1=>∃ρ1 n,J=Itr 0 n∧REnv X.K Pr H1 σ ρ1∧post (rngD 0 n) ρ1) I ?_) fun v s1 q=>thn q fun itv s2 ⟨it,fp,tn,J,H',e,I',T,t0,hf,ρ1,n,eJ,E1,q⟩=>?_
 ·
  refine⟨Pr,ρ,_,E,h,fun v H' r ρ' E' p=>?_⟩
  obtain⟨j,rfl,hj,p⟩:=cb p
  obtain⟨_,e1,p1⟩:=E'.head_d
  cases e1
  cases p1
  exact⟨j,rfl,hj.1,hj.2,ρ',_,rfl,E'.tail,p⟩
 ·
  subst eJ
  exact⟨it,fp,tn,_,H',_,ρ1,e,I',T,t0,hf,E1,tK 0 n,q⟩
theorem Ca{t u:W L}{p pos:Pos} (hg:Gl X "range") (hm:X.mg "range"=none) (ha:PL X a t) (hb:PL X b u) (hs:starEach [a,b] X.env=[(false,eval a X.env),(false,eval b X.env)]:=by rfl) (hs2:starEach [b] X.env=[(false,eval b X.env)]:=by rfl):PIL X tg (.Call (.Name "range" p) [a,b] [] pos) (ED t u):=by
 intro pins s σ H Pr ρ post I E h
 refine thn (yY (tg:=tg) hg hm (di ha.pe (di hb.pe km hs2) (hs.trans (by rw[hs2]))) hs hs2 pins s σ H (fun J H1=>∃ρ1 lo n,J=Itr lo n∧REnv X.K Pr H1 σ ρ1∧post (rngD lo n) ρ1) I ?_) fun v s1 q=>thn q fun itv s2 ⟨it,fp,tn,J,H',e,I',T,t0,hf,ρ1,lo,n,eJ,E1,q⟩=>?_
 ·
  refine⟨Pr,ρ,_,E,h,fun v H' r ρ' E' p=>?_⟩
  obtain⟨i,rfl,p⟩:=cb p
  obtain⟨_,e1,p1⟩:=E'.head_d
  cases e1
  cases p1
  refine⟨Pr,ρ',_,E'.tail,p,fun v H2 r ρ2 E2 p=>?_⟩
  obtain⟨j,rfl,hi,hj,p⟩:=cb p
  obtain⟨_,e1,p1⟩:=E2.head_d
  cases e1
  cases p1
  exact⟨i,j,rfl,⟨hi.1,hi.2,hj.1,hj.2⟩,ρ2,_,_,rfl,E2.tail,p⟩
 ·
  subst eJ
  exact⟨it,fp,tn,_,H',_,ρ1,e,I',T,t0,hf,E1,tK lo n,q⟩
def wFor(s:W (List D))(g:Tg)(b:W Fl):W Fl:=fun ρ post=>s ρ fun xs ρ1=>dW g b xs ρ1 post
theorem dG{iter:Expr}{body:List Stmt}{w:W (List D)}{g:Tg}(hp:PassesOwn (model X.prog X.w) X.A X.env X.xe)(hc:X.calm=true)(hi:PIL X tg iter w)(hg:PT1 X tg g)(hb:PMs X body t)
  (hs:∀x,foldedSetIterable iter X.env x=pure x:=by intro _;rfl):PM X (.For tg iter body [] pos) (wFor w g t):=by
 intro pins s σ H Pr ρ post I E h
 obtain⟨gg,hg,hgg⟩:=hg
 refine wpAny_For (thn (hi pins s σ H Pr ρ _ I E h) fun v s1 h1=>thn h1 fun itv s2 h2=>?_) hs
 obtain⟨it,fp,tn,J,H2,xs,ρ2,e,I2,T,st2,f2,E2,G,w0⟩:=h2
 subst e
 have stat:∀{H':Hp},(∀b∈fp,H' b=none)→∀b∈fp,FpOk X pins H' b:=fun hn b hb=>⟨hn b hb,(f2 b hb).2⟩
 refine codeAny_forLoop_any (fun n s'=>∃i σ' H' ρ',n+i=xs.length∧Inv X pins σ' H' s'∧tn i s'.heap∧(∀b∈fp,H' b=none)∧REnv X.K (a5 H2 ρ2) H' σ' ρ'∧dW g t (xs.drop i) ρ' post) ?_ xs.length ⟨0,σ,H2,ρ2,by omega,I2,st2,fun b hb=>(f2 b hb).1,E2.wide,by simpa using w0⟩
 rintro n s3 ⟨i,σ3,H3,ρ3,hn,I3,st3,fr3,E3,w3⟩
 obtain⟨go,stop⟩:=G H3 (qR E2 E3.sub)
 by_cases hlt:i<xs.length
 ·
  obtain⟨hgo,hy⟩:=go i xs[i] (List.getElem?_eq_getElem hlt)
  rw[List.drop_eq_getElem_cons hlt]at w3
  refine wpAny_passesOwn hp (thn (T.item X rfl rfl rfl hc i pins s3 σ3 H3 X.xe I3 (stat fr3) st3 hgo) fun r s4 ⟨u,hr,h4⟩=>?_)
  subst hr
  refine wpAny_passesOwn hp (thn h4 fun _ s5 ⟨x,H5,I5,r5,y5,st5,fr5⟩=>?_)
  obtain⟨gr,rx⟩:=hy x H5 y5
  have I5':=I5.pinned (stat fr5) (T.obj _ _ st5)
  have E5:=E3.grown gr
  refine wpAny_passesOwn hp (thn (hg _ s5 σ3 H5 x u _ I5' r5 (hgg x σ3 H5 _ ρ3 xs[i] _ I5.len E5 rx w3)) fun _ s6 ⟨σ6,H6,I6,e6,hl6,ρ6,E6,q6⟩=>?_)
  subst e6
  refine wpAny_passesOwn hp (thn (hb _ s6 σ6 _ _ ρ6 _ I6 E6 q6) fun f s7 q7=>?_)
  have again:∀{σ7:St}{H7:Hp}{ρ7:Ev},Inv X (pins++qe fp s5.heap) σ7 H7 s7→REnv X.K (a5 H2 ρ2) H7 σ7 ρ7→dW g t (xs.drop (i+1)) ρ7 post →
    ∃m,m<n∧∃i σ' H' ρ',m+i=xs.length∧Inv X pins σ' H' s7∧tn i s7.heap∧(∀b∈fp,H' b=none)∧REnv X.K (a5 H2 ρ2) H' σ' ρ'∧dW g t (xs.drop i) ρ' post:=fun {σ7 H7 ρ7} I7 E7 n7=>by
   refine⟨n-1,by omega,i+1,σ7,H7,ρ7,by omega,I7.unpinned,T.keep _ _ _ st5 fun b hb o e=>(I7.pin (b,o) (List.mem_append_right _ (List.mem_append_right _ (dR hb e)))).1,fun b hb=>?_,E7,n7⟩
   obtain⟨o,e,d⟩:=T.obj _ _ st5 b hb
   exact(I7.pin (b,o) (List.mem_append_right _ (List.mem_append_right _ (dR hb e)))).2.1
  cases f with
  |next=>obtain⟨σ7,H7,ρ7,I7,E7,n7⟩:=q7;exact again I7 E7 n7
  |cont=>obtain⟨σ7,H7,ρ7,I7,E7,n7⟩:=q7;exact again I7 E7 n7
  |brk=>obtain⟨σ7,H7,ρ7,I7,E7,q7⟩:=q7;exact⟨σ7,H7,ρ7,I7.unpinned,E2.narrow E7,q7⟩
  |ret v=>obtain⟨x7,σ7,H7,r,ρ7,τ,I7,r7,E7,q7⟩:=q7;exact⟨x7,σ7,H7,r,ρ7,τ,I7.unpinned,r7,E2.narrow E7,q7⟩
 ·
  have e:i=xs.length:=by omega
  subst e
  refine wpAny_passesOwn hp (thn (T.done X rfl rfl rfl hc xs.length pins s3 σ3 H3 X.xe I3 (stat fr3) st3 stop) fun r s4 ⟨hr,I4⟩=>?_)
  subst hr
  rw[List.drop_length]at w3
  exact wpAny_execs_nil ⟨σ3,H3,ρ3,I4,E2.narrow E3,w3⟩
end
section
variable{X:Cx}{e a b c:Expr}{pos:Pos}{ta tb:W L}
def bV(i:Int):Prop:=i.natAbs<2^1000000
def bP:Op2:=fun x y k=>match x,y with
 |.int i,.int j=>k (.d (.int (i+j)))
 |.str i,.str j=>i.length+j.length≤sizeLine∧k (.d (.str (i++j)))
 |.lst xs,.lst ys=>xs.length+ys.length≤sizeLine∧∀a,k (.own a (xs++ys))
 |_,_=>False
def jF:Op2:=fun x y k=>match x,y with
 |.int i,.int j=>k (.d (.int (i-j)))
 |_,_=>False
def kv:Op2:=fun x y k=>match x,y with
 |.int i,.int j=>j≠0∧j.natAbs<2^9000∧k (.d (.int (i.fdiv j)))
 |_,_=>False
def eE:Op2:=fun x y k=>match x,y with
 |.int i,.int j=>j≠0∧k (.d (.int (i.fmod j)))
 |_,_=>False
def ya:Op2:=fun x y k=>match x,y with
 |.int i,.int j=>0≤j∧j≤1000000∧i.natAbs<2^64∧k (.d (.int (i^j.toNat)))
 |_,_=>False
def opLt:Op2:=fun x y k=>match x,y with
 |.int i,.int j=>k (.d (.bl (decide (i<j))))
 |_,_=>False
def opLe:Op2:=fun x y k=>match x,y with
 |.int i,.int j=>k (.d (.bl (decide (i≤j))))
 |_,_=>False
def opGt:Op2:=fun x y k=>match x,y with
 |.int i,.int j=>k (.d (.bl (decide (j<i))))
 |_,_=>False
def opGe:Op2:=fun x y k=>match x,y with
 |.int i,.int j=>k (.d (.bl (decide (j≤i))))
 |_,_=>False
theorem zm{i j:Int}(h1:bV i)(h2:bV j):IntMulOk i j:=IntMulOk.of_le (PySem.intBits_le_iff.mpr h1) (PySem.intBits_le_iff.mpr h2) (by decide)
theorem EE:OpR X (binaryOp .Mult) (rI (fun i j=>bV i∧bV j) fun i j=>.int (i*j)):=opI fun _ _ _ _ _ _ _ hc q=>mul_int q (zm hc.1 hc.2)
theorem EF:OpR X (binaryOp .FloorDiv) (rI (fun i j=>j≠0∧j.natAbs<2^9000) fun i j=>.int (i.fdiv j)):=opI fun i j _ _ _ _ _ hc q=>floordiv_int hc.1 q (.inl (PyProof.noPylong_of_log2 ((Nat.log2_lt (by have:=hc.1;omega)).mpr hc.2)))
theorem zp:OpR X (binaryOp .Add) (fun x y H Q=>∃l b xs zs,x=.ref l∧y=.ref b∧SqL X.K H l xs∧SqL X.K H b zs∧xs.length+zs.length≤sizeLine∧∀p,H p=none→Q (.ref p) (upd H p (.lst (xs++zs)))):=by
 intro pins s σ H x y v u Q I rx ry h
 obtain⟨l,b,xs,zs,rfl,rfl,hH,hB,hz,q⟩:=h
 cases rx
 cases ry
 obtain⟨its,r,⟨o,n,e,c,d,f⟩,z⟩:=I.list hH
 obtain⟨its2,r2,⟨o2,n2,e2,c2,d2,f2⟩,z2⟩:=I.list hB
 obtain⟨cl,dd,dt,sl⟩:=o
 obtain⟨cl2,dd2,dt2,sl2⟩:=o2
 simp only at c f c2 f2
 subst c f c2 f2
 have hl:=r.length
 have hl2:=r2.length
 refine concat_meets ⟨_,e,rfl⟩ ⟨_,e2,rfl⟩ noFill_list_add seq_list_add PySem.F.slot_list_add PySem.F.entry_list_add (PySem.F.args_list_add_2 _ _) (list_addW l b its.toArray its2.toArray n n2 dd dd2 sl sl2 (by rw[List.size_toArray,List.size_toArray];omega)) ⟨e,e2,?_⟩
 have ea:its.toArray++its2.toArray=(its++its2).toArray:=by simp
 rw[ea]
 exact⟨.ref _,_,I.lnew (t':=s.toks) (r.append r2) (by rw[List.length_append];omega),rfl,q _ I.fresh⟩
theorem bf:OpD X (binaryOp .Add) bP:=by
 intro pins s σ H Pr ρ x y v u dx dy post I rx ry E px py ho
 cases px with
 | int i =>
  cases py with
  |int j=>exact OpD.of GJ (op:=fun x y k=>∃i j,x=.int i∧y=.int j∧k (.d (.int (i+j)))) (fun σ H Pr ρ x y dx dy post E px py ⟨i,j,e1,e2,h⟩=>by subst e1 e2;cases px;cases py;exact⟨i,j,rfl,rfl,_,E.cons_d (.int _),h⟩) pins s σ H Pr ρ _ _ v u _ _ post I rx ry E (.int i) (.int j) ⟨i,j,rfl,rfl,ho⟩
  |_=>exact ho.elim
 | str i =>
  cases py with
  |str j=>exact OpD.of xT (op:=fun x y k=>∃i j,x=.str i∧y=.str j∧i.length+j.length≤sizeLine∧k (.d (.str (i++j)))) (fun σ H Pr ρ x y dx dy post E px py ⟨i,j,e1,e2,z,h⟩=>by subst e1 e2;cases px;cases py;exact⟨i,j,rfl,rfl,z,_,E.cons_d (.str _),h⟩) pins s σ H Pr ρ _ _ v u _ _ post I rx ry E (.str i) (.str j) ⟨i,j,rfl,rfl,ho.1,ho.2⟩
  |_=>exact ho.elim
 | lst h1 r1 =>
  cases py with
  | lst h2 r2 =>
   refine OpD.of zp (op:=fun x y k=>∃xs ys,x=.lst xs∧y=.lst ys∧xs.length+ys.length≤sizeLine∧∀a,k (.own a (xs++ys))) (fun σ H Pr ρ x y dx dy post E px py ⟨xs,ys,e1,e2,z,h⟩=>?_) pins s σ H Pr ρ _ _ v u _ _ post I rx ry E (.lst h1 r1) (.lst h2 r2) ⟨_,_,rfl,rfl,ho.1,ho.2⟩
   subst e1 e2
   cases px with
   | lst h1 r1 =>
    cases py with
    |lst h2 r2=>exact⟨_,_,_,_,rfl,rfl,h1.l,h2.l,by rw[r1.length,r2.length];exact z,fun p hp=>⟨_,E.cons_own hp (r1.append r2),h p⟩⟩
  |_=>exact ho.elim
 |_=>cases py<;>exact ho.elim
theorem wV{f:Value→Value→Sem Value}{C:Int→Int→Prop}{g:Int→Int→V}{gd:Int→Int→D}(h:OpR X f (rI C g))(hg:∀K H i j,Rep K H (g i j) (gd i j)) :
  OpD X f (fun x y k=>∃i j,x=.int i∧y=.int j∧C i j∧k (.d (gd i j))) :=
 OpD.of h fun σ H Pr ρ x y dx dy post E px py ⟨i,j,e1,e2,z,h⟩=>by subst e1 e2;cases px;cases py;exact⟨i,j,rfl,rfl,z,_,E.cons_d (hg _ _ _ _),h⟩
theorem nY{f:Value→Value→Sem Value}{g:Int→Int→V}{gd:Int→Int→D}(h:OpR X f (rI0 g))(hg:∀K H i j,Rep K H (g i j) (gd i j)) :
  OpD X f (fun x y k=>∃i j,x=.int i∧y=.int j∧k (.d (gd i j))) :=
 OpD.of h fun σ H Pr ρ x y dx dy post E px py ⟨i,j,e1,e2,h⟩=>by subst e1 e2;cases px;cases py;exact⟨i,j,rfl,rfl,_,E.cons_d (hg _ _ _ _),h⟩
theorem gJ:OpD X (binaryOp .Sub) jF:=(nY GK (gd:=fun i j=>.int (i-j)) fun _ _ _ _=>.int _).imp fun x y k h=>by
 unfold jF at h
 split at h
 ·
  exact⟨_,_,rfl,rfl,h⟩
 ·
  exact h.elim
theorem G3:OpD X (binaryOp .Mult) (fun x y k=>∃i j,x=.int i∧y=.int j∧(bV i∧bV j)∧k (.d (.int (i*j)))):=wV EE (gd:=fun i j=>.int (i*j)) fun _ _ _ _=>.int _
def a7:Op2:=fun x y k=>match x,y with
 |.int i,.int j=>bV i∧bV j∧k (.d (.int (i*j)))
 |_,_=>False
theorem aQ:OpD X (binaryOp .Mult) a7:=G3.imp fun x y k h=>by
 unfold a7 at h
 split at h
 ·
  exact⟨_,_,rfl,rfl,⟨h.1,h.2.1⟩,h.2.2⟩
 ·
  exact h.elim
theorem gS:OpD X (binaryOp .FloorDiv) kv:=(wV EF (gd:=fun i j=>.int (i.fdiv j)) fun _ _ _ _=>.int _).imp fun x y k h=>by
 unfold kv at h
 split at h
 ·
  exact⟨_,_,rfl,rfl,⟨h.1,h.2.1⟩,h.2.2⟩
 ·
  exact h.elim
theorem cy:OpD X (binaryOp .Mod) eE:=(wV Eh (gd:=fun i j=>.int (i.fmod j)) fun _ _ _ _=>.int _).imp fun x y k h=>by
 unfold eE at h
 split at h
 ·
  exact⟨_,_,rfl,rfl,h.1,h.2⟩
 ·
  exact h.elim
theorem zq:OpD X (binaryOp .Pow) ya:=(wV GL (gd:=fun i j=>.int (i^j.toNat)) fun _ _ _ _=>.int _).imp fun x y k h=>by
 unfold ya at h
 split at h
 ·
  exact⟨_,_,rfl,rfl,⟨h.1,h.2.1,h.2.2.1⟩,h.2.2.2⟩
 ·
  exact h.elim
theorem qV:OpD X (compareOp .Lt) opLt:=(nY GN (gd:=fun i j=>.bl (decide (i<j))) fun _ _ _ _=>.bl _).imp fun x y k h=>by
 unfold opLt at h
 split at h
 ·
  exact⟨_,_,rfl,rfl,h⟩
 ·
  exact h.elim
theorem G4:OpD X (compareOp .LtE) opLe:=(nY GO (gd:=fun i j=>.bl (decide (i≤j))) fun _ _ _ _=>.bl _).imp fun x y k h=>by
 unfold opLe at h
 split at h
 ·
  exact⟨_,_,rfl,rfl,h⟩
 ·
  exact h.elim
theorem yb:OpD X (compareOp .Gt) opGt:=(nY IF (gd:=fun i j=>.bl (decide (j<i))) fun _ _ _ _=>.bl _).imp fun x y k h=>by
 unfold opGt at h
 split at h
 ·
  exact⟨_,_,rfl,rfl,h⟩
 ·
  exact h.elim
theorem IP:OpD X (compareOp .GtE) opGe:=(nY IG (gd:=fun i j=>.bl (decide (j≤i))) fun _ _ _ _=>.bl _).imp fun x y k h=>by
 unfold opGe at h
 split at h
 ·
  exact⟨_,_,rfl,rfl,h⟩
 ·
  exact h.elim
mutual
def toP:D→PyData
 |.non=>.none
 |.bl b=>.bool b
 |.int i=>.int i
 |.str x=>.str x
 |.tup xs=>.tuple (toPs xs)
 |.lst xs=>.list (toPs xs)
 |.dct _=>.dict []
 |.exc _ _ _=>.dict []
def toPs:List D→List PyData
 |[]=>[]
 |x::xs=>toP x::toPs xs
end
def eqD(x y:D):Bool:=PyData.eqv (toP x) (toP y)
def cO(x:D):Prop:=SeqAt.shaped (toP x)=true
def opEq:Op2:=fun x y k=>cO x∧cO y∧k (.d (.bl (eqD x y)))
def opNe:Op2:=fun x y k=>cO x∧cO y∧k (.d (.bl (!eqD x y)))
mutual
theorem kx{pins:List (Addr×Obj)}{σ:St}{H:Hp}{s:Shared}(I:Inv X pins σ H s):∀(d:D)(x:V)(u:Value),RelV x u→Rep X.K H x d→(toP d).canLay0=true→∃as,Reads s.heap u (toP d) as
 |.non,_,_,rv,r,_=>by cases r;cases rv;exact⟨_,.none⟩
 |.bl b,_,_,rv,r,_=>by cases r;cases rv;exact⟨_,.bool b⟩
 |.int i,_,_,rv,r,_=>by cases r;obtain⟨t,rfl⟩:=rv;exact⟨_,.int i t⟩
 |.str z,_,_,rv,r,_=>by cases r;obtain⟨t,rfl⟩:=rv;exact⟨_,.str z t⟩
 | .tup xs,_,_,rv,r,hc=>by
  cases r with
  | tup h rs =>
   cases rv
   obtain⟨its,vs,⟨o,e,c,n,d⟩,_⟩:=I.tuple h
   obtain⟨as,ra⟩:=jG I xs _ _ vs rs hc
   exact⟨_,.tuple (xs:=toPs xs) e c d (by simpa using ra)⟩
 | .lst xs,_,_,rv,r,hc=>by
  cases r with
  | lst h rs =>
   cases rv
   obtain⟨its,vs,⟨o,n,e,c,_,d⟩,_⟩:=I.list h.l
   obtain⟨as,ra⟩:=jG I xs _ _ vs rs hc
   exact⟨_,.list (xs:=toPs xs) e c d (by simpa using ra)⟩
 |.dct _,_,_,_,_,hc=>nomatch hc
 |.exc _ _ _,_,_,_,_,hc=>nomatch hc
theorem jG{pins:List (Addr×Obj)}{σ:St}{H:Hp}{s:Shared}(I:Inv X pins σ H s):∀(ds:List D)(vs:List V)(us:List Value),Vals vs us→Reps X.K H vs ds→PyData.canLayAll0 (toPs ds)=true→∃as,ReadsAll s.heap us (toPs ds) as
 |[],_,_,rv,r,_=>by cases r;cases rv;exact⟨_,.nil⟩
 | d::ds,_,_,rv,r,hc=>by
  have hc':(toP d).canLay0=true∧PyData.canLayAll0 (toPs ds)=true:=by simpa[toPs,PyData.canLayAll0]using hc
  cases r with
  | cons r0 rs =>
   cases rv with
   | cons v0 vs =>
    obtain⟨as,ra⟩:=kx I d _ _ v0 r0 hc'.1
    obtain⟨bs,rb⟩:=jG I ds _ _ vs rs hc'.2
    exact⟨_,.cons ra rb⟩
end
theorem eY(hu:X.A.units+64<cLine):OpD X (compareOp .Eq) opEq:=by
 intro pins s σ H Pr ρ x y v u dx dy post I rx ry E px py ⟨h1,h2,ho⟩
 obtain⟨as,ra⟩:=kx I dx x v rx px (SeqAt.canLay_of_shaped h1)
 obtain⟨bs,rb⟩:=kx I dy y u ry py (SeqAt.canLay_of_shaped h2)
 exact eq_dataH ra rb h1 h2 hu ⟨.bl _,H,_,I,rfl,E.cons_d (.bl _),ho⟩
theorem pM(hu:X.A.units+64<cLine):OpD X (compareOp .NotEq) opNe:=by
 intro pins s σ H Pr ρ x y v u dx dy post I rx ry E px py ⟨h1,h2,ho⟩
 obtain⟨as,ra⟩:=kx I dx x v rx px (SeqAt.canLay_of_shaped h1)
 obtain⟨bs,rb⟩:=kx I dy y u ry py (SeqAt.canLay_of_shaped h2)
 exact ne_dataH ra rb h1 h2 hu ⟨.bl _,H,_,I,rfl,E.cons_d (.bl _),ho⟩
theorem G5:OpD X (compareOp .Is) (fun x y k=>y=.non∧k (.d (.bl (match x with | .non=>true|_=>false)))):=OpD.of GP fun σ H Pr ρ x y dx dy post E px py ⟨e,h⟩=>by
 subst e
 cases py
 refine⟨rfl,_,E.cons_d (.bl _),?_⟩
 cases px<;>exact h
theorem EG:OpD X (compareOp .IsNot) (fun x y k=>y=.non∧k (.d (.bl (match x with | .non=>false|_=>true)))):=OpD.of Ei fun σ H Pr ρ x y dx dy post E px py ⟨e,h⟩=>by
 subst e
 cases py
 refine⟨rfl,_,E.cons_d (.bl _),?_⟩
 cases px<;>exact h
def opIx:Op2:=fun x y k=>match x,y with
 |.lst xs,.int i=>∃v,atI xs i=some v∧k (.d v)
 |.tup xs,.int i=>∃v,atI xs i=some v∧k (.d v)
 |.str z,.int i=>z.length≤sizeLine∧∃c,atI z.cps.toList i=some c∧k (.d (.str ⟨#[c]⟩))
 |_,_=>False
theorem vj{K:PySem.W.Frag}{H:Hp}{vs:List V}{xs:List D}(r:Reps K H vs xs){i:Int}{x:D}(h:atI xs i=some x):∃v,atI vs i=some v∧Rep K H v x:=by
 unfold atI at h ⊢
 rw[r.length]
 cases q:ixN xs.length i with
 |none=>rw[q]at h;cases h
 | some j =>
  rw[q]at h
  exact r.get h
theorem aq(ha:PL X a ta)(hb:PL X b tb)(hs:nQ b):PL X (.Subscript a b pos) (wBin opIx ta tb):=by
 intro pins s σ H Pr ρ post I E h
 refine Subscript_ (two (R:=fun dx dy ρ2=>opIx dx dy fun r=>post r ρ2) ha hb I E h fun v u s2 x y H2 dx dy ρ2 I2 r1 r2 E2 p1 p2 q=>?_)
 have fin:∀(Q:VK),(∀z H',Q z H'→∃r,REnv X.K Pr H' (some z::σ) (r::ρ2)∧post r ρ2)→∀w s',EP X pins σ Q w s'→EL X pins σ Pr post w s':=fun Q hQ w s' ⟨z,H',I',rz,q⟩=>by
  obtain⟨r,E',p⟩:=hQ z H' q
  exact⟨z,H',r,ρ2,I',rz,E',p⟩
 have Eσ:=E2.tail.tail
 cases p2 with
 | int i =>
  cases p1 with
  | lst hz rs =>
   obtain⟨z,hz',q⟩:=q
   obtain⟨w,hw,rw⟩:=vj rs hz'
   exact thn (vd a b pins s2 σ H2 _ _ v u (fun z H'=>z=w∧H'=H2) I2 r1 r2 ⟨_,_,i,w,rfl,rfl,hz.l,hw,rfl,rfl⟩ (hs _ _)) (fin _ fun z H' ⟨e1,e2⟩=>by subst e1 e2;exact⟨_,Eσ.cons_d rw,q⟩)
  | tup hz rs =>
   obtain⟨z,hz',q⟩:=q
   obtain⟨w,hw,rw⟩:=vj rs hz'
   exact thn (y9 a b pins s2 σ H2 _ _ v u (fun z H'=>z=w∧H'=H2) I2 r1 r2 ⟨_,_,i,w,rfl,rfl,hz,hw,rfl,rfl⟩ (hs _ _)) (fin _ fun z H' ⟨e1,e2⟩=>by subst e1 e2;exact⟨_,Eσ.cons_d rw,q⟩)
  | str z =>
   obtain⟨hz,c,hc,q⟩:=q
   exact thn (GT a b pins s2 σ H2 _ _ v u (fun z H'=>z=.str ⟨#[c]⟩∧H'=H2) I2 r1 r2 ⟨z,i,c,rfl,rfl,hz,hc,rfl,rfl⟩ (hs _ _)) (fin _ fun z H' ⟨e1,e2⟩=>by subst e1 e2;exact⟨_,Eσ.cons_d (.str _),q⟩)
  |_=>exact q.elim
 |_=>cases p1<;>exact q.elim
end
section
variable{X:Cx}{e a b c:Expr}{es:List Expr}{pos p:Pos}{ta:W L}{x:Str}{bs:List (Option Nat)}{t:W (List L)}{id T:String}
abbrev OpN:=List D→(L→Prop)→Prop
def i6(X:Cx)(f:Value)(op:OpN):Prop :=
 ∀(pins:List (Addr×Obj))(s:Shared)(σ:St)(H Pr:Hp)(ρ:Ev)(vs:List V)(us:List Value)(ds:List D)(post:L→Prop),Inv X pins σ H s→Vals vs us→REnv X.K Pr H σ ρ→Reps X.K H vs ds→op ds post →
  wpAny (model X.prog X.w) X.A (call f us) (fun w s'=>∃z H' r,Inv X pins σ H' s'∧RelV z w∧REnv X.K Pr H' (some z::σ) (r::ρ)∧post r) X.xe s
theorem i6.of{f:Value}{r:List V→Hp→VK→Prop}{op:OpN}(h:jB X f r)(q:∀σ H Pr ρ vs ds post,REnv X.K Pr H σ ρ→Reps X.K H vs ds→op ds post→r vs H fun z H'=>∃r,REnv X.K Pr H' (some z::σ) (r::ρ)∧post r):i6 X f op :=
 fun pins s σ H Pr ρ vs us ds post I rv E ps ho=>thn (h pins s σ H vs us _ I rv (q σ H Pr ρ vs ds post E ps ho)) fun w s' ⟨z,H',I',rz,r,E',p⟩=>⟨z,H',r,I',rz,E',p⟩
def aW(op:OpN)(t:W (List L)):W L:=fun ρ post=>t ρ fun ls ρ1=>toDs ls fun ds=>op ds fun r=>post r ρ1
theorem aG(hc:i6 X (.builtin id) op)(hg:Gl X x)(hm:X.mg x=none)(hv:bootBuiltins x=some (.builtin id))(ha:PAL X (e::es) bs t) (hn:x≠"__name__":=by decide) (hdb:(x == ("__debug__" : Str))=false:=by decide)
  (he:starEach (e::es) X.env=(false,eval e X.env)::starEach es X.env:=by rfl) (hpl:(backTo pos (starEach es X.env)).any (·.1)=false:=by rfl):PL X (.Call (.Name x p) (e::es) [] pos) (aW op t):=by
 intro pins s σ H Pr ρ post I E h
 refine wpAny_Call_Name_kw (gH I hg hm hv ?_ hn hdb)
 refine PyProof.Rows.callWith_builtin1 (thn (ha pos pins s σ H Pr ρ _ I E h) fun us s1 ⟨vs,H1,ls,ρ1,I1,r1,hl,hb,E1,_,q1⟩=>?_) he hpl
 obtain⟨ds,rfl,q2⟩:=nV q1
 have hlen:vs.length=ds.length:=by simpa using hl
 exact thn (hc pins s1 σ H1 Pr ρ1 vs us ds _ I1 r1 (E1.drop (by simp[hlen])) (nW hlen E1) q2) fun w s2 ⟨z,H2,r,I2,rz,E2,q⟩=>⟨z,H2,r,ρ1,I2,rz,E2,q⟩
theorem nZ(hc:i6 X (.type T) op)(hg:Gl X x)(hm:X.mg x=none)(hv:bootBuiltins x=some (.type T))(ha:PAL X (e::es) bs t) (hn:x≠"__name__":=by decide) (hdb:(x == ("__debug__" : Str))=false:=by decide)
  (he:starEach (e::es) X.env=(false,eval e X.env)::starEach es X.env:=by rfl) (hpl:(backTo pos (starEach es X.env)).any (·.1)=false:=by rfl):PL X (.Call (.Name x p) (e::es) [] pos) (aW op t):=by
 intro pins s σ H Pr ρ post I E h
 refine wpAny_Call_Name_kw (gH I hg hm hv ?_ hn hdb)
 refine PyProof.Rows.callWith_type1 (thn (ha pos pins s σ H Pr ρ _ I E h) fun us s1 ⟨vs,H1,ls,ρ1,I1,r1,hl,hb,E1,_,q1⟩=>?_) he hpl
 obtain⟨ds,rfl,q2⟩:=nV q1
 have hlen:vs.length=ds.length:=by simpa using hl
 exact thn (hc pins s1 σ H1 Pr ρ1 vs us ds _ I1 r1 (E1.drop (by simp[hlen])) (nW hlen E1) q2) fun w s2 ⟨z,H2,r,I2,rz,E2,q⟩=>⟨z,H2,r,ρ1,I2,rz,E2,q⟩
def bJ:OpN:=fun ds k=>match ds with
 |[.lst xs]=>k (.d (.int xs.length))
 |[.tup xs]=>k (.d (.int xs.length))
 |[.str x]=>x.length≤sizeLine∧k (.d (.int x.length))
 |_=>False
theorem pN{K:PySem.W.Frag}{H:Hp}{vs:List V}{d:D}(r:Reps K H vs [d]):∃v,vs=[v]∧Rep K H v d:=by
 cases r with
 |cons h t=>cases t;exact⟨_,rfl,h⟩
theorem bz:i6 X (.builtin "len") bJ:=i6.of (mv.or tD) fun σ H Pr ρ vs ds post E ps h=>by
 unfold bJ at h
 split at h
 ·
  obtain⟨v,rfl,r⟩:=pN ps
  cases r with
  |lst hz rs=>exact .inl ⟨_,_,rfl,.inl hz.l,_,E.cons_d (.int _),by rw[rs.length];exact h⟩
 ·
  obtain⟨v,rfl,r⟩:=pN ps
  cases r with
  |tup hz rs=>exact .inl ⟨_,_,rfl,.inr hz,_,E.cons_d (.int _),by rw[rs.length];exact h⟩
 ·
  obtain⟨v,rfl,r⟩:=pN ps
  cases r with
  |str z=>exact .inr ⟨_,rfl,h.1,_,E.cons_d (.int _),h.2⟩
 ·
  exact h.elim
def yc:OpN:=fun ds k=>match ds with
 |[.int i]=>k (.d (.int (if i<0 then -i else i)))
 |_=>False
theorem zr:i6 X (.builtin "abs") yc:=i6.of BU fun σ H Pr ρ vs ds post E ps h=>by
 unfold yc at h
 split at h
 ·
  obtain⟨v,rfl,r⟩:=pN ps
  cases r with
  |int i=>exact⟨_,rfl,_,E.cons_d (.int _),h⟩
 ·
  exact h.elim
def zt:OpN:=fun ds k=>match ds with
 |[.int i]=>k (.d (.int i))
 |[.bl b]=>k (.d (.int (if b then 1 else 0)))
 |_=>False
theorem DY:i6 X (.type "int") zt:=i6.of y3 fun σ H Pr ρ vs ds post E ps h=>by
 unfold zt at h
 split at h
 ·
  obtain⟨v,rfl,r⟩:=pN ps
  cases r with
  |int i=>exact .inl ⟨_,rfl,_,E.cons_d (.int _),h⟩
 ·
  obtain⟨v,rfl,r⟩:=pN ps
  cases r with
  |bl i=>exact .inr ⟨_,rfl,_,E.cons_d (.int _),h⟩
 ·
  exact h.elim
def wW:OpN:=fun ds k=>match ds with
 |[.lst xs]=>∀a,k (.own a xs)
 |[.tup xs]=>∀a,k (.own a xs)
 |_=>False
theorem EH:i6 X (.type "list") wW:=i6.of tE fun σ H Pr ρ vs ds post E ps h=>by
 unfold wW at h
 split at h
 ·
  obtain⟨v,rfl,r⟩:=pN ps
  cases r with
  |lst hz rs=>exact⟨_,_,rfl,.inl hz.l,fun l hl=>⟨_,E.cons_own hl rs,h l⟩⟩
 ·
  obtain⟨v,rfl,r⟩:=pN ps
  cases r with
  |tup hz rs=>exact⟨_,_,rfl,.inr hz,fun l hl=>⟨_,E.cons_own hl rs,h l⟩⟩
 ·
  exact h.elim
def tyD:D→Value
 |.non=>.type "NoneType"
 |.bl _=>.type "bool"
 |.int _=>.type "int"
 |.str _=>.type "str"
 |.tup _=>.type "tuple"
 |.lst _=>.type "list"
 |.dct _=>.type "dict"
 |.exc _ _ _=>.none
def TyD(K:PySem.W.Frag)(d:D)(t:Value):Prop:=match d with
 |.exc c _ _=>∃C,t=.ref C∧qh K c C=true
 |d=>t=tyD d
theorem Cb{pins:List (Addr×Obj)}{σ:St}{H:Hp}{s:Shared}{a:Addr}{o:Obj}{u:HO}{C:Addr}{ns:List Str}{vs:List V}(I:Inv X pins σ H s)(h:H a=some (.frz o u))(hc:o.cls=.ref C)(hn:PySem.W.notCls o=true)(hf:XF H o.dict ns vs):∃od,PySem.W.InstAt s.heap a o C od∧∀d,o.dict=some d→∃q,od=some q∧s.heap.get? d=some q:=by
 have e:=(show s.heap.get? a=some o∧_ from I.hok a _ h).1
 rcases hf with⟨_,_,z⟩|⟨d,od,z,h2,_⟩
 ·
  exact⟨none,⟨e,hc,hn,by rw[z];trivial⟩,fun d q=>by rw[z]at q;cases q⟩
 ·
  have e2:=(show s.heap.get? d=some od∧_ from I.hok d _ h2).1
  exact⟨some od,⟨e,hc,hn,by rw[z];exact e2⟩,fun d' q=>by rw[z]at q;cases q;exact⟨od,rfl,e2⟩⟩
theorem Cc{pins:List (Addr×Obj)}{σ:St}{H:Hp}{s:Shared}{x:V}{u c:Value}{d:D}{b:Bool}{Q:Value→Shared→Prop}{A:Around}{E:Value→Shared→Prop}(I:Inv X pins σ H s)(rx:RelV x u)(r:Rep X.K H x d)(e:∀t,TyD X.K d t→PySem.W.kitOne X.K t c=some b)(h:∀tk,Q (.bool b) {s with toks:=tk}) :
  wpAny (model X.prog X.w) A (call (.builtin "isinstance") [u,c]) Q E s:=by
 cases r with
 |non=>cases rx;exact PySem.W.kia_one PySem.W.kitx_none I.kIn True.intro (e _ rfl) (fun z=>nomatch z) h
 |bl y=>cases rx;exact PySem.W.kia_one PySem.W.kitx_bool I.kIn True.intro (e _ rfl) (fun z=>nomatch z) h
 |int i=>obtain⟨t,rfl⟩:=rx;exact PySem.W.kia_one PySem.W.kitx_int I.kIn True.intro (e _ rfl) (fun z=>nomatch z) h
 |str y=>obtain⟨t,rfl⟩:=rx;exact PySem.W.kia_one PySem.W.kitx_str I.kIn True.intro (e _ rfl) (fun z=>nomatch z) h
 | lst hz rs =>
  cases rx
  obtain⟨its,_,⟨o,n,e1,c1,_,_⟩,_⟩:=I.list hz.l
  exact PySem.W.kia_one PySem.W.kitx_list I.kIn ⟨o,e1,c1⟩ (e _ rfl) (fun z=>nomatch z) h
 | tup hz rs =>
  cases rx
  obtain⟨its,_,⟨o,e1,c1,_⟩,_⟩:=I.tuple hz
  exact PySem.W.kia_one PySem.W.kitx_tuple I.kIn ⟨o,e1,c1⟩ (e _ rfl) (fun z=>nomatch z) h
 | @dct a o kvs hz =>
  cases rx
  obtain⟨_,_,_,vs,_,o',es,ep,h1,h2,_⟩:=(show gM X.prog X.w H s.heap a (.frz o (.dK kvs))from I.hok a _ hz)
  exact PySem.W.kia_one PySem.W.kitx_dict I.kIn ⟨o',h1,h2.1⟩ (e _ rfl) (fun z=>nomatch z) h
 | @exc a o u cc C ns vs ds h1 hv hc hn hs hq hf rs =>
  cases rx
  obtain⟨od,Ia,_⟩:=Cb I h1 hc hn hf
  obtain⟨LL,cd,S⟩:=tG hs
  exact PySem.W.kia_one (B3 S) I.kIn ⟨_,_,Ia⟩ (e _ ⟨C,rfl,hs⟩) (fun z=>nomatch z) h
def isTy(T:String):D→Bool
 |.non=>T == "NoneType"
 |.bl _=>T == "bool" ||T == "int"
 |.int _=>T == "int"
 |.str _=>T == "str"
 |.tup _=>T == "tuple"
 |.lst _=>T == "list"
 |.dct _=>T == "dict"
 |.exc _ _ _=>(["ValueError","Exception","BaseException","object"]:List String).contains T
def i7(T:String):D→(L→Prop)→Prop:=fun d k=>k (.d (.bl (isTy T d)))
theorem fB{T:String}{y:Str}{py:Pos}(hT:∀ K d t,TyD K d t→PySem.W.kitOne K t (.type T)=some (isTy T d)) (hg:Gl X "isinstance") (hm:X.mg "isinstance"=none) (hy:Gl X y) (hmy:X.mg y=none) (hby:bootBuiltins y=some (.type T)) (ha:PL X a ta)
  (hny:y≠"__name__":=by decide) (hdy:(y == ("__debug__" : Str))=false:=by decide)
  (h1:starEach [a,.Name y py] X.env=(false,eval a X.env)::starEach [.Name y py] X.env:=by rfl) (h2:starEach [.Name y py] X.env=[(false,eval (.Name y py) X.env)]:=by rfl) (hpl:(backTo pos (starEach [.Name y py] X.env)).any (·.1)=false:=by rfl) :
  PL X (.Call (.Name "isinstance" p) [a,.Name y py] [] pos) (wUn (i7 T) ta):=by
 have cr:jB X (.builtin "isinstance") (fun xs H Q=>∃ x d,xs=[x,.ty T]∧Rep X.K H x d∧Q (.bl (isTy T d)) H):=by
  intro pins s σ H xs us Q I rv h
  obtain⟨x,d,rfl,r,q⟩:=h
  obtain⟨u,w,rfl,r1,r2⟩:=IH rv
  cases r2
  exact Cc I r1 r (hT _ d) fun tk=>⟨.bl _,H,I.tok _,rfl,q⟩
 refine PL.of (wN cr hg hm (by decide +kernel) (di (au ha).pe (di (Eg hy hmy hby (v:=.ty T) rfl hny hdy) km h2) h1) (he:=h1) (hpl:=hpl)) fun σ H Pr ρ post E h=>?_
 refine⟨Pr,ρ,fun r ρ1=>match r with
  |.d x=>i7 T x fun r=>post r ρ1
  |_=>False,E,h,fun v H' r ρ' E' p=>?_⟩
 cases r with
 | d x =>
  obtain⟨_,e1,p1⟩:=E'.head_d
  cases e1
  exact⟨_,x,rfl,p1,_,ρ',E'.tail.cons_d (.bl _),p⟩
 |_=>exact p.elim
end
section
variable{X:Cx}{e a b:Expr}{pos p apos cpos:Pos}{tb te:W L}{x:Str}
theorem REnv.updOwn{K:PySem.W.Frag}{Pr H:Hp}{σ:St}{ρ:Ev}{i:Nat}{l:Addr}{xs ys:List D}{vs:List V}(E:REnv K Pr H σ ρ)(q:ρ[i]?=some (.own l xs))(r:Reps K H vs ys):REnv K Pr (upd H l (.lst vs)) σ (ρ.set i (.own l ys)):=by
 obtain⟨sv,hs,rfl,_⟩:=E.slot q
 have hi:i<ρ.length:=(List.getElem?_eq_some_iff.mp q).1
 have E1:=(E.out q).write r
 have E2:=E1.back (i:=i) (by simp[hi]) hs
 rw[List.set_set]at E2
 exact E2
theorem REnv.ownAt{K:PySem.W.Frag}{Pr H:Hp}{σ:St}{ρ:Ev}{i:Nat}{l:Addr}{xs:List D}(E:REnv K Pr H σ ρ)(q:ρ[i]?=some (.own l xs)):σ[i]?=some (some (.ref l))∧∃vs,H l=some (.lst vs)∧Reps K H vs xs:=by
 obtain⟨sv,hs,rfl,r⟩:=E.slot q
 exact⟨hs,r⟩
def ownV(i:Nat)(ρ:Ev)(k:Addr→List D→Prop):Prop:=match ρ[i]? with
 |some (.own a xs)=>k a xs
 |_=>False
theorem cR{i:Nat}{ρ:Ev}{k:Addr→List D→Prop}(h:ownV i ρ k):∃a xs,ρ[i]?=some (.own a xs)∧k a xs:=by
 unfold ownV at h
 cases q:ρ[i]? with
 |none=>rw[q]at h;exact h.elim
 | some l =>
  rw[q]at h
  cases l with
  |own a xs=>exact⟨a,xs,rfl,h⟩
  |un=>exact h.elim
  |d x=>exact h.elim
  |bx _ _=>exact h.elim
  |dic _ _=>exact h.elim
def wApp(i:Nat)(te:W L):W L:=fun ρ post=>ownV i ρ fun _ _=>te ρ fun r ρ1=>toD r fun y=>ownV i ρ1 fun a xs=>xs.length<sizeLine∧post (.d .non) (ρ1.set i (.own a (xs++[y])))
theorem da(i:Nat)(he:PL X e te)(hN:X.N[i]?=some x:=by rfl)(hv:Vis X.env.scope x:=by first | exact Or.inl rfl | exact Or.inr (Or.inl rfl) | exact Or.inr (Or.inr rfl)) (hd:(x == ("__debug__" : Str))=false:=by decide)
  (hcd:(x == ("__classdict__" : Str))=false:=by decide) (hs1:starEach [e] X.env=[(false,eval e X.env)]:=by rfl) (hbase:attributeBase (.Name x p) "append" X.env (eval (.Name x p) X.env)=eval (.Name x p) X.env:=by rfl)
  (hfew:((backTo cpos (starEach [e] X.env)).all (fun x=>!x.1) && (backToKw cpos (keywordEach [] X.env)).all (fun x=>x.1.isSome)
   && decide (([e]).length+([]:List Keyword).length+(if([]:List Keyword).isEmpty then 0 else 1)<30))=true:=by rfl)
  (hline:(apos.endLine == cpos.line)=true:=by rfl) (hplain:(backTo cpos (starEach ([]:List Expr) X.env)).any (·.1)=false:=by rfl) :
  PL X (.Call (.Attribute (.Name x p) "append" apos) [e] [] cpos) (wApp i te):=by
 refine PL.of (BZ PySem.F.plainAttrs_list PySem.F.slot_list_append PySem.F.type_list_append ko (cN hN hv hd hcd) (di (au he).pe km hs1) (hbase:=hbase) (hfew:=hfew) (hline:=hline) (hs:=hs1) (hplain:=hplain)) fun σ H Pr ρ post E h=>?_
 obtain⟨l,xs0,q0,h⟩:=cR h
 obtain⟨hσ,vs0,hl0,_⟩:=E.ownAt q0
 refine⟨.ref l,hσ,.inl ⟨rfl,vs0,SqL.of hl0⟩,Pr,ρ,fun r ρ1=>match r with
  |.d y=>ownV i ρ1 fun a xs=>xs.length<sizeLine∧post (.d .non) (ρ1.set i (.own a (xs++[y])))
  |_=>False,E,h,fun v H' r ρ' E' pp=>?_⟩
 cases r with
 | d y =>
  obtain⟨l',xs,q,hlen,pp⟩:=cR pp
  obtain⟨hσ',vs,hl,r⟩:=E'.tail.ownAt q
  rw[hσ]at hσ'
  cases hσ'
  obtain⟨_,e1,p1⟩:=E'.head_d
  cases e1
  exact⟨l,vs,v,rfl,rfl,hl,by rw[r.length];exact hlen,_,_,(E'.tail.updOwn q (r.append (.cons p1 .nil))).cons_d .non,pp⟩
 |_=>exact pp.elim
def wIxV(i:Nat)(tb:W L):W L:=fun ρ post=>ownV i ρ fun _ _=>tb ρ fun r ρ1=>i5 r fun j=>ownV i ρ1 fun _ xs=>∃y,atI xs j=some y∧post (.d y) ρ1
theorem gT(i:Nat)(hb:PL X b tb)(hs:nQ b)(hN:X.N[i]?=some x:=by rfl)(hv:Vis X.env.scope x:=by first | exact Or.inl rfl | exact Or.inr (Or.inl rfl) | exact Or.inr (Or.inr rfl)) (hd:(x == ("__debug__" : Str))=false:=by decide)
  (hcd:(x == ("__classdict__" : Str))=false:=by decide):PL X (.Subscript (.Name x p) b pos) (wIxV i tb):=by
 refine PL.of (BX vd (cN hN hv hd hcd) hb.pe hs) fun σ H Pr ρ post E h=>?_
 obtain⟨l,xs0,q0,h⟩:=cR h
 obtain⟨hσ,vs0,hl0,_⟩:=E.ownAt q0
 refine⟨.ref l,hσ,Pr,ρ,_,E,h,fun v H' r ρ' E' pp=>?_⟩
 obtain⟨j,rfl,pp⟩:=cb pp
 obtain⟨l',xs,q,y,hy,pp⟩:=cR pp
 obtain⟨hσ',vs,hl,r⟩:=E'.tail.ownAt q
 rw[hσ]at hσ'
 cases hσ'
 obtain⟨_,e1,p1⟩:=E'.head_d
 cases e1
 cases p1
 obtain⟨w,hw,rw⟩:=vj r hy
 exact⟨l,vs,j,w,rfl,rfl,SqL.of hl,hw,_,ρ',E'.tail.cons_d rw,pp⟩
def zu(i:Nat):W L:=fun ρ post=>ownV i ρ fun _ xs=>post (.d (.int xs.length)) ρ
theorem vk(i:Nat) (hg:Gl X "len") (hm:X.mg "len"=none) (hN:X.N[i]?=some x:=by rfl) (hv:Vis X.env.scope x:=by first | exact Or.inl rfl | exact Or.inr (Or.inl rfl) | exact Or.inr (Or.inr rfl)) (hd:(x == ("__debug__" : Str))=false:=by decide)
  (hcd:(x == ("__classdict__" : Str))=false:=by decide) (h1:starEach [.Name x p] X.env=[(false,eval (.Name x p) X.env)]:=by rfl) (hpl:(backTo pos (starEach ([]:List Expr) X.env)).any (·.1)=false:=by rfl) :
  PL X (.Call (.Name "len" apos) [.Name x p] [] pos) (zu i):=by
 refine PL.of (wN mv hg hm PySem.boot_len (di (cN hN hv hd hcd) km h1) (he:=h1) (hpl:=hpl)) fun σ H Pr ρ post E h=>?_
 obtain⟨l,xs0,q0,h⟩:=cR h
 obtain⟨hσ,vs0,hl0,r⟩:=E.ownAt q0
 exact⟨.ref l,hσ,l,vs0,rfl,.inl (SqL.of hl0),_,ρ,E.cons_d (.int _),by rw[r.length];exact h⟩
def vm(i:Nat)(tb te:W L):W Fl:=fun ρ post=>te ρ fun r ρ1=>toD r fun y=>ownV i ρ1 fun _ _=>tb ρ1 fun r ρ2=>i5 r fun j=>ownV i ρ2 fun a xs=>∃k,ixN xs.length j=some k∧post .nx (ρ2.set i (.own a (xs.set k y)))
theorem n4(i:Nat){b:Expr}{ps:Pos}(hb:PL X b tb)(he:PL X e te)(hN:X.N[i]?=some x:=by rfl)(hv:Vis X.env.scope x:=by first | exact Or.inl rfl | exact Or.inr (Or.inl rfl) | exact Or.inr (Or.inr rfl)) (hd:(x == ("__debug__" : Str))=false:=by decide)
  (hcd:(x == ("__classdict__" : Str))=false:=by decide)
  (ha:∀v,assign (.Subscript (.Name x p) b ps) X.env v=(do
   let ov ← holding [v] (eval (.Name x p) X.env)
   let iv ← holding [v,ov] (eval b X.env)
   standAt ps
   holding [v,ov,iv] (setItem ov iv v)
   release [v,ov,iv] []):=by intro _;rfl)
  (hs:swapsWithSole [.Subscript (.Name x p) b ps] e pos.line X.env=pure false:=by rfl) (hw:swappedStores [.Subscript (.Name x p) b ps] e X.env=pure none:=by rfl)
  (h1:(assignEach [.Subscript (.Name x p) b ps] X.env).map (·.2)=[assign (.Subscript (.Name x p) b ps) X.env]:=by rfl):PM X (.Assign [.Subscript (.Name x p) b ps] e pos) (vm i tb te):=by
 refine PM.of (GE (au he).pe (GD (cN hN hv hd hcd) hb.pe BY ha) hs hw h1) fun σ H Pr ρ post hlen E h=>?_
 refine⟨Pr,ρ,fun r ρ1=>match r with
  |.d y=>ownV i ρ1 fun _ _=>tb ρ1 fun r ρ2=>i5 r fun j=>ownV i ρ2 fun a xs=>∃k,ixN xs.length j=some k∧post .nx (ρ2.set i (.own a (xs.set k y)))
  |_=>False,E,h,fun v H' r ρ' E' pp=>?_⟩
 cases r with
 | d y =>
  obtain⟨l,xs0,q0,pp⟩:=cR pp
  obtain⟨hσ,vs0,hl0,_⟩:=E'.tail.ownAt q0
  refine⟨.ref l,hσ,a5 H' ρ',ρ',_,E'.tail.wide,pp,fun w H2 r2 ρ2 E2 pp=>?_⟩
  obtain⟨j,rfl,pp⟩:=cb pp
  obtain⟨l',xs,q,k,hk,pp⟩:=cR pp
  obtain⟨_,e1,p1⟩:=E2.head_d
  cases e1
  cases p1
  have E3:REnv X.K Pr H2 (some (.int j)::some v::σ) (.d (.int j)::.d y::ρ2):=REnv.step (τ:=[some v]) (lam:=[.d y]) (w:=[some (.int j)]) (μ:=[.d (.int j)]) E' rfl E2 rfl
  obtain⟨_,e1,p1⟩:=E3.tail.head_d
  cases e1
  obtain⟨hσ',vs,hl,r⟩:=E3.tail.tail.ownAt q
  rw[hσ]at hσ'
  cases hσ'
  refine⟨l,vs,j,k,rfl,rfl,hl,by rw[r.length];exact hk,_,E3.tail.tail.updOwn q (r.set p1 k),pp⟩
 |_=>exact pp.elim
def yd:Option (W L)→Ev→(Option Int→Ev→Prop)→Prop
 |none=>fun ρ k=>k none ρ
 |some t=>fun ρ k=>t ρ fun r ρ1=>i5 r fun i=>k (some i) ρ1
def cutD{α:Type}(xs:List α)(lo hi:Option Int):List α:=(xs.drop (HT.sIx xs.length 0 lo)).take (HT.sIx xs.length xs.length hi-HT.sIx xs.length 0 lo)
end
def aF:List Nat→Ev→Ev
 |[],ρ=>ρ
 |j::r,ρ=>(aF r ρ).set j .un
def bg(fi:List Nat)(ρ:Ev):Ev:=fi.map fun j=>(ρ[j]?).getD .un
def aV(fi:List Nat)(σ:St):St:=fi.map fun j=>(σ[j]?).getD none
def cz:List Nat→Ev→Ev→Ev
 |j::r,c::cs,ρ=>cz r cs (ρ.set j c)
 |_,_,ρ=>ρ
theorem bM:∀(fi:List Nat)(ρ:Ev),(aF fi ρ).length=ρ.length
 |[],_=>rfl
 |j::r,ρ=>by unfold aF;rw[List.length_set,bM r ρ]
theorem tM:∀(fi:List Nat)(ρ:Ev)(j:Nat),j∉fi→(aF fi ρ)[j]?=ρ[j]?
 |[],_,_,_=>rfl
 | i::r,ρ,j,h=>by
  unfold aF
  rw[List.getElem?_set_ne (fun e=>h (by simp[e])),tM r ρ j fun e=>h (List.mem_cons_of_mem _ e)]
theorem qW:∀(fi:List Nat)(ρ:Ev)(j:Nat),j∈fi→j<ρ.length→(aF fi ρ)[j]?=some .un
 | i::r,ρ,j,h,hl=>by
  unfold aF
  by_cases e:i=j
  ·
   subst e
   rw[List.getElem?_set_self (by rw[bM];exact hl)]
  ·
   rw[List.getElem?_set_ne e]
   exact qW r ρ j ((List.mem_cons.mp h).resolve_left fun z=>e z.symm) hl
section
variable{K:PySem.W.Frag}{Pr H:Hp}{σ:St}{ρ:Ev}
theorem REnv.takeAt(E:REnv K Pr H σ ρ){i:Nat}{l:L}{s:Option V}(h:ρ[i]?=some l)(hs:σ[i]?=some s):REnv K Pr H (s::σ) (l::ρ.set i .un):=E.outL h hs
theorem REnv.takes(E:REnv K Pr H σ ρ):∀(fi:List Nat),fi.Nodup→(∀j∈fi,j<ρ.length)→REnv K Pr H (aV fi σ++σ) (bg fi ρ++aF fi ρ)
 |[],_,_=>E
 | j::r,nd,hl=>by
  have ih:=E.takes r (List.nodup_cons.mp nd).2 fun i hi=>hl i (List.mem_cons_of_mem _ hi)
  have hj:j<ρ.length:=hl j List.mem_cons_self
  have hjs:j<σ.length:=by rw[E.len];exact hj
  have e1:(bg r ρ++aF r ρ)[r.length+j]?=some ρ[j]:=by
   rw[List.getElem?_append_right (by simp[bg])]
   simp only[bg,List.length_map,Nat.add_sub_cancel_left]
   rw[tM r ρ j (List.nodup_cons.mp nd).1]
   exact List.getElem?_eq_getElem hj
  have e2:(aV r σ++σ)[r.length+j]?=some σ[j]:=by
   rw[List.getElem?_append_right (by simp[aV])]
   simp only[aV,List.length_map,Nat.add_sub_cancel_left]
   exact List.getElem?_eq_getElem hjs
  have z:=ih.takeAt e1 e2
  rw[List.set_append_right _ _ (by simp[bg])]at z
  simp only[bg,List.length_map,Nat.add_sub_cancel_left]at z
  have c1:aV (j::r) σ=σ[j]::aV r σ:=by simp[aV,hjs]
  have c2:bg (j::r) ρ=ρ[j]::bg r ρ:=by simp[bg,hj]
  rw[c1,c2]
  exact z
theorem REnv.backs:∀(fi:List Nat){cs ρ:Ev},fi.Nodup→cs.length=fi.length→(∀j∈fi,ρ[j]?=some .un)→(∀j∈fi,j<σ.length)→REnv K Pr H (aV fi σ++σ) (cs++ρ)→REnv K Pr H σ (cz fi cs ρ)
 |[],[],ρ,_,_,_,_,E=>E
 | j::r,c::cs,ρ,nd,hl,hu,hs,E=>by
  have hjs:j<σ.length:=hs j List.mem_cons_self
  have hj:=hu j List.mem_cons_self
  have c1:aV (j::r) σ=σ[j]::aV r σ:=by simp[aV,hjs]
  rw[c1]at E
  have hlr:cs.length=r.length:=by simpa using hl
  have z:=REnv.back (σ:=aV r σ++σ) (ρ:=cs++ρ) (l:=c) E (i:=r.length+j) (by
   rw[List.getElem?_append_right (by omega),hlr,Nat.add_sub_cancel_left];exact hj) (by
   rw[List.getElem?_append_right (by simp[aV])]
   simp only[aV,List.length_map,Nat.add_sub_cancel_left]
   exact List.getElem?_eq_getElem hjs)
  rw[List.set_append_right _ _ (by omega),hlr,Nat.add_sub_cancel_left]at z
  exact REnv.backs r (List.nodup_cons.mp nd).2 hlr (fun i hi=>by
   rw[List.getElem?_set_ne (fun e=>(List.nodup_cons.mp nd).1 (by rw[e];exact hi))];exact hu i (List.mem_cons_of_mem _ hi)) (fun i hi=>hs i (List.mem_cons_of_mem _ hi)) z
 |[],_::_,_,_,hl,_,_,_=>by simp at hl
 |_::_,[],_,_,hl,_,_,_=>by simp at hl
end
def clOf(cells:List (Str×Addr)):List (Str×NameKind)→List (Str×Addr)→List (Str×Addr)
 |[],acc=>acc
 |(n,k)::r,acc=>clOf cells r (if k == .free then(match cells.lookup n with|some c=>(n,c)::acc|none=>acc)else acc)
theorem lI{env:Env}:∀(names:List (Str×NameKind))(acc:List (Str×Addr)),(∀x∈names,x.2=.free→∃c,env.cells.lookup x.1=some c) →
  (forIn names acc fun (x:Str×NameKind) (cs:List (Str×Addr))=>(if x.2 == .free then do let c ← cellOf env x.1;pure (ForInStep.yield ((x.1,c)::cs))else pure (ForInStep.yield cs):Sem (ForInStep (List (Str×Addr)))))=pure (clOf env.cells names acc)
 |[],acc,_=>rfl
 | (n,k)::r,acc,h=>by
  rw[List.forIn_cons]
  by_cases hk:(k == NameKind.free)=true
  ·
   obtain⟨c,hc⟩:=h (n,k) List.mem_cons_self (by simpa using hk)
   have e:cellOf env n=pure c:=by unfold cellOf;rw[show env.cells.lookup n=some c from hc]
   simp only[hk,if_true,e,pure_bind,clOf,hc]
   exact lI r _ fun x hx=>h x (List.mem_cons_of_mem _ hx)
  ·
   simp only[hk,clOf,if_false,pure_bind]
   exact lI r _ fun x hx=>h x (List.mem_cons_of_mem _ hx)
theorem ky{scope:Scope}{env:Env}(h:∀x∈scope.names,x.2=.free→∃c,env.cells.lookup x.1=some c):closureFor scope env=pure (clOf env.cells scope.names []):=by
 have:=lI (env:=env) scope.names [] h
 unfold closureFor
 simp only[bind_pure_comp]at this ⊢
 rw[this]
 rfl
theorem qX{cells:List (Str×Addr)}:∀(names:List (Str×NameKind))(acc:List (Str×Addr)),(∀x c,acc.lookup x=some c→cells.lookup x=some c)→∀x c,(clOf cells names acc).lookup x=some c→cells.lookup x=some c
 |[],acc,h,x,c,e=>h x c e
 | (n,k)::r,acc,h,x,c,e=>by
  unfold clOf at e
  refine qX r _ (fun y d ey=>?_) x c e
  split at ey
  ·
   split at ey
   ·
    rename_i q
    rw[List.lookup_cons]at ey
    split at ey
    ·
     rename_i e2
     have:y=n:=by simpa using e2
     cases ey
     rw[this];exact q
    ·
     exact h y d ey
   ·
    exact h y d ey
  ·
   exact h y d ey
theorem m7{n:Str}{c:Addr}{acc:List (Str×Addr)}{x:Str}(h:∃d,acc.lookup x=some d):∃d,((n,c)::acc).lookup x=some d:=by
 rw[List.lookup_cons]
 split
 ·
  exact⟨_,rfl⟩
 ·
  exact h
theorem kz{cells:List (Str×Addr)}:∀(names:List (Str×NameKind))(acc:List (Str×Addr))(x:Str),((∃d,acc.lookup x=some d)∨((x,NameKind.free)∈names∧∃c,cells.lookup x=some c))→∃d,(clOf cells names acc).lookup x=some d
 | [],acc,x,h=>by
  rcases h with h|⟨h,_⟩
  ·
   exact h
  ·
   simp at h
 | (n,k)::r,acc,x,h=>by
  unfold clOf
  refine kz r _ x ?_
  rcases h with h|⟨hm,c,hc⟩
  ·
   left
   split
   ·
    split
    ·
     exact m7 h
    ·
     exact h
   ·
    exact h
  ·
   rcases List.mem_cons.mp hm with e|hm
   ·
    cases e
    left
    simp only[hc,beq_self_eq_true,if_true]
    exact⟨c,by simp[List.lookup_cons]⟩
   ·
    exact .inr ⟨hm,c,hc⟩
def b7(X:Cx)(scope:Scope)(cl:List (Str×Addr))(Nb:List Str)(s₀:Shared)(H₀:Hp)(fp:List Addr):Cx :=
 {X with N:=Nb,s₀:=s₀,H₀:=H₀,env:=compEnvC scope cl s₀.heap.objs.size X.env,outer:=X.stack,stack:=X.stack,ex:=fp,fn:=fun _=>false,pn:=[],xe:=fun _ _=>False}
theorem iO{α β:Type}{F:α→β→Prop}:∀{a:List α}{b:List β},Paired F a b↔a.length=b.length∧∀p∈a.zip b,F p.1 p.2
 |[],[]=>⟨fun _=>⟨rfl,fun _ h=>by simp at h⟩,fun _=>.nil⟩
 |[],_::_=>⟨(fun h=>nomatch h),fun h=>by simp at h⟩
 |_::_,[]=>⟨(fun h=>nomatch h),fun h=>by simp at h⟩
 | x::a,y::b=>by
  constructor
  ·
   intro h
   cases h with
   | cons r t =>
    obtain⟨h1,h2⟩:=iO.mp t
    exact⟨by simp[h1],fun p hp=>by
     rw[List.zip_cons_cons]at hp
     rcases List.mem_cons.mp hp with rfl|hp
     ·
      exact r
     ·
      exact h2 p hp⟩
  ·
   rintro⟨hl,h⟩
   exact .cons (h (x,y) (by simp)) (iO.mpr ⟨by simpa using hl,fun p hp=>h p (by rw[List.zip_cons_cons];exact List.mem_cons_of_mem _ hp)⟩)
theorem qY:∀{σ:St}{ρ:Ev},σ.length=ρ.length→(σ.zip ρ).map (·.2)=ρ
 |[],[],_=>rfl
 | _::σ,l::ρ,h=>by
  have ih:=qY (σ:=σ) (ρ:=ρ) (by simpa using h)
  rw[List.zip_cons_cons,List.map_cons,ih]
 |[],_::_,h=>by simp at h
 |_::_,[],h=>by simp at h
theorem REnv.rearr{K:PySem.W.Frag}{Pr H:Hp}{σ σ2:St}{ρ ρ2:Ev}(E:REnv K Pr H σ ρ)(hl:σ2.length=ρ2.length)(extra:List (Option V×L))(h:(σ.zip ρ).Perm (σ2.zip ρ2++extra)):REnv K Pr H σ2 ρ2:=by
 have pm:(owns ρ).Perm (owns ρ2++owns (extra.map (·.2))):=by
  have q:=kr (h.map (·.2))
  rw[List.map_append,qY E.len,qY hl,ay]at q
  exact q
 refine⟨E.sub,(List.nodup_append.mp (pm.nodup_iff.mp E.nd)).1,fun a ha=>E.off a (pm.mem_iff.mpr (List.mem_append_left _ ha)),iO.mpr ⟨hl,fun p hp=>?_⟩⟩
 exact(iO.mp E.sl).2 p (h.mem_iff.mpr (List.mem_append_left _ hp))
theorem kA{fi:List Nat}{σ τ:St}(h:∀j∈fi,j<σ.length):aV fi (σ++τ)=aV fi σ:=by
 unfold aV
 refine List.map_congr_left fun j hj=>?_
 rw[List.getElem?_append_left (h j hj)]
theorem qk{fi:List Nat}{σ τ:Ev}(h:∀j∈fi,j<σ.length):bg fi (σ++τ)=bg fi σ:=by
 unfold bg
 refine List.map_congr_left fun j hj=>?_
 rw[List.getElem?_append_left (h j hj)]
theorem n5{τ:Ev}:∀{fi:List Nat}{ρ:Ev},(∀j∈fi,j<ρ.length)→aF fi (ρ++τ)=aF fi ρ++τ
 |[],_,_=>rfl
 | j::r,ρ,h=>by
  unfold aF
  rw[n5 fun i hi=>h i (List.mem_cons_of_mem _ hi),List.set_append_left _ _ (by rw[bM];exact h j List.mem_cons_self)]
theorem lJ{τ:Ev}:∀{fi:List Nat}{cs ρ:Ev},(∀j∈fi,j<ρ.length)→cz fi cs (ρ++τ)=cz fi cs ρ++τ
 |[],[],_,_=>rfl
 |[],_::_,_,_=>rfl
 |_::_,[],_,_=>rfl
 | j::r,c::cs,ρ,h=>by
  unfold cz
  rw[List.set_append_left _ _ (h j List.mem_cons_self)]
  exact lJ fun i hi=>by rw[List.length_set];exact h i (List.mem_cons_of_mem _ hi)
theorem cm{env:Env}:∀{names:List (Str×NameKind)}{x:Str},names.lookup x=some .free →
  (names.map fun (n,k)=>if(k == NameKind.free && env.scope.kind == .function && env.kindOf n == some .cell)then(n,NameKind.cell)else(n,k)).lookup x=some .cell ∨
  (names.map fun (n,k)=>if(k == NameKind.free && env.scope.kind == .function && env.kindOf n == some .cell)then(n,NameKind.cell)else(n,k)).lookup x=some .free
 |[],_,h=>by simp at h
 | (n,k)::r,x,h=>by
  have ih:=@cm env r x
  rw[List.map_cons]
  cases hx:x == n with
  | true =>
   simp only[List.lookup_cons,hx]at h
   cases h
   dsimp only
   by_cases hc:(NameKind.free == NameKind.free && env.scope.kind == .function && env.kindOf n == some .cell)=true
   ·
    left;rw[if_pos hc];simp[List.lookup_cons,hx]
   ·
    right;rw[if_neg hc];simp[List.lookup_cons,hx]
  | false =>
   simp only[List.lookup_cons,hx]at h
   dsimp only
   by_cases hc:(k == NameKind.free && env.scope.kind == .function && env.kindOf n == some .cell)=true
   ·
    rw[if_pos hc];simp only[List.lookup_cons,hx];exact ih h
   ·
    rw[if_neg hc];simp only[List.lookup_cons,hx];exact ih h
theorem cS{env:Env}:∀{names:List (Str×NameKind)}{x:Str}{k:NameKind},(∀y∈names,y.2≠.cell)→(k=.cell∨k=.free) →
  (names.map fun (n,k)=>if(k == NameKind.free && env.scope.kind == .function && env.kindOf n == some .cell)then(n,NameKind.cell)else(n,k)).lookup x=some k→(x,NameKind.free)∈names
 |[],_,_,_,_,h=>by simp at h
 | (n,k0)::r,x,k,hc,hk,h=>by
  rw[List.map_cons]at h
  dsimp only at h
  by_cases q:(k0 == NameKind.free && env.scope.kind == .function && env.kindOf n == some .cell)=true
  ·
   rw[if_pos q,List.lookup_cons]at h
   have e0:k0=.free:=by
    have:=(Bool.and_eq_true_iff.mp (Bool.and_eq_true_iff.mp q).1).1
    simpa using this
   split at h
   ·
    rename_i e
    have:x=n:=by simpa using e
    subst this e0
    exact List.mem_cons_self
   ·
    exact List.mem_cons_of_mem _ (cS (fun y hy=>hc y (List.mem_cons_of_mem _ hy)) hk h)
  ·
   rw[if_neg q,List.lookup_cons]at h
   split at h
   ·
    rename_i e
    have:x=n:=by simpa using e
    subst this
    have e1:k0=k:=by simpa using h
    subst e1
    rcases hk with z|z
    ·
     exact absurd z (hc (x,k0) List.mem_cons_self)
    ·
     subst z;exact List.mem_cons_self
   ·
    exact List.mem_cons_of_mem _ (cS (fun y hy=>hc y (List.mem_cons_of_mem _ hy)) hk h)
section
variable{prog:Program}{w:World}{A:Around}{R:Result→Shared→Prop}
theorem tN{elt target iter:Expr}{ifs:List Expr}{scope:Scope}{pos:Pos}{it acc:Value}{env:Env}(I:Nat→Shared→Prop)
  (turn:∀n s,I n s→wpAny (model prog w) A (pyNext it) (fun r s₁=>match r with
   |none=>R (.ok .next) s₁
   | some v=>wpAny (model prog w) A (letOwnedTupleGo target it v) (fun _ s₀=>wpAny (model prog w) A (assign target env v) (fun _ s₂ =>
     wpAny (model prog w) A (forIn ifs true fun c r=>if r=true then do let ok ← isTrue c env (eval c env);pure (ForInStep.yield ok)else pure (ForInStep.yield r)) (fun ok s₃ =>
      if ok=true then wpAny (model prog w) A (eval elt env) (fun x s₄ =>
       wpAny (model prog w) A (call (.builtin "list.append") [acc,x]) (fun _ s₅=>∃ m,m < n∧I m s₅) (fun _ _=>False) s₄) (fun _ _=>False) s₃
      else ∃m,m<n∧I m s₃) (fun _ _=>False) s₂) (fun _ _=>False) s₀) (fun _ _=>False) s₁) (fun _ _=>False) s)
  (n:Nat) {s:Shared} (h:I n s) :
  codeAny (model prog w) A (.compLoop (.ListComp elt [⟨target,iter,ifs,0⟩] scope pos) 0 it acc env) R s:=by
 refine codeAny_loop rfl I (fun n s hI=>?_) n h
 show wpAny _ A ((compTurn (.ListComp elt [⟨target,iter,ifs,0⟩] scope pos) 0 it acc env).onRaise (fun x=>do noteFrame x env;theTreesLotGoes x)) _ _ s
 refine wpAny_noted ?_
 rw[compTurn_list]
 have fe:∀{α:Type}{t:Sem α}{Q:α→Shared→Prop}{E:Value→Shared→Prop}{s:Shared},wpAny (model prog w) A t Q (fun _ _=>False) s→wpAny (model prog w) A t Q E s:=fun h=>wpAny_mono h (fun _ _ q=>q) fun _ _ z=>z.elim
 refine wpAny_bind (wpAny_standAt (wpAny_bind (wpAny_mono (turn n s hI) (fun r s₁ h₁=>?_) fun _ _ h'=>h'.elim)))
 cases r with
 |none=>exact wpAny_pure h₁
 | some v =>
  refine wpAny_bind (wpAny_mono h₁ (fun _ s₀ h₀=>?_) fun _ _ z=>z.elim)
  refine wpAny_bind (wpAny_mono h₀ (fun _ s₂ h₂=>wpAny_bind (wpAny_mono h₂ (fun ok s₃ h₃=>?_) fun _ _ h'=>h'.elim)) fun _ _ h'=>h'.elim)
  cases ok with
  |false=>exact wpAny_pure ⟨rfl,h₃⟩
  | true =>
   exact wpAny_bind (wpAny_bind (wpAny_mono h₃ (fun x s₄ h₄=>wpAny_bind (wpAny_mono h₄ (fun _ s₅ h₅=>wpAny_pure (wpAny_pure ⟨rfl,h₅⟩)) fun _ _ h'=>h'.elim)) fun _ _ h'=>h'.elim))
end
def PTc(X:Cx)(tg:Expr)(n:Nat)(g:Tg):Prop:=∃gg:TG,PG X tg gg∧∀v σ H Pr ρ x k,σ.length=X.N.length→REnv X.K Pr H σ ρ→Rep X.K H v x→g x ρ k→gg v σ H fun σ' H'=>H'=H∧σ'.drop n=σ.drop n∧∃ρ',REnv X.K Pr H σ' ρ'∧k ρ'
theorem a9{X:Cx}{i n:Nat}{x:Str}{pos:Pos}(hn:i<n)(hN:X.N.Nodup)(hi:X.N[i]?=some x)(hx:Loc X.env.scope x)(hf:X.fn x=true∨X.env.scope.names.lookup x=some .local:=by first|exact .inl rfl|exact .inr rfl|assumption):PTc X (.Name x pos) n (aI i) :=
 ⟨_,qL hN hi hx hf,fun v σ H Pr ρ x k hl E r h=>⟨rfl,by rw[List.drop_set_of_lt hn],_,(E.cons_d r).store (by rw[hl];exact(List.getElem?_eq_some_iff.mp hi).1),h⟩⟩
def PIf(X:Cx)(ifs:List Expr)(t:W Bool):Prop :=
 ∀(pins:List (Addr×Obj))(s:Shared)(σ:St)(H Pr:Hp)(ρ:Ev)(post:Bool→Ev→Prop),Inv X pins σ H s→REnv X.K Pr H σ ρ→t ρ post →
  wpAny (model X.prog X.w) X.A (forIn ifs true fun c r=>if r=true then do let ok ← isTrue c X.env (eval c X.env);pure (ForInStep.yield ok)else pure (ForInStep.yield r)) (EB X pins σ Pr post) X.xe s
def bF:W Bool:=fun ρ post=>post true ρ
theorem aX{X:Cx}:PIf X [] bF:=fun pins s σ H Pr ρ post I E h=>wpAny_tests_nil ⟨H,ρ,I,E,h⟩
theorem zw{X:Cx}{c:Expr}{t:W Bool}(h:PB X c t):PIf X [c] t:=fun pins s σ H Pr ρ post I E ht=>wpAny_tests_one (h pins s σ H Pr ρ post I E ht)
def dk(g:Tg)(ti:W Bool)(te:W L):List D→Ev→List D→(List D→Ev→Prop)→Prop
 |[],ρ,acc,k=>k acc ρ
 |x::xs,ρ,acc,k=>g x ρ fun ρ1=>ti ρ1 fun b ρ2=>if b=true then te ρ2 fun r ρ3=>toD r fun y=>dk g ti te xs ρ3 (acc++[y]) k else dk g ti te xs ρ2 acc k
def bX(n:Nat)(fi:List Nat)(src:W (List D))(g:Tg)(ti:W Bool)(te:W L):W L:=fun ρ post=>src ρ fun xs ρ1=>xs.length≤sizeLine ∧
 dk g ti te xs (List.replicate n .un++bg fi ρ1) [] fun ys ρb=>∀a,post (.own a ys) (cz fi (ρb.drop n) (aF fi ρ1))
section
variable{X:Cx}
theorem tO{elt tg iter:Expr}{ifs:List Expr}{scope sc:Scope}{pos:Pos}{N Nt Nf:List Str}{fi:List Nat}{src:W (List D)}{g:Tg}{ti:W Bool}{te:W L}
  (hsc:X.env.scope=sc) (hXN:X.N=N) (hc:X.calm=true) (hi:PIL X tg iter src)
  (hkind:scope.kind=.function) (hnames:∀x∈scope.names,x.2=.local→scope.names.lookup x.1=some .local) (hcell:∀y∈scope.names,y.2≠.cell)
  (hfr:∀x∈scope.names,x.2=.free→sc.names.lookup x.1=some .cell∨sc.names.lookup x.1=some .free)
  (hnd:fi.Nodup) (hNf:Nf.map some=fi.map (fun j=>N[j]?)) (hNk:∀x∈Nf,scope.names.lookup x=some .free) (hfl:∀j∈fi,j<N.length)
  (hg:∀cl s₀ H₀ fp,PTc (b7 X scope cl (Nt++Nf) s₀ H₀ fp) tg Nt.length g) (hti:∀cl s₀ H₀ fp,PIf (b7 X scope cl (Nt++Nf) s₀ H₀ fp) ifs ti) (hte:∀cl s₀ H₀ fp,PL (b7 X scope cl (Nt++Nf) s₀ H₀ fp) elt te)
  {pins:List (Addr×Obj)} {s:Shared} {σ:St} {H Pr:Hp} {ρ:Ev} {post:L→Ev→Prop} {use:Option (Value→Sem Unit)} {Q:Value→Shared→Prop} (I:Inv X pins σ H s) (E:REnv X.K Pr H σ ρ) (h:bX Nt.length fi src g ti te ρ post)
  (hRR:∀D C s7 H6 acc ρ'' m,Inv X pins σ H6 s7→s7.heap.Ns C m→H6 C=none→C≠X.env.locals→X.s₀.heap.objs.size≤C→(∀x c,X.env.cells.lookup x=some c→c≠C)→(∀p∈X.pn++pins,p.1≠C)→REnv X.K Pr H6 (some (.ref D)::σ) (.own D acc::ρ'')→post (.own D acc) ρ'' →
   compPost (model X.prog X.w) X.A X.xe use Q (.ref D) C (.ok .next) s7)
  (hs:∀x,foldedSetIterable iter X.env x=pure x):wpAny (model X.prog X.w) X.A (comprehension (.ListComp elt [⟨tg,iter,ifs,0⟩] scope pos) scope X.env (firstIterPos [⟨tg,iter,ifs,0⟩] pos) (newList []) false (eval iter X.env) use) Q X.xe s:=by
 have hcells:∀x∈scope.names,x.2=.free→∃c,X.env.cells.lookup x.1=some c:=fun x hx hk=>I.ok.has x.1 (by
  show X.env.scope.names.lookup x.1=_∨X.env.scope.names.lookup x.1=_
  rw[hsc];exact hfr x hx hk)
 have hsub:=qX (cells:=X.env.cells) scope.names [] (fun x c e=>by simp at e)
 refine wpAny_comprehension_free (use:=use) rfl hs (ky hcells) hkind hnames (thn (hi pins s σ H Pr ρ _ I E h) fun v s1 h1=>thn h1 fun itv s2 h2=>?_)
 obtain⟨it,fp,tn,J,H2,xs,ρ2,e,I2,T,st2,f2,E2,G,hlen,w0⟩:=h2
 subst e
 refine wpAny_newObj_type (T:="list") ?_
 generalize hD:s2.heap.objs.size=D
 have fD:H2 D=none:=by rw[← hD];exact I2.fresh
 have I3:Inv X pins σ (upd H2 D (.lst [])) {s2 with heap:=s2.heap.push {cls:=.type "list",dict:=none,data:=.seq ([]:List Value).toArray} }:=by
  have:=Inv.lnew (ys:=[]) (its:=[]) (t':=s2.toks) I2 .nil (Nat.zero_le _)
  rw[hD]at this
  exact this
 have E3:=E2.cons_own (p:=D) (vs:=[]) (xs:=[]) fD .nil
 have sz3:(s2.heap.push {cls:=.type "list",dict:=none,data:=.seq ([]:List Value).toArray}).objs.size=D+1:=by rw[Heap.size_push,hD]
 generalize hs3:({s2 with heap:=s2.heap.push {cls:=.type "list",dict:=none,data:=.seq ([]:List Value).toArray} }:Shared)=s3 at I3
 have hs3h:s3.heap=s2.heap.push {cls:=.type "list",dict:=none,data:=.seq ([]:List Value).toArray}:=by rw[← hs3]
 have fpD:∀b∈fp,b≠D:=fun b hb=>by
  obtain⟨o,e,_⟩:=T.obj 0 _ st2 b hb
  rw[← hD];exact Nat.ne_of_lt (Heap.lt_size e)
 have old3:∀b o,s2.heap.get? b=some o→s3.heap.get? b=some o:=fun b o e=>by rw[hs3h];exact Heap.get?_push_of_some _ e
 refine wpAny_newFunctionEnv (around:=some X.env) hcell (by intro y hy;simp at hy) (fun h4 hns4 hsb4=>?_) hkind
 have hns4':h4.Ns s3.heap.objs.size (fun _=>none):=by
  have:(fun x=>(([]:List (Str×Value)).reverse.lookup x))=fun _=>(none:Option Value):=by funext x;rfl
  rw[this]at hns4
  exact hns4
 have old4:∀b o,s3.heap.get? b=some o→h4.get? b=some o:=fun b o e=>by
  rw[hsb4.2 b (Nat.ne_of_lt (Heap.lt_size e))];exact Heap.get?_push_of_some _ e
 have hσl:σ.length=N.length:=by rw[← hXN];exact I.len
 have hρ2:σ.length=ρ2.length:=E2.len
 have hjσ:∀j∈fi,j<σ.length:=fun j hj=>by rw[hσl];exact hfl j hj
 have hjρ:∀j∈fi,j<ρ2.length:=fun j hj=>by rw[← hρ2];exact hjσ j hj
 have hfpl:∀b∈fp,b<s3.heap.objs.size:=fun b hb=>by
  obtain⟨o,e,_⟩:=T.obj 0 _ st2 b hb
  exact Heap.lt_size (old3 b o e)
 have hlNf:Nf.length=fi.length:=by have:=congrArg List.length hNf;simpa using this
 have Bok:(b7 X scope (clOf X.env.cells scope.names []) (Nt++Nf) s3 (upd H2 D (.lst [])) fp).Ok:=by
  refine⟨I3.ok.mod,hkind,I.ok.glob,I.ok.blt,Nat.le_refl _,fun x y c e1 e2=>I.ok.inj x y c (hsub x c e1) (hsub y c e2),fun x hx=>?_,fun x c hf _=>(Bool.false_ne_true hf).elim,I.ok.hd,I.ok.frames,.inl rfl,fun b hb=>⟨Nat.ne_of_lt (hfpl b hb),fun x c e=>(f2 b hb).2.2.2.2.1 x c (hsub x c e)⟩,I3.bs,Nat.le_trans I.ok.bsz I3.sz,fun b o e hb=>?_,fun b hb hm=>?_,I3.stack,I3.stkFree⟩
  ·
   have hm:(x,NameKind.free)∈scope.names:=by
    rcases hx with hx|hx
    ·
     exact cS (env:=X.env) hcell (.inl rfl) hx
    ·
     exact cS (env:=X.env) hcell (.inr rfl) hx
   exact kz scope.names [] x (.inr ⟨hm,hcells _ hm rfl⟩)
  ·
   rcases(f2 b hb).2.2.2.1 with z|z
   ·
    exact I.ok.noex b o e z
   ·
    exact absurd (Nat.lt_of_lt_of_le (Heap.lt_size (I.ok.bs b o e).1) z) (Nat.lt_irrefl _)
  ·
   rcases List.mem_cons.mp (I3.stkSub b hm)with z|z
   ·
    exact(f2 b hb).2.1 z
   ·
    exact(f2 b hb).2.2.1 z
 have I4:Inv (b7 X scope (clOf X.env.cells scope.names []) (Nt++Nf) s3 (upd H2 D (.lst [])) fp) [] (List.replicate Nt.length none++aV fi σ) (upd H2 D (.lst [])) {s3 with heap:=h4,toks:=s3.toks+([]:List (Str×Value)).length}:=by
  refine⟨Bok,rfl,I3.bare,Un.kept old4,⟨_,hns4',fun i x v e1 e2 e3=>?_⟩,fun x c e=>?_,I3.fresh,fun x c e=>I3.freeC x c (hsub x c e),fun p hp=>absurd (show p∈([]:List (Addr×Obj))from hp) (by simp),I3.hok.kept old4,?_⟩
  ·
   have e1:(Nt++Nf)[i]?=some x:=e1
   have hi':Nt.length≤i:=by
    by_cases q:i<Nt.length
    ·
     rw[List.getElem?_append_left (by simpa using q),List.getElem?_replicate]at e2
     split at e2<;>cases e2
    ·
     omega
   rw[List.getElem?_append_right hi']at e1
   rw[List.getElem?_append_right (by simpa using hi')]at e2
   simp only[List.length_replicate]at e2
   generalize i-Nt.length=k at e1 e2
   have hk:k<fi.length:=by
    have:=(List.getElem?_eq_some_iff.mp e1).1
    omega
   have e4:(Nf.map some)[k]?=(fi.map fun j=>N[j]?)[k]?:=by rw[hNf]
   rw[List.getElem?_map,List.getElem?_map,e1,List.getElem?_eq_getElem hk]at e4
   have e5:N[fi[k]]?=some x:=by simpa using e4.symm
   have e6:σ[fi[k]]?=some (some v):=by
    unfold aV at e2
    rw[List.getElem?_map,List.getElem?_eq_getElem hk]at e2
    have hjl:=hjσ fi[k] (List.getElem_mem hk)
    rw[List.getElem?_eq_getElem hjl]
    simpa[List.getElem?_eq_getElem hjl]using e2
   have hxm:x∈Nf:=List.mem_of_getElem? e1
   have hfree:=hNk x hxm
   have hmem:(x,NameKind.free)∈scope.names:=PySem.mem_of_lookup hfree
   have hkx:=hfr _ hmem rfl
   obtain⟨m,_,hl⟩:=I3.loc
   obtain⟨u,ru,lk⟩:=hl fi[k] x v (by rw[hXN];exact e5) e6 (by rw[hsc];exact .inr hkx)
   refine⟨u,ru,.inr ⟨cm (env:=X.env) hfree,?_⟩⟩
   rcases lk with⟨z,_⟩|⟨_,c,hc1,hc2⟩
   ·
    have z:X.env.scope.names.lookup x=some .local:=z
    rw[hsc]at z
    rcases hkx with q|q
    ·
     rw[z]at q;cases q
    ·
     rw[z]at q;cases q
   ·
    obtain⟨d,hd⟩:=kz (cells:=X.env.cells) scope.names [] x (.inr ⟨hmem,c,hc1⟩)
    have:d=c:=by have:=hsub x d hd;rw[hc1]at this;exact(Option.some.inj this).symm
    subst this
    obtain⟨o,ho,hdd⟩:=hc2
    exact⟨d,hd,o,old4 _ o ho,hdd⟩
  ·
   obtain⟨v,o,ho,hd⟩:=I3.cell x c (hsub x c e)
   exact⟨v,o,old4 c o ho,hd⟩
  ·
   show(List.replicate Nt.length none++aV fi σ).length=(Nt++Nf).length
   simp[aV,hlNf]
 have E4:REnv X.K Pr (upd H2 D (.lst [])) (some (.ref D)::(σ++(List.replicate Nt.length none++aV fi σ))) (.own D []::(aF fi ρ2++(List.replicate Nt.length .un++bg fi ρ2))):=by
  have a1:REnv X.K Pr (upd H2 D (.lst [])) (σ++[some (.ref D)]) (ρ2++[.own D []]):=E3.rearr (by simp[hρ2]) [] (by
   rw[List.append_nil,List.zip_append hρ2]
   exact(List.perm_append_comm (l₁:=[(some (V.ref D),L.own D [])]) (l₂:=σ.zip ρ2)))
  have a2:=a1.takes fi hnd fun j hj=>by have:=hjρ j hj;simp;omega
  rw[kA hjσ,qk hjρ,n5 hjρ]at a2
  have a3:=a2.uns Nt.length
  have hcl:(aV fi σ).length=(bg fi ρ2).length:=by simp[aV,bg]
  have hul:σ.length=(aF fi ρ2).length:=by rw[bM];exact hρ2
  refine a3.rearr (by simp[hul,hcl]) [] ?_
  have l1:(aV fi σ++(σ++[some (V.ref D)])++List.replicate Nt.length none).zip (bg fi ρ2++(aF fi ρ2++[L.own D []])++List.replicate Nt.length L.un)=((aV fi σ).zip (bg fi ρ2)++(σ.zip (aF fi ρ2)++[(some (V.ref D),L.own D [])]))++(List.replicate Nt.length none).zip (List.replicate Nt.length L.un):=by
   rw[List.zip_append (by simp only[List.length_append,hcl,hul];rfl),List.zip_append hcl,List.zip_append hul]
   rfl
  have l2:(some (V.ref D)::(σ++(List.replicate Nt.length none++aV fi σ))).zip (L.own D []::(aF fi ρ2++(List.replicate Nt.length L.un++bg fi ρ2)))=(some (V.ref D),L.own D [])::(σ.zip (aF fi ρ2)++((List.replicate Nt.length none).zip (List.replicate Nt.length L.un)++(aV fi σ).zip (bg fi ρ2))):=by
   rw[List.zip_cons_cons,List.zip_append hul,List.zip_append (by simp)]
  rw[List.append_nil,l1,l2]
  generalize (aV fi σ).zip (bg fi ρ2)=z1
  generalize σ.zip (aF fi ρ2)=z2
  generalize (List.replicate Nt.length none).zip (List.replicate Nt.length L.un)=z3
  show(z1++(z2++[(some (V.ref D),L.own D [])])++z3).Perm ((some (V.ref D),L.own D [])::(z2++(z3++z1)))
  have p1:(z1++(z2++[(some (V.ref D),L.own D [])])++z3).Perm ((z2++[(some (V.ref D),L.own D [])])++z3++z1):=by
   rw[List.append_assoc]
   exact List.perm_append_comm
  refine p1.trans ?_
  rw[List.append_assoc,List.append_assoc]
  exact List.perm_middle
 clear E3
 let B:Cx:=b7 X scope (clOf X.env.cells scope.names []) (Nt++Nf) s3 (upd H2 D (.lst [])) fp
 have hul:σ.length=(aF fi ρ2).length:=by rw[bM];exact hρ2
 have stat:∀{H':Hp},(∀b∈fp,H' b=none)→∀b∈fp,FpOk B [] H' b:=fun hn b hb=>by
  refine⟨hn b hb,Nat.ne_of_lt (hfpl b hb),fun hm=>?_,.inl hb,fun x c e=>(f2 b hb).2.2.2.2.1 x c (hsub x c e),fun p hp=>absurd (show p∈([]:List (Addr×Obj))from hp) (by simp)⟩
  rcases List.mem_cons.mp (I3.stkSub b hm)with z|z
  ·
   exact(f2 b hb).2.1 z
  ·
   exact(f2 b hb).2.2.1 z
 have loop:∀s5:Shared,s5={s3 with heap:=h4,toks:=s3.toks+([]:List (Str×Value)).length}→codeAny (model X.prog X.w) X.A (.compLoop (.ListComp elt [⟨tg,iter,ifs,0⟩] scope pos) 0 (.ref it) (.ref D) B.env)
   (compPost (model X.prog X.w) X.A X.xe use Q (.ref D) s3.heap.objs.size) s5:=by
  rintro s5 rfl
  refine tN (fun n s'=>∃i σ' H' ρ' acc,n+i=xs.length∧Inv B [] σ' H' s'∧tn i s'.heap∧(∀b∈fp,H' b=none)∧σ'.drop Nt.length=aV fi σ∧REnv X.K Pr H' (some (.ref D)::(σ++σ')) (.own D acc::(aF fi ρ2++ρ'))∧acc.length≤i ∧
   dk g ti te (xs.drop i) ρ' acc fun ys ρb=>∀a,post (.own a ys) (cz fi (ρb.drop Nt.length) (aF fi ρ2))) ?_ xs.length
   ⟨0,_,_,_,[],by omega,I4,T.keep 0 _ _ st2 fun b hb o e=>old4 b o (old3 b o e),fun b hb=>by rw[aB (fpD b hb)];exact(f2 b hb).1,by simp,E4,Nat.le_refl _,by simpa using w0⟩
  rintro n s6 ⟨i,σ6,H6,ρ6,acc,hn,I6,st6,fr6,dr6,E6,hal,w6⟩
  have pr:Pres H2 H6:=fun b o p e=>by
   have ne:b≠D:=fun z=>by rw[z,fD]at e;cases e
   have e':B.H₀ b=some o:=by show upd H2 D (.lst []) b=some o;rw[aB ne];exact e
   cases o with
   |tup ys=>exact I6.base.tups b ys e'
   |frz ob u=>exact I6.base.frzs b ob u e'
   |_=>exact p.elim
  obtain⟨go,stop⟩:=G H6 pr
  have hτ:(some (V.ref D)::σ).length=(L.own D acc::aF fi ρ2).length:=by simp[hul]
  by_cases hlt:i<xs.length
  ·
   obtain⟨hgo,hy⟩:=go i xs[i] (List.getElem?_eq_getElem hlt)
   rw[List.drop_eq_getElem_cons hlt]at w6
   refine thn (T.item B rfl rfl rfl hc i [] s6 σ6 H6 (fun _ _=>False) I6 (stat fr6) st6 hgo) fun r s7 ⟨u,hr,h7⟩=>?_
   subst hr
   refine thn h7 fun _ s8 ⟨x,H8,I8,r8,y8,st8,fr8⟩=>?_
   obtain⟨gr,rx⟩:=hy x H8 y8
   have I8':=I8.pinned (stat fr8) (T.obj _ _ st8)
   have E8:=E6.grown gr
   have E8a:REnv X.K (a5 H8 ρ6) H8 σ6 ρ6:=(REnv.drop (τ:=some (V.ref D)::σ) (lam:=L.own D acc::aF fi ρ2) E8 hτ).wide
   obtain⟨gg,hgg,hgs⟩:=hg (clOf X.env.cells scope.names []) s3 (upd H2 D (.lst [])) fp
   refine thn (hgg _ s8 σ6 H8 x u _ I8' r8 (hgs x σ6 H8 _ ρ6 xs[i] _ I8.len E8a rx w6)) fun _ s9 ⟨σ9,H9,I9,e9,dr9,ρ9,E9,q9⟩=>?_
   subst e9
   have F9:REnv X.K Pr H9 (some (V.ref D)::(σ++σ9)) (L.own D acc::(aF fi ρ2++ρ9)):=REnv.step (τ:=some (V.ref D)::σ) (lam:=L.own D acc::aF fi ρ2) (w:=[]) (μ:=[]) E8 hτ E9 rfl
   have F9a:REnv X.K (a5 H9 ρ9) H9 σ9 ρ9:=(REnv.drop (τ:=some (V.ref D)::σ) (lam:=L.own D acc::aF fi ρ2) F9 hτ).wide
   refine thn (hti _ _ _ _ _ s9 σ9 H9 _ ρ9 _ I9 F9a q9) fun ok sA ⟨HA,ρA,IA,EA,qA⟩=>?_
   have FA:REnv X.K Pr HA (some (V.ref D)::(σ++σ9)) (L.own D acc::(aF fi ρ2++ρA)):=REnv.step (τ:=some (V.ref D)::σ) (lam:=L.own D acc::aF fi ρ2) (w:=[]) (μ:=[]) F9 hτ EA rfl
   have again:∀{sZ:Shared}{HZ:Hp}{ρZ:Ev}{acc':List L2.D},Inv B ([]++qe fp s8.heap) σ9 HZ sZ→REnv X.K Pr HZ (some (.ref D)::(σ++σ9)) (.own D acc'::(aF fi ρ2++ρZ))→acc'.length≤i+1 →
     (dk g ti te (xs.drop (i+1)) ρZ acc' fun ys ρb=>∀a,post (.own a ys) (cz fi (ρb.drop Nt.length) (aF fi ρ2)))→∃m,m<n∧∃i σ' H' ρ' acc,m+i=xs.length∧Inv B [] σ' H' sZ∧tn i sZ.heap∧(∀b∈fp,H' b=none)∧σ'.drop Nt.length=aV fi σ ∧
     REnv X.K Pr H' (some (.ref D)::(σ++σ')) (.own D acc::(aF fi ρ2++ρ'))∧acc.length≤i∧dk g ti te (xs.drop i) ρ' acc fun ys ρb=>∀a,post (.own a ys) (cz fi (ρb.drop Nt.length) (aF fi ρ2)):=fun {sZ HZ ρZ acc'} IZ EZ hz qZ=>by
    refine⟨n-1,by omega,i+1,σ9,HZ,ρZ,acc',by omega,IZ.unpinned,T.keep _ _ _ st8 fun b hb o e=>(IZ.pin (b,o) (List.mem_append_right _ (List.mem_append_right _ (dR hb e)))).1,fun b hb=>?_,dr9.trans dr6,EZ,hz,qZ⟩
    obtain⟨o,e,d⟩:=T.obj _ _ st8 b hb
    exact(IZ.pin (b,o) (List.mem_append_right _ (List.mem_append_right _ (dR hb e)))).2.1
   cases ok with
   | false =>
    rw[if_neg Bool.false_ne_true]at qA ⊢
    exact again IA FA (by omega) qA
   | true =>
    rw[if_pos rfl]at qA ⊢
    have FAa:REnv X.K (a5 HA ρA) HA σ9 ρA:=(REnv.drop (τ:=some (V.ref D)::σ) (lam:=L.own D acc::aF fi ρ2) FA hτ).wide
    refine thn (hte _ _ _ _ _ sA σ9 HA _ ρA _ IA FAa qA) fun ux sB qB=>?_
    obtain⟨vy,HB,y,ρB,IB,rB,EB,qB⟩:=EL.frz (X:=B) (post:=fun y ρ3=>dk g ti te (xs.drop (i+1)) ρ3 (acc++[y]) fun ys ρb=>∀a,post (.own a ys) (cz fi (ρb.drop Nt.length) (aF fi ρ2))) qB
    have FB:REnv X.K Pr HB (some vy::(some (V.ref D)::(σ++σ9))) (.d y::(L.own D acc::(aF fi ρ2++ρB))):=REnv.step (τ:=some (V.ref D)::σ) (lam:=L.own D acc::aF fi ρ2) (w:=[some vy]) (μ:=[.d y]) FA hτ EB rfl
    obtain⟨_,e1,p1⟩:=FB.head_d
    cases e1
    have slB:=FB.tail.sl
    cases slB with
    | cons q0 _ =>
     obtain⟨_,vs,hDB,rvs⟩:=q0
     refine thn (ko (X:=B) _ sB σ9 HB (.ref D) [vy] (.ref D) [ux] (fun z H'=>H'=upd HB D (.lst (vs++[vy]))) IB rfl (.cons rB .nil) ⟨D,vs,vy,rfl,rfl,hDB,by rw[rvs.length];omega,rfl⟩) fun _ sC ⟨z,HC,IC,_,eC⟩=>?_
     subst eC
     exact again IC (FB.tail.write (rvs.append (.cons p1 .nil))) (by simp;omega) qB
  ·
   have e:i=xs.length:=by omega
   subst e
   refine thn (T.done B rfl rfl rfl hc xs.length [] s6 σ6 H6 (fun _ _=>False) I6 (stat fr6) st6 stop) fun r s7 ⟨hr,I7⟩=>?_
   subst hr
   rw[List.drop_length]at w6
   obtain⟨m,hm,_⟩:=id I7.loc
   have I8:Inv X pins σ H6 s7:=I3.call' (ch:=fp) I7.os I7.base I7.hok I7.bare fun b hb=>⟨(f2 b hb).2.2.2.1,(f2 b hb).2.1,(f2 b hb).2.2.2.2.1,(f2 b hb).2.2.2.2.2⟩
   have f4:=I3.fpOk (H':=H6) (b:=s3.heap.objs.size) (Nat.le_refl _) I7.free
   ·
    have hlen6:σ6.length=ρ6.length:=(REnv.drop (τ:=some (V.ref D)::σ) (lam:=L.own D acc::aF fi ρ2) E6 hτ).len
    have a1:REnv X.K Pr H6 (aV fi σ++(σ++[some (V.ref D)])) (ρ6.drop Nt.length++(aF fi ρ2++[L.own D acc])):=by
     have hcd:(aV fi σ).length=(ρ6.drop Nt.length).length:=by rw[← dr6,List.length_drop,List.length_drop,hlen6]
     refine E6.rearr (by simp[hcd,hul,hlen6]) ((σ6.take Nt.length).zip (ρ6.take Nt.length)) ?_
     have l0:σ6.zip ρ6=(σ6.take Nt.length).zip (ρ6.take Nt.length)++(aV fi σ).zip (ρ6.drop Nt.length):=by
      rw[← dr6,← List.zip_append (by simp[hlen6]),List.take_append_drop,List.take_append_drop]
     have l1:(some (V.ref D)::(σ++σ6)).zip (L.own D acc::(aF fi ρ2++ρ6))=(some (V.ref D),L.own D acc)::(σ.zip (aF fi ρ2)++σ6.zip ρ6):=by rw[List.zip_cons_cons,List.zip_append hul]
     have l2:(aV fi σ++(σ++[some (V.ref D)])).zip (ρ6.drop Nt.length++(aF fi ρ2++[L.own D acc]))=(aV fi σ).zip (ρ6.drop Nt.length)++(σ.zip (aF fi ρ2)++[(some (V.ref D),L.own D acc)]):=by
      rw[List.zip_append hcd,List.zip_append hul];rfl
     rw[l1,l2,l0]
     generalize (aV fi σ).zip (ρ6.drop Nt.length)=z1
     generalize σ.zip (aF fi ρ2)=z2
     generalize (σ6.take Nt.length).zip (ρ6.take Nt.length)=z3
     have p1:((some (V.ref D),L.own D acc)::(z2++(z3++z1))).Perm ((z2++[(some (V.ref D),L.own D acc)])++(z3++z1)):=by
      rw[List.append_assoc]
      exact List.perm_middle.symm
     refine p1.trans ?_
     have p2:((z2++[(some (V.ref D),L.own D acc)])++(z3++z1)).Perm ((z3++z1)++(z2++[(some (V.ref D),L.own D acc)])):=List.perm_append_comm
     refine p2.trans ?_
     rw[List.append_assoc]
     exact List.perm_append_comm
    have a2:=REnv.backs (σ:=σ++[some (V.ref D)]) (cs:=ρ6.drop Nt.length) (ρ:=aF fi ρ2++[L.own D acc]) fi hnd (by rw[List.length_drop,← hlen6,← List.length_drop,dr6];simp[aV]) (fun j hj=>by
     rw[List.getElem?_append_left (by rw[bM];exact hjρ j hj)];exact qW fi ρ2 j hj (hjρ j hj)) (fun j hj=>by have:=hjσ j hj;simp;omega) (by rw[kA hjσ];exact a1)
    rw[lJ fun j hj=>by rw[bM];exact hjρ j hj]at a2
    have hpl:σ.length=(cz fi (ρ6.drop Nt.length) (aF fi ρ2)).length:=by have:=a2.len;simpa using this
    refine hRR D s3.heap.objs.size s7 H6 acc (cz fi (ρ6.drop Nt.length) (aF fi ρ2)) m I8 hm f4.1 f4.2.1 I3.sz f4.2.2.2.2.1 f4.2.2.2.2.2 (a2.rearr (by simp[hpl]) [] ?_) (w6 D)
    rw[List.append_nil,List.zip_append hpl,List.zip_cons_cons]
    exact List.perm_append_comm (l₂:=[(some (V.ref D),L.own D acc)])
 exact codeAny_compStart_list (loop _ rfl) (T.self _ 0 _ _ _ (T.keep 0 _ _ st2 fun b hb o e=>old4 b o (old3 b o e)) (loop _ rfl))
theorem ba{elt tg iter:Expr}{ifs:List Expr}{scope sc:Scope}{pos:Pos}{N Nt Nf:List Str}{fi:List Nat}{src:W (List D)}{g:Tg}{ti:W Bool}{te:W L}
  (hsc:X.env.scope=sc) (hXN:X.N=N) (hc:X.calm=true) (hi:PIL X tg iter src)
  (hkind:scope.kind=.function) (hnames:∀x∈scope.names,x.2=.local→scope.names.lookup x.1=some .local) (hcell:∀y∈scope.names,y.2≠.cell)
  (hfr:∀x∈scope.names,x.2=.free→sc.names.lookup x.1=some .cell∨sc.names.lookup x.1=some .free)
  (hnd:fi.Nodup) (hNf:Nf.map some=fi.map (fun j=>N[j]?)) (hNk:∀x∈Nf,scope.names.lookup x=some .free) (hfl:∀j∈fi,j<N.length)
  (hg:∀cl s₀ H₀ fp,PTc (b7 X scope cl (Nt++Nf) s₀ H₀ fp) tg Nt.length g) (hti:∀cl s₀ H₀ fp,PIf (b7 X scope cl (Nt++Nf) s₀ H₀ fp) ifs ti) (hte:∀cl s₀ H₀ fp,PL (b7 X scope cl (Nt++Nf) s₀ H₀ fp) elt te)
  (hs:∀x,foldedSetIterable iter X.env x=pure x:=by intro _;rfl):PL X (.ListComp elt [⟨tg,iter,ifs,0⟩] scope pos) (bX Nt.length fi src g ti te):=by
 intro pins s σ H Pr ρ post I E h
 rw[eval_ListComp]
 refine tO (use:=none) hsc hXN hc hi hkind hnames hcell hfr hnd hNf hNk hfl hg hti hte I E h (fun D C s7 H6 acc ρ'' m I7 hm h1 h2 h3 h4 h5 E7 p=>?_) hs
 exact⟨m,hm,fun h' hsb=>⟨.ref D,H6,_,ρ'',I7.turned (t':=s7.toks) (fun b o hb e=>(hsb.2 b hb).trans e) h1 (Ne.symm (Ne.symm h2)) (.inr h3) h4 h5,rfl,E7,p⟩⟩
theorem n6{elt tg iter:Expr}{ifs:List Expr}{scope sc:Scope}{pos spos py:Pos}{y:Str}{j:Nat}{N Nt Nf:List Str}{fi:List Nat}{src:W (List D)}{g:Tg}{ti:W Bool}{te:W L}
  (hN:X.N.Nodup) (hj:X.N[j]?=some y) (hy:Loc X.env.scope y)
  (hsc:X.env.scope=sc) (hXN:X.N=N) (hc:X.calm=true) (hi:PIL X tg iter src)
  (hkind:scope.kind=.function) (hnames:∀x∈scope.names,x.2=.local→scope.names.lookup x.1=some .local) (hcell:∀y∈scope.names,y.2≠.cell)
  (hfr:∀x∈scope.names,x.2=.free→sc.names.lookup x.1=some .cell∨sc.names.lookup x.1=some .free)
  (hnd:fi.Nodup) (hNf:Nf.map some=fi.map (fun j=>N[j]?)) (hNk:∀x∈Nf,scope.names.lookup x=some .free) (hfl:∀j∈fi,j<N.length)
  (hg:∀cl s₀ H₀ fp,PTc (b7 X scope cl (Nt++Nf) s₀ H₀ fp) tg Nt.length g) (hti:∀cl s₀ H₀ fp,PIf (b7 X scope cl (Nt++Nf) s₀ H₀ fp) ifs ti) (hte:∀cl s₀ H₀ fp,PL (b7 X scope cl (Nt++Nf) s₀ H₀ fp) elt te)
  (hsw:swapsWith (.ListComp elt [⟨tg,iter,ifs,0⟩] scope pos) (some (.Name y py)) spos.line X.env=pure true:=by rfl) (hf:X.fn y=true∨X.env.scope.names.lookup y=some .local:=by first|exact .inl rfl|exact .inr rfl|assumption)
  (hs:∀x,foldedSetIterable iter X.env x=pure x:=by intro _;rfl):PM X (.Assign [.Name y py] (.ListComp elt [⟨tg,iter,ifs,0⟩] scope pos) spos) (wSet j (bX Nt.length fi src g ti te)):=by
 intro pins s σ H Pr ρ post I E h
 rw[exec_Assign_Name_used _ _ _ _ hsw]
 refine wpAny_bind (wpAny_standAt (wpAny_bind ?_))
 show wpAny _ X.A (do let _ ← comprehension (.ListComp elt [⟨tg,iter,ifs,0⟩] scope pos) scope X.env (firstIterPos [⟨tg,iter,ifs,0⟩] pos) (newList []) false (eval iter X.env) (some (assign (.Name y py) X.env))) _ _ s
 refine wpAny_bind (thn (tO (use:=some (assign (.Name y py) X.env)) (Q:=fun _ s'=>SM X pins Pr post .next s') (post:=fun r ρ1=>post .nx (ρ1.set j r)) hsc hXN hc hi hkind hnames hcell hfr hnd hNf hNk hfl hg hti hte I E h (fun D C s7 H6 acc ρ'' m I7 hm h1 h2 h3 h4 h5 E7 p=>?_) hs) fun _ s' hq=>wpAny_pure (wpAny_pure hq))
 show wpAny _ X.A (assign (.Name y py) X.env (.ref D)) _ _ _
 refine wpAny_assign_Name (sY (v:=.ref D) I7 hN hj hy rfl (fun s8 I8 ⟨a,sb,ha⟩=>?_) hf)
 have hCa:C≠a:=by
  rcases ha with z|z
  ·
   rw[z];exact h2
  ·
   exact fun q=>h4 y a z q.symm
 refine⟨m,hm.sameBut sb hCa,fun h' hsb=>⟨_,H6,_,I8.turned (t':=s8.toks) (fun b o hb e=>(hsb.2 b hb).trans e) h1 h2 (.inr h3) h4 h5,E7.store (by rw[I7.len];exact(List.getElem?_eq_some_iff.mp hj).1),p⟩⟩
end
section
variable{X:Cx}{e a b:Expr}{pos:Pos}{ta tb te:W L}{x y:Str}
def wPar(i j:Nat)(ta tb:W L):W Fl:=fun ρ post=>ta ρ fun r ρ1=>toD r fun v=>tb ρ1 fun r2 ρ2=>toD r2 fun w=>post .nx ((ρ2.set i (.d v)).set j (.d w))
theorem DZ{i j:Nat}{px py pt:Pos} {kt k2 pt2} (hc:X.calm=true) (hN:X.N.Nodup) (hi:X.N[i]?=some x) (hj:X.N[j]?=some y) (hij:i≠j)
  (hx:X.env.scope.names.lookup x=some .local) (hy:X.env.scope.names.lookup y=some .local) (ha:PL X a ta) (hb:PL X b tb)
  (hw:swappedStores [.Tuple [.Name x px,.Name y py] kt pt] (.Tuple [a,b] k2 pt2) X.env=pure (some [x,y]))
  (hs:swapsWithSole [.Tuple [.Name x px,.Name y py] kt pt] (.Tuple [a,b] k2 pt2) pos.line X.env=pure false:=by rfl)
  (h1:starEach [a,b] X.env=(false,eval a X.env)::starEach [b] X.env:=by rfl) (h2:starEach [b] X.env=[(false,eval b X.env)]:=by rfl) :
  PM X (.Assign [.Tuple [.Name x px,.Name y py] kt pt] (.Tuple [a,b] k2 pt2) pos) (wPar i j ta tb):=by
 refine PM.of (GF hc hN hi hj hij hx hy (di (au ha).pe (di (au hb).pe km h2) h1) hw hs) fun σ H Pr ρ post hlen E h=>?_
 refine⟨Pr,ρ,fun r ρ1=>match r with
  |.d v=>tb ρ1 fun r2 ρ2=>toD r2 fun w=>post .nx ((ρ2.set i (.d v)).set j (.d w))
  |_=>False,E,h,fun v H1 r ρ1 E1 pp=>?_⟩
 cases r with
 | d dv =>
  refine⟨a5 H1 ρ1,ρ1,fun r ρ2=>match r with
   |.d w=>post .nx ((ρ2.set i (.d dv)).set j (.d w))
   |_=>False,E1.tail.wide,pp,fun w H2 r2 ρ2 E2 pp=>?_⟩
  cases r2 with
  | d dw =>
   have E3:REnv X.K Pr H2 (some w::some v::σ) (.d dw::.d dv::ρ2):=REnv.step (τ:=[some v]) (lam:=[.d dv]) (w:=[some w]) (μ:=[.d dw]) E1 rfl E2 rfl
   have il:i<σ.length:=by rw[hlen];exact(List.getElem?_eq_some_iff.mp hi).1
   have jl:j<σ.length:=by rw[hlen];exact(List.getElem?_eq_some_iff.mp hj).1
   obtain⟨_,e1,r1⟩:=E3.head_d
   cases e1
   have E4:REnv X.K Pr H2 (σ.set i (some v)) (ρ2.set i (.d dv)):=E3.tail.store il
   exact⟨v,w,rfl,_,(E4.cons_d r1).store (by simpa using jl),pp⟩
  |_=>exact pp.elim
 |_=>exact pp.elim
def EJ(is:List Nat)(te:W L):W Fl:=fun ρ post=>te ρ fun r ρ1=>toD r fun v=>dU is v ρ1 fun ρ2=>post .nx ρ2
theorem EK{tg:Expr}{is:List Nat}(hg:PT1 X tg (dU is))(he:PL X e te)(hs:swapsWithSole [tg] e pos.line X.env=pure false:=by rfl)(hw:swappedStores [tg] e X.env=pure none:=by rfl)
  (h1:(assignEach [tg] X.env).map (·.2)=[assign tg X.env]:=by rfl):PM X (.Assign [tg] e pos) (EJ is te):=by
 intro pins s σ H Pr ρ post I E h
 obtain⟨gg,hg,hgg⟩:=hg
 refine wpAny_Assign_stores (thn (he pins s σ H Pr ρ _ I E h) fun v s1 q=>?_) hs hw
 obtain⟨w,H1,d,ρ1,I1,r1,E1,q1⟩:=EL.frz (post:=fun d ρ1=>dU is d ρ1 fun ρ2=>post .nx ρ2) q
 rw[h1]
 obtain⟨_,e1,p1⟩:=E1.head_d
 cases e1
 exact thn (hg pins s1 σ H1 w v _ I1 r1 (hgg w σ H1 Pr ρ1 d _ I1.len E1.tail p1 q1)) fun _ s2 ⟨σ',H',I',e',_,ρ',E',q⟩=>by
  subst e'
  exact⟨σ',_,ρ',I',E',q⟩
def n8:D→Bool
 |.non=>true | .bl _=>true | .int _=>true | .str _=>true
 |_=>false
def eqF:D→D→Bool
 |.non,.non=>true
 |.bl a,.bl b=>a == b
 |.bl a,.int b=>(if a then 1 else 0) == b
 |.int a,.bl b=>a == (if b then 1 else 0)
 |.int a,.int b=>a == b
 |.str a,.str b=>a == b
 |_,_=>false
theorem q5{K:PySem.W.Frag}{H:Hp}{v:V}{d:D}(r:Rep K H v d)(h:n8 d=true):pL v=true:=by
 cases r<;>first|rfl|(exact absurd h (by simp[n8]))
theorem G6{K:PySem.W.Frag}{H:Hp}{v w:V}{d f:D}(r:Rep K H v d)(q:Rep K H w f)(h:n8 d=true)(h':n8 f=true):eqV v w=eqF d f:=by
 cases r<;>cases q<;>first|rfl|(exact absurd h (by simp[n8]))|(exact absurd h' (by simp[n8]))
def inF(x:D)(ys:List D):Bool:=ys.any fun y=>eqF y x
theorem zx{K:PySem.W.Frag}{H:Hp}{v:V}{x:D}(r:Rep K H v x)(h:n8 x=true):∀{vs:List V}{ys:List D},Reps K H vs ys→ys.all n8=true→inV v vs=inF x ys∧vs.all pL=true
 |_,_,.nil,_=>⟨rfl,rfl⟩
 | _,_,.cons r0 t,ha=>by
  rw[List.all_cons,Bool.and_eq_true]at ha
  obtain⟨i1,i2⟩:=zx r h t ha.2
  unfold inV inF at i1 ⊢
  rw[List.any_cons,List.any_cons,List.all_cons,i1,G6 r0 r ha.1 h,q5 r0 ha.1,i2]
  exact⟨rfl,rfl⟩
def Cd(neg:Bool):Op2:=fun x y k=>n8 x=true∧gR y fun ys=>ys.all n8=true∧k (.d (.bl (if neg then !inF x ys else inF x ys)))
theorem G7:OpD X (compareOp .In) (Cd false):=OpD.of za fun σ H Pr ρ x y dx dy post E px py ⟨hx,h⟩=>by
 cases py with
 | lst hz rs =>
  obtain⟨ha,h⟩:=h
  obtain⟨i1,i2⟩:=zx px hx rs ha
  exact⟨_,_,rfl,.inl hz.l,q5 px hx,i2,_,E.cons_d (.bl _),by rw[i1];exact h⟩
 | tup hz rs =>
  obtain⟨ha,h⟩:=h
  obtain⟨i1,i2⟩:=zx px hx rs ha
  exact⟨_,_,rfl,.inr hz,q5 px hx,i2,_,E.cons_d (.bl _),by rw[i1];exact h⟩
 |_=>exact h.elim
def PO'(X:Cx)(lo:Option Expr)(t:Option (W L)):Prop:=match lo,t with
 |none,none=>True
 |some e,some t=>PL X e t
 |_,_=>False
theorem tP{K:PySem.W.Frag}{H:Hp}{vs:List V}{xs:List D}(r:Reps K H vs xs)(l u:Option Int):Reps K H (cutV vs l u) (cutD xs l u):=by
 unfold cutV cutD
 rw[r.length]
 exact(r.drop _).take _
def tPO(K:PySem.W.Frag)(t:Option (W L)):TO:=fun σ H Q=>∃Pr ρ post,REnv K Pr H σ ρ∧yd t ρ post∧∀i H' ρ',REnv K Pr H' σ ρ'→post i ρ'→Q i H'
theorem G8{lo:Option Expr}{t:Option (W L)}(h:PO' X lo t):PO X lo (tPO X.K t):=by
 cases lo with
 | none =>
  cases t with
  | none =>
   intro pins s σ H Q I ⟨Pr,ρ,post,E,hw,q⟩
   exact Ek pins s σ H Q I (q none H ρ E hw)
  |some t=>exact h.elim
 | some e =>
  cases t with
  |none=>exact h.elim
  | some t =>
   intro pins s σ H Q I ⟨Pr,ρ,post,E,hw,q⟩
   refine El (PL.pe (show PL X e t from h)) pins s σ H Q I ⟨Pr,ρ,_,E,hw,fun v H' r ρ' E' pp=>?_⟩
   obtain⟨i,rfl,pp⟩:=cb pp
   obtain⟨_,e1,p1⟩:=E'.head_d
   cases e1
   cases p1
   exact⟨i,rfl,q (some i) H' ρ' E'.tail pp⟩
end
def selW{α:Type}(o:Option L)(t u:W α)(ρ:Ev)(post:α→Ev→Prop):Prop:=match o with
 |some (.own _ _)=>t ρ post
 |_=>u ρ post
def dc{α:Type}(i:Nat)(t u:W α):W α:=fun ρ post=>selW ρ[i]? t u ρ post
theorem Ce{α:Type}(a:Addr)(xs:List D)(t u:W α)(ρ:Ev)(post:α→Ev→Prop):selW (some (.own a xs)) t u ρ post=t ρ post:=(rfl)
theorem G9{α:Type}(x:D)(t u:W α)(ρ:Ev)(post:α→Ev→Prop):selW (some (.d x)) t u ρ post=u ρ post:=(rfl)
theorem EM{α:Type}(a:Option Addr)(ls:List L)(t u:W α)(ρ:Ev)(post:α→Ev→Prop):selW (some (.bx a ls)) t u ρ post=u ρ post:=(rfl)
theorem eH{X:Cx}{e:Expr}{i:Nat}{t u:W L}(h:PL X e t)(h':PL X e u):PL X e (dc i t u):=fun pins s σ H Pr ρ post I E q=>by
 unfold dc selW at q
 split at q
 ·
  exact h pins s σ H Pr ρ post I E q
 ·
  exact h' pins s σ H Pr ρ post I E q
theorem EN{K:PySem.W.Frag}{c:Str}{C:Addr}{T:String}(h:qh K c C=true)(hm:PySem.W.kitMeta T=true):PySem.W.kitOne K (.ref C) (.type T)=some ((["ValueError","Exception","BaseException","object"]:List String).contains T):=by
 obtain⟨L,cd,S⟩:=tG h
 unfold PySem.W.kitOne PySem.W.kitCls
 rw[if_neg (show ¬((Value.ref C == Value.type T)=true)from fun z=>by cases z)]
 dsimp only
 rw[if_pos hm]
 show PySem.W.mroIn K C (.type T)=_
 rw[S.mroIn,nT]
theorem tQ{T:String}(h0:∀K d,(∀c ns xs,d≠.exc c ns xs)→PySem.W.kitOne K (tyD d) (.type T)=some (isTy T d))(hm:PySem.W.kitMeta T=true):∀K d t,TyD K d t→PySem.W.kitOne K t (.type T)=some (isTy T d):=by
 intro K d t h
 cases d with
 | exc c ns xs =>
  obtain⟨C,e,h⟩:=h
  rw[e]
  exact EN h hm
 |_=>cases h;exact h0 K _ (fun _ _ _ z=>nomatch z)
theorem zy:∀ K d t,TyD K d t→PySem.W.kitOne K t (.type "int")=some (isTy "int" d):=tQ (fun K d hd=>by cases d <;> first | rfl | exact absurd rfl (hd _ _ _)) (by decide +kernel)
theorem wX:∀ K d t,TyD K d t→PySem.W.kitOne K t (.type "bool")=some (isTy "bool" d):=tQ (fun K d hd=>by cases d <;> first | rfl | exact absurd rfl (hd _ _ _)) (by decide +kernel)
theorem zz:∀ K d t,TyD K d t→PySem.W.kitOne K t (.type "str")=some (isTy "str" d):=tQ (fun K d hd=>by cases d <;> first | rfl | exact absurd rfl (hd _ _ _)) (by decide +kernel)
theorem wY:∀ K d t,TyD K d t→PySem.W.kitOne K t (.type "list")=some (isTy "list" d):=tQ (fun K d hd=>by cases d <;> first | rfl | exact absurd rfl (hd _ _ _)) (by decide +kernel)
theorem gU:∀ K d t,TyD K d t→PySem.W.kitOne K t (.type "tuple")=some (isTy "tuple" d):=tQ (fun K d hd=>by cases d <;> first | rfl | exact absurd rfl (hd _ _ _)) (by decide +kernel)
def m8(K:PySem.W.Frag)(mg:Str→Option Value)(x:Str)(d:D):Prop:=∃v u,mg x=some u∧RelV v u∧∀H,Rep K H v d
theorem pl_G{X:Cx}{x:Str}{d:D}{pos:Pos}(g:m8 X.K X.mg x d)(hg:Gl X x) (hdb:(x == ("__debug__" : Str))=false:=by decide):PL X (.Name x pos) (wC d):=by
 obtain⟨v,u,h1,h2,h3⟩:=g
 exact Ey hg h1 h2 h3 hdb
def IQ(o:Obj)(d:D):Prop:=∃ its n vs ds,d=.tup ds∧o.cls=.type "tuple"∧o.data=.seq its n∧its.size≤sizeLine∧Vals vs its.toList∧∀ K H,Reps K H vs ds
theorem Cf{K:PySem.W.Frag}{mg:Str→Option Value}{x:Str}{d:D}{l:Addr}{o:Obj}(h1:mg x=some (.ref l))(h2:K.lookup l=some o)(h3:IQ o d):m8 K mg x d:=by
 obtain⟨its,n,vs,ds,rfl,hc,hd,hz,hv,hr⟩:=h3
 exact⟨.ref l,_,h1,rfl,fun H=>.tup (.inr ⟨o,its,n,h2,hc,hd,hz,hv⟩) (hr K H)⟩
theorem kB{K:PySem.W.Frag}{mg:Str→Option Value}{x:Str}{s:Str}{t:Tok}(h1:mg x=some (.str s t)):m8 K mg x (.str s):=⟨.str s,_,h1,⟨t,rfl⟩,fun H=>.str s⟩
theorem wZ{K:PySem.W.Frag}{mg:Str→Option Value}{x:Str}{s:Int}{t:Tok}(h1:mg x=some (.int s t)):m8 K mg x (.int s):=⟨.int s,_,h1,⟨t,rfl⟩,fun H=>.int s⟩
theorem tR{K:PySem.W.Frag}{H:Hp}:∀ns:List Int,Reps K H (ns.map V.int) (ns.map D.int)
 |[]=>.nil
 |n::ns=>.cons (.int n) (tR ns)
theorem zB{K:PySem.W.Frag}{H:Hp}{a:Addr}{ns:List Int}{fs:FS}{n:Nat}(hl:ns.length≤n)(hO:Only H)(hS:SqL K H a (ns.map V.int))(h:fs [.d (.lst (ns.map .int))] (fun r _=>r=.d (.bl true))):spF K 1 fs [.ref a] H (fun v _=>v=.bl true) fun _ _ _=>False:=by
 have hz:SqZ K H a (ns.map V.int):=by
  rcases hS with(h|⟨o,h⟩)|h
  ·
   rcases hO a with z|⟨o,xs,z⟩
   ·
    rw[z]at h;cases h
   ·
    rw[z]at h;cases h
  ·
   exact .inl ⟨o,h⟩
  ·
   exact .inr h
 refine⟨rfl,fun _=>none,[.d (.lst (ns.map .int))],_,⟨(fun b o e=>nomatch e),(show([]:List Addr).Nodup from List.nodup_nil),(fun a h=>absurd (show a∈([]:List Addr)from h) (by simp)),.cons ⟨.ref a,rfl,.lst hz (tR ns)⟩ .nil⟩,h,fun v H' r ls' E p=>?_⟩
 subst p
 obtain⟨_,e,r⟩:=E.head_d
 cases e
 cases r
 rfl
section
variable{X:Cx}
def ye:Op2:=fun x y k=>match y with
 |.non=>k (.d (.bl (match x with | .non=>true|_=>false)))
 |_=>False
def tS:Op2:=fun x y k=>match y with
 |.non=>k (.d (.bl (match x with | .non=>false|_=>true)))
 |_=>False
theorem vn:OpD X (compareOp .Is) ye:=G5.imp fun x y k h=>by
 unfold ye at h
 split at h
 ·
  exact⟨rfl,h⟩
 ·
  exact h.elim
theorem w4:OpD X (compareOp .IsNot) tS:=EG.imp fun x y k h=>by
 unfold tS at h
 split at h
 ·
  exact⟨rfl,h⟩
 ·
  exact h.elim
end
end L2
namespace L2
open PySem
theorem q8(a b:Int):Int.gcd b (a.fmod b)=Int.gcd a b:=by
 rw[Int.fmod_def,Int.gcd_sub_mul_left_right,Int.gcd_comm]
theorem eZ(a:Int){b:Int}(h:b≠0):(a.fmod b).natAbs<b.natAbs:=by
 rw[Int.fmod_eq_emod]
 have h1:=Int.emod_nonneg a h
 have h2:a % b<(b.natAbs:Int):=Int.emod_lt a h
 split
 ·
  omega
 ·
  rename_i q
  have:a % b≠0:=fun e=>q (.inr (Int.dvd_of_emod_eq_zero e))
  omega
def frD(q:Rat):D:=.tup [.int q.num,.int (q.den:Int)]
theorem vo{t b:Int}(h:b≠0):0<Int.gcd t b:=Int.gcd_pos_of_ne_zero_right _ h
def bY(t b:Int):Int:=if b<0 then -(Int.gcd t b:Int)else(Int.gcd t b:Int)
theorem w5{t b:Int}(h:b≠0):bY t b≠0:=by
 have:=vo (t:=t) h
 unfold bY
 split<;>omega
theorem zC(t b:Int):(bY t b).natAbs=Int.gcd t b:=by
 unfold bY
 split<;>omega
theorem w7{t b:Int}(h:b≠0):(bY t b).natAbs≤b.natAbs:=by
 rw[zC]
 exact Nat.le_of_dvd (by omega) (by have:=Int.gcd_dvd_right t b;exact Int.natAbs_dvd_natAbs.mpr this |> fun q=>by simpa using q)
theorem n9{a g:Int}(hg:g≠0)(h:g∣a):a.fdiv (-g)=-(a / g):=by
 obtain⟨k,rfl⟩:=h
 rw[Int.mul_ediv_cancel_left _ hg,show g*k=(-g)*(-k) by rw[Int.neg_mul_neg],Int.mul_fdiv_cancel_left _ (by omega)]
theorem zD{t b:Int}(h:b≠0):t.fdiv (bY t b)=(Rat.divInt t b).num:=by
 have hg:=vo (t:=t) h
 have hd:(Int.gcd t b:Int)∣t:=Int.gcd_dvd_left t b
 rw[Rat.num_divInt,Int.gcd_comm b t]
 unfold bY
 split
 ·
  rename_i hb
  rw[n9 (by omega) hd,Int.sign_eq_neg_one_of_neg hb,Int.neg_one_mul,Int.neg_ediv_of_dvd hd]
 ·
  rename_i hb
  rw[Int.sign_eq_one_of_pos (by omega),Int.one_mul,Int.fdiv_eq_ediv_of_nonneg _ (by omega)]
theorem EO{t b:Int}(h:b≠0):b.fdiv (bY t b)=((Rat.divInt t b).den:Int):=by
 have hg:=vo (t:=t) h
 have hd:(Int.gcd t b:Int)∣b:=Int.gcd_dvd_right t b
 rw[Rat.den_divInt,if_neg h,Int.gcd_comm b t,Int.natCast_ediv]
 unfold bY
 split
 ·
  rename_i hb
  rw[n9 (by omega) hd,← Int.neg_ediv_of_dvd hd]
  congr 1
  omega
 ·
  rename_i hb
  rw[Int.fdiv_eq_ediv_of_nonneg _ (by omega)]
  congr 1
  omega
theorem zE{t b:Int}(h:b≠0):(Rat.divInt t b).den≤b.natAbs:=by
 rw[Rat.den_divInt,if_neg h]
 exact Nat.div_le_self _ _
theorem D0{t b:Int}(h:b≠0):(Rat.divInt t b).num.natAbs≤t.natAbs:=by
 rw[← zD h]
 exact PySem.natAbs_fdiv_le _ _
theorem den_pos(q:Rat):0<q.den:=Nat.pos_of_ne_zero q.den_nz
theorem w8(p q:Rat):Rat.divInt (p.num*(q.den:Int)+q.num*(p.den:Int)) ((p.den:Int)*(q.den:Int))=p+q:=by
 have hp:=den_pos p
 have hq:=den_pos q
 have:=Rat.divInt_add_divInt p.num q.num (d₁:=(p.den:Int)) (d₂:=(q.den:Int)) (by omega) (by omega)
 rw[Rat.num_divInt_den,Rat.num_divInt_den]at this
 exact this.symm
theorem Ha(p q:Rat):Rat.divInt (p.num*(q.den:Int)-q.num*(p.den:Int)) ((p.den:Int)*(q.den:Int))=p-q:=by
 have:=w8 p (-q)
 rw[Rat.sub_eq_add_neg,← this]
 simp only[Rat.neg_num,Rat.neg_den,Int.neg_mul,Int.sub_eq_add_neg]
def RB(n:Nat)(q:Rat):Prop:=q.num.natAbs<2^n∧q.den<2^n
theorem RB.mono{m n:Nat}{q:Rat}(h:RB m q)(hl:m≤n):RB n q:=⟨Nat.lt_of_lt_of_le h.1 (Nat.pow_le_pow_right (by decide) hl),Nat.lt_of_lt_of_le h.2 (Nat.pow_le_pow_right (by decide) hl)⟩
theorem RB.bn{n:Nat}{q:Rat}(h:RB n q)(hl:n≤1000000):bV q.num:=Nat.lt_of_lt_of_le h.1 (Nat.pow_le_pow_right (by decide) hl)
theorem RB.bd{n:Nat}{q:Rat}(h:RB n q)(hl:n≤1000000):bV (q.den:Int):=by
 unfold bV
 rw[Int.natAbs_natCast]
 exact Nat.lt_of_lt_of_le h.2 (Nat.pow_le_pow_right (by decide) hl)
theorem aZ{a b m n:Nat}(h1:a<2^m)(h2:b<2^n):a*b<2^(m+n):=by
 rw[Nat.pow_add]
 exact Nat.mul_lt_mul'' h1 h2
theorem RB.add{m n:Nat}{p q:Rat}(hp:RB m p)(hq:RB n q):RB (m+n+1) (p+q):=by
 have dp:=den_pos p
 have dq:=den_pos q
 have hne:((p.den:Int)*(q.den:Int))≠0:=Int.mul_ne_zero (by omega) (by omega)
 rw[← w8 p q]
 have a1:=aZ hp.1 hq.2
 have a2:=aZ hq.1 hp.2
 have a3:=aZ hp.2 hq.2
 have e:(2:Nat)^(m+n+1)=2^(m+n)+2^(m+n):=by rw[Nat.pow_succ];omega
 rw[Nat.add_comm n m]at a2
 constructor
 ·
  refine Nat.lt_of_le_of_lt (D0 hne) ?_
  refine Nat.lt_of_le_of_lt (Int.natAbs_add_le _ _) ?_
  rw[Int.natAbs_mul,Int.natAbs_mul,Int.natAbs_natCast,Int.natAbs_natCast,e]
  omega
 ·
  refine Nat.lt_of_le_of_lt (zE hne) ?_
  rw[Int.natAbs_mul,Int.natAbs_natCast,Int.natAbs_natCast,e]
  omega
theorem yf(p q:Rat):(p+q).den≤p.den*q.den:=by
 have dp:=den_pos p
 have dq:=den_pos q
 have hne:((p.den:Int)*(q.den:Int))≠0:=Int.mul_ne_zero (by omega) (by omega)
 rw[← w8 p q]
 have:=zE (t:=p.num*(q.den:Int)+q.num*(p.den:Int)) hne
 rw[Int.natAbs_mul,Int.natAbs_natCast,Int.natAbs_natCast]at this
 exact this
@[simp] theorem oa(i j:Int):eqD (.int i) (.int j)=decide (i=j):=by
 simp[eqD,toP,PyData.eqv]
 by_cases h:i=j<;>simp[h]
@[simp] theorem zF(i j:Str):eqD (.str i) (.str j)=decide (i=j):=by
 simp[eqD,toP,PyData.eqv]
 by_cases h:i=j<;>simp[h]
@[simp] theorem Hb(i j:Bool):eqD (.bl i) (.bl j)=decide (i=j):=by
 simp[eqD,toP,PyData.eqv]
 cases i<;>cases j<;>rfl
@[simp] theorem yg(i:Int):cO (.int i):=rfl
@[simp] theorem zG(i:Bool):cO (.bl i):=rfl
@[simp] theorem ql:cO .non:=rfl
mutual
def okD:Nat→D→Bool
 |_,.non=>true
 |_,.bl _=>true
 |_,.int _=>true
 |_,.str x=>PyData.strOk x
 |0,.tup _=>false
 |0,.lst _=>false
 |n+1,.tup xs=>okDs n xs
 |n+1,.lst xs=>okDs n xs
 |_,.dct _=>false
 |_,.exc _ _ _=>false
def okDs:Nat→List D→Bool
 |_,[]=>true
 |n,x::xs=>okD n x && okDs n xs
end
mutual
theorem rd:∀(n:Nat)(d:D),okD n d=true→(toP d).canLay0=true∧(toP d).depth≤n
 |_,.non,_=>⟨rfl,Nat.zero_le _⟩
 |_,.bl _,_=>⟨rfl,Nat.zero_le _⟩
 |_,.int _,_=>⟨rfl,Nat.zero_le _⟩
 |_,.str x,h=>⟨by simpa[okD,toP,PyData.canLay0]using h,Nat.zero_le _⟩
 |0,.tup _,h=>by simp[okD]at h
 |0,.lst _,h=>by simp[okD]at h
 | n+1,.tup xs,h=>by
  obtain⟨h1,h2⟩:=rf n xs (by simpa[okD]using h)
  exact⟨h1,Nat.succ_le_succ h2⟩
 | n+1,.lst xs,h=>by
  obtain⟨h1,h2⟩:=rf n xs (by simpa[okD]using h)
  exact⟨h1,Nat.succ_le_succ h2⟩
 |_,.dct _,h=>by simp[okD]at h
 |_,.exc _ _ _,h=>by simp[okD]at h
theorem rf:∀(n:Nat)(ds:List D),okDs n ds=true→PyData.canLayAll0 (toPs ds)=true∧PyData.depthAll (toPs ds)≤n
 |_,[],_=>⟨rfl,Nat.zero_le _⟩
 | n,d::ds,h=>by
  have h':okD n d=true∧okDs n ds=true:=by simpa[okDs]using h
  obtain⟨a1,a2⟩:=rd n d h'.1
  obtain⟨b1,b2⟩:=rf n ds h'.2
  exact⟨by simp[toPs,PyData.canLayAll0,a1,b1],by simp only[toPs,PyData.depthAll];omega⟩
end
theorem dH{n:Nat}{d:D}(h:okD n d=true)(hn:n≤64):cO d:=by
 obtain⟨h1,h2⟩:=rd n d h
 unfold cO SeqAt.shaped
 rw[h1,decide_eq_true (by omega)]
 rfl
theorem zH(xs ys:List D):eqD (.tup xs) (.tup ys)=PyData.eqvAll (toPs xs) (toPs ys):=by simp[eqD,toP,PyData.eqv]
theorem kC(x y:D)(xs ys:List D):PyData.eqvAll (toPs (x::xs)) (toPs (y::ys))=(eqD x y && PyData.eqvAll (toPs xs) (toPs ys)):=by simp[toPs,PyData.eqvAll,eqD]
theorem w9:PyData.eqvAll (toPs []) (toPs [])=true:=by simp[toPs,PyData.eqvAll]
theorem Cg{n:Nat}{d:D}(h:okD n d=true):eqD d d=true:=SeqAt.eqv_refl _ (rd n d h).1
theorem Ci(q:Rat):cO (frD q):=dH (n:=1) (by simp[frD,okD,okDs]) (by decide)
theorem Hc(p q:Rat):eqD (frD p) (frD q)=decide (p=q):=by
 unfold frD
 rw[zH,kC,kC,w9,oa,oa,Bool.and_true]
 by_cases h:p=q
 ·
  subst h;simp
 ·
  rw[decide_eq_false h]
  by_cases h1:p.num=q.num
  ·
   have:¬((p.den:Int)=(q.den:Int)):=fun e=>h (Rat.ext h1 (by omega))
   simp[this]
  ·
   simp[h1]
end L2
namespace L2
open PySem PySem.Spec PyProof.Rows
section
variable{X:Cx}{a b c:Expr}{pos p:Pos}{ta tb tc:W L}
def tT(o o':Op2)(ta tb tc:W L):W L:=fun ρ post=>ta ρ fun r ρ1=>i5 r fun i=>tb ρ1 fun r ρ2=>i5 r fun j=>o (.int i) (.int j) fun z=>isBl z fun k=>if k=true then tc ρ2 fun r ρ3=>i5 r fun l=>o' (.int j) (.int l) fun z=>post z ρ3 else post (.d (.bl false)) ρ2
def CmpI(X:Cx)(op:CmpOp)(o:Op2):Prop:=∃f:Int→Int→Bool,OpR X (compareOp op) (rI0 fun i j=>.bl (f i j))∧∀i j k,o (.int i) (.int j) k→k (.d (.bl (f i j)))
theorem He:CmpI X .Lt opLt:=⟨_,GN,fun _ _ _ h=>h⟩
theorem Hf:CmpI X .LtE opLe:=⟨_,GO,fun _ _ _ h=>h⟩
theorem Cj{op op':CmpOp}{o o':Op2}{f f':Int→Int→Bool}(h1:∀i j k,o (.int i) (.int j) k→k (.d (.bl (f i j))))(h2:∀i j k,o' (.int i) (.int j) k→k (.d (.bl (f' i j))))
  (σ:St) (H Pr:Hp) (ρ:Ev) (post:L→Ev→Prop) (Q:VK) (hQ:∀v H' r ρ',REnv X.K Pr H' (some v::σ) (r::ρ')→post r ρ'→Q v H') (E:REnv X.K Pr H σ ρ) (h:tT o o' ta tb tc ρ post) :
  DO (rI0 fun i j=>.bl (f i j)) (rI0 fun i j=>.bl (f' i j)) (tL X.K ta) (tL X.K tb) (tL X.K tc) σ H Q:=by
 refine⟨Pr,ρ,_,E,h,fun v H1 r ρ1 E1 p=>?_⟩
 obtain⟨i,rfl,p⟩:=cb p
 obtain⟨_,e1,r1⟩:=E1.head_d
 cases e1
 cases r1
 refine⟨Pr,ρ1,_,E1.tail,p,fun v H2 r ρ2 E2 p=>?_⟩
 obtain⟨j,rfl,p⟩:=cb p
 obtain⟨_,e1,r1⟩:=E2.head_d
 cases e1
 cases r1
 refine⟨i,j,rfl,rfl,f i j,rfl,?_⟩
 have q:=h1 i j _ p
 cases hk:f i j with
 | false =>
  rw[hk]at q
  exact hQ _ _ _ ρ2 (E2.tail.cons_d (.bl false)) q
 | true =>
  rw[hk]at q
  refine⟨Pr,ρ2,_,E2.tail,q,fun v H3 r ρ3 E3 p=>?_⟩
  obtain⟨l,rfl,p⟩:=cb p
  obtain⟨_,e1,r1⟩:=E3.head_d
  cases e1
  cases r1
  exact⟨j,l,rfl,rfl,hQ _ _ _ ρ3 (E3.tail.cons_d (.bl _)) (h2 j l _ p)⟩
theorem xa{op op':CmpOp}{o o':Op2}(ho:CmpI X op o)(ho':CmpI X op' o')(ha:PL X a ta)(hb:PL X b tb)(hc:PL X c tc)(hm:lastMarks [op,op'] [b,c]=false:=by with_unfolding_all rfl) :
  PL X (.Compare a [op,op'] [b,c] pos) (tT o o' ta tb tc):=by
 obtain⟨f,r1,h1⟩:=ho
 obtain⟨f',r2,h2⟩:=ho'
 exact PL.of (BR r1 r2 ha.pe hb.pe hc.pe hm) fun σ H Pr ρ post E h=>Cj (op:=op) (op':=op') h1 h2 σ H Pr ρ post _ (fun v H' r ρ' E' p=>⟨r,ρ',E',p⟩) E h
end
end L2
namespace L2
open PySem PySem.Spec PyProof.Rows PySem.Builtin.Str
section
variable{X:Cx}{a:Expr}{pos p2:Pos}{ta:W L}{x:Str}
theorem Hg:SlR X (fun x lo hi H Q=>∃z,x=.str z∧z.length≤sizeLine∧Q (.str (Txt.slice z lo hi)) H):=by
 intro pins s σ H x v vl vu lo hi sl Q I rx hs pl pu h
 obtain⟨z,rfl,hz,q⟩:=h
 obtain⟨t,rfl⟩:=rx
 refine⟨"str",_,F.slot_str_getitem.lookup,typeIs_str _ _ _,?_⟩
 obtain⟨l',rfl,rfl⟩:∃l':Option (Int×Tok),vl=partValue l'∧lo=l'.map (·.1):=by
  cases pl
  ·
   exact⟨none,rfl,rfl⟩
  ·
   exact⟨some (_,_),rfl,rfl⟩
 obtain⟨u',rfl,rfl⟩:∃l':Option (Int×Tok),vu=partValue l'∧hi=l'.map (·.1):=by
  cases pu
  ·
   exact⟨none,rfl,rfl⟩
  ·
   exact⟨some (_,_),rfl,rfl⟩
 exact wpAny_getItem_str_slice (l:=l') (u:=u') (st:=none) hs rfl (post_val_or_str ⟨Nat.le_trans (Txt.slice_le z _ _) hz,fun t' k=>⟨.str _,H,I.tok k,⟨t',rfl⟩,q⟩⟩)
def wSl2(ta:W L)(lo hi:Option (W L)):W L:=fun ρ post=>ta ρ fun r ρ1=>toD r fun d=>yd lo ρ1 fun l ρ2=>yd hi ρ2 fun u ρ3=>match d with
 |.lst xs=>∀a,post (.own a (cutD xs l u)) ρ3
 |.str z=>z.length≤sizeLine∧post (.d (.str (Txt.slice z l u))) ρ3
 |.tup xs=>¬(HT.sIx xs.length 0 l=0∧HT.sIx xs.length xs.length u=xs.length)∧post (.d (.tup (cutD xs l u))) ρ3
 |_=>False
theorem kD{lo hi:Option Expr}{tl th:Option (W L)}(ha:PL X a ta)(hl:PO' X lo tl)(hh:PO' X hi th):PL X (.Subscript a (.Slice lo hi none p2) pos) (wSl2 ta tl th):=by
 refine PL.of (BW (SlR.or Em (SlR.or Hg GS)) (au ha).pe (G8 hl) (G8 hh)) fun σ H Pr ρ post E h=>?_
 refine⟨Pr,ρ,fun r ρ1=>match r with
  | .d d=>yd tl ρ1 fun l ρ2=>yd th ρ2 fun u ρ3=>match d with
   |.lst xs=>∀a,post (.own a (cutD xs l u)) ρ3
   |.str z=>z.length≤sizeLine∧post (.d (.str (Txt.slice z l u))) ρ3
   |.tup xs=>¬(HT.sIx xs.length 0 l=0∧HT.sIx xs.length xs.length u=xs.length)∧post (.d (.tup (cutD xs l u))) ρ3
   |_=>False
  |_=>False,E,h,fun v H1 r ρ1 E1 pp=>?_⟩
 cases r with
 | d d =>
  obtain⟨_,e1,p1⟩:=E1.head_d
  cases e1
  refine⟨a5 H1 ρ1,ρ1,_,E1.tail.wide,pp,fun l H2 ρ2 E2 pp=>?_⟩
  have F2:REnv X.K Pr H2 (some v::σ) (.d d::ρ2):=REnv.step (τ:=[some v]) (lam:=[.d d]) (w:=[]) (μ:=[]) E1 rfl E2 rfl
  refine⟨a5 H2 ρ2,ρ2,_,F2.tail.wide,pp,fun u H3 ρ3 E3 pp=>?_⟩
  have F3:REnv X.K Pr H3 (some v::σ) (.d d::ρ3):=REnv.step (τ:=[some v]) (lam:=[.d d]) (w:=[]) (μ:=[]) F2 rfl E3 rfl
  obtain⟨_,e1,p1⟩:=F3.head_d
  cases e1
  cases p1 with
  |lst hz rs=>exact .inl ⟨_,_,rfl,hz.l,fun q hq=>⟨_,_,F3.tail.cons_own hq (tP rs l u),pp q⟩⟩
  |str z=>exact .inr (.inl ⟨z,rfl,pp.1,_,_,F3.tail.cons_d (.str _),pp.2⟩)
  |tup hz rs=>exact .inr (.inr ⟨_,_,rfl,hz,by rw[rs.length];exact pp.1,fun q hq=>⟨_,_,F3.tail.cons_tup hq (tP rs l u),pp.2⟩⟩)
  |_=>exact pp.elim
 |_=>exact pp.elim
def IR(K:PySem.W.Frag):V→List V→Hp→VK→Prop:=fun x vs H Q=>∃z a ys zs,x=.str z∧vs=[.ref a]∧(SqL K H a ys∨SqT K H a ys)∧ys=zs.map V.str∧(zs.map (·.length)).sum+zs.length*z.length≤16777216∧Q (.str (Txt.join z zs)) H
theorem og:∀{zs:List Str}{us:List Value},Vals (zs.map V.str) us→StrsAre us zs
 |[],_,.nil=>.nil
 | z::zs,_,.cons r t=>by
  obtain⟨t',rfl⟩:=r
  exact .cons z t' (og t)
theorem ER:MtR X "str.join" (IR X.K):=by
 intro pins s σ H x vs v us Q I rx rv h
 obtain⟨z,a,ys,zs,rfl,rfl,hq,rfl,hz,q⟩:=h
 obtain⟨t,rfl⟩:=rx
 obtain⟨u,rfl,ru⟩:=rv.one
 cases ru
 rcases hq with hq|hq
 ·
  obtain⟨its,r,pl,_⟩:=I.list hq
  exact join_list pl.isList (by simpa using og r) hz fun t' k=>⟨.str _,H,I.tok k,⟨t',rfl⟩,q⟩
 ·
  obtain⟨its,r,pl,_⟩:=I.tuple hq
  exact join_tuple pl (by simpa using og r) hz fun t' k=>⟨.str _,H,I.tok k,⟨t',rfl⟩,q⟩
end
section
variable{X:Cx}{e a b c:Expr}{es:List Expr}{pos p apos cpos:Pos}{te:W L}{x y:Str}
def ES(z:Str)(te:W L):W L:=fun ρ post=>te ρ fun r ρ1=>toD r fun d=>gR d fun xs=>∃zs,xs=zs.map D.str∧(zs.map (·.length)).sum+zs.length*z.length≤16777216∧post (.d (.str (Txt.join z zs))) ρ1
theorem oh{K:PySem.W.Frag}{H:Hp}:∀{zs:List Str}{vs:List V},Reps K H vs (zs.map D.str)→vs=zs.map V.str
 |[],_,.nil=>rfl
 | z::zs,_,.cons r t=>by
  cases r
  rw[oh t]
  rfl
theorem ET{z:Str}{j:Nat}{pz:Pos}(he:PL X e te)(hs1:starEach [e] X.env=[(false,eval e X.env)]:=by rfl) (hbase:attributeBase (.Constant (.str z) j pz) "join" X.env (eval (.Constant (.str z) j pz) X.env)=eval (.Constant (.str z) j pz) X.env:=by rfl)
  (hfew:((backTo cpos (starEach [e] X.env)).all (fun x=>!x.1) && (backToKw cpos (keywordEach [] X.env)).all (fun x=>x.1.isSome)
   && decide (([e]).length+([]:List Keyword).length+(if([]:List Keyword).isEmpty then 0 else 1)<30))=true:=by rfl)
  (hline:(apos.endLine == cpos.line)=true:=by rfl) (hplain:(backTo cpos (starEach ([]:List Expr) X.env)).any (·.1)=false:=by rfl) :
  PL X (.Call (.Attribute (.Constant (.str z) j pz) "join" apos) [e] [] cpos) (ES z te):=by
 refine PL.of (BZ PySem.F.plainAttrs_str PySem.F.slot_str_join PySem.F.type_str_join ER DL (di (au he).pe km hs1) (hbase:=hbase) (hfew:=hfew) (hline:=hline) (hs:=hs1) (hplain:=hplain)) fun σ H Pr ρ post E h=>?_
 refine⟨rfl,Pr,ρ,fun r ρ1=>match r with
  |.d d=>gR d fun xs=>∃zs,xs=zs.map D.str∧(zs.map (·.length)).sum+zs.length*z.length≤16777216∧post (.d (.str (Txt.join z zs))) ρ1
  |_=>False,E,h,fun v H' r ρ' E' pp=>?_⟩
 cases r with
 | d d =>
  obtain⟨_,e1,p1⟩:=E'.head_d
  cases e1
  cases p1 with
  | lst hz rs =>
   obtain⟨zs,rfl,hl,pp⟩:=pp
   exact⟨z,_,_,zs,rfl,rfl,.inl hz.l,oh rs,hl,_,_,E'.tail.cons_d (.str _),pp⟩
  | tup hz rs =>
   obtain⟨zs,rfl,hl,pp⟩:=pp
   exact⟨z,_,_,zs,rfl,rfl,.inr hz,oh rs,hl,_,_,E'.tail.cons_d (.str _),pp⟩
  |_=>exact pp.elim
 |_=>exact pp.elim
theorem Inv.turnedL{pins:List (Addr×Obj)}{σ:St}{H:Hp}{s:Shared}{h':Heap}{t':Nat}{fp:List Addr}(I:Inv X pins σ H s)(k:∀b o,b∉fp→s.heap.get? b=some o→h'.get? b=some o)(hf:∀b∈fp,FpOk X pins H b):Inv X pins σ H {s with heap:=h',toks:=t' }:=by
 have nit:∀b u,H b=some u→b∉fp:=fun b u e z=>by rw[(hf b z).1]at e;cases e
 refine I.step (g':=s.gens) (d':=s.drawn) (ch:=fp) (fun b hb=>?_) (fun b o _ _ hc e _=>k b o hc e) (fun b o _ _ hc e _=>⟨o.slots,k b o hc e⟩) (fun _ _ _ _ n=>n)
  (fun b o hc e=>⟨o,k b o hc e⟩) (fun _ _ e=>e) (fun _ _ _ e=>e) (fun b ps e=>⟨#[],by rw[e];simp⟩) (fun m hm=>?_) (fun b u e=>?_) I.bare
 ·
  obtain⟨f0,f1,f2,f3,f4,f5⟩:=hf b hb
  exact⟨f3,f1,f4,f5⟩
 ·
  obtain⟨o,es,ep,ho,r⟩:=hm
  exact⟨o,es,ep,k _ o (fun z=>(hf _ z).2.1 rfl) ho,r⟩
 ·
  refine(I.hok b u e).stay (fun c v hc q=>k c v ?_ q) (fun _ q=>q) fun _ _ q=>q
  rcases hc with z|z
  ·
   rw[z];exact nit b u e
  ·
   exact nit c _ z
def Ite(K:PySem.W.Frag)(a:Addr):It :=
 ⟨fun i H=>∃xs x,SqL K H a xs∧xs[i]?=some x,fun i H v H'=>∃p x,v=.ref p∧H p=none∧H'=upd H p (.tup [.int i,x])∧∀xs,SqL K H a xs→xs[i]?=some x,fun i H=>∃xs,SqL K H a xs∧xs.length≤i⟩
theorem zJ{P:Program}{w:World}{K:PySem.W.Frag}{k:Nat}(q it a:Addr)(hne:q≠it):Turn P w K (.Tuple es k pos) (Ite K a) [q,it] q (fun i h=>(∃old,IsEnum h q it i old)∧h.IsListIter it a i) where
 mem:=by simp
 obj:=fun i h st b hb=>by
  obtain⟨⟨old,he⟩,o,e,c,d⟩:=st
  rcases List.mem_cons.mp hb with rfl|hb
  ·
   exact⟨_,he,fun v z=>by
    have z':Data.fields _=Data.cell v:=z
    cases z'⟩
  ·
   have e':b=it:=by simpa using hb
   subst e'
   exact⟨o,e,fun v z=>by rw[d]at z;cases z⟩
 keep:=fun i h h' st kk=>⟨let ⟨old,he⟩:=st.1;⟨old,kk q (by simp) _ he⟩,st.2.at fun o e=>kk it (by simp) o e⟩
 item:=by
  intro X hP hw hK hc i pins s σ H E I hf st hg
  subst hP hw hK
  obtain⟨xs,x,hq,hx⟩:=hg
  obtain⟨its,rv,p,hz⟩:=I.list hq
  obtain⟨u,hu,ru⟩:=rv.get hx
  obtain⟨⟨old,he⟩,hit⟩:=st
  have hai:a≠it:=fun z=>by
   subst z
   obtain⟨o,e,c,d⟩:=hit
   obtain⟨o',e',c',_⟩:=p.isList
   rw[e]at e';cases e'
   rw[c]at c';exact absurd c' (by simp)
  have hqa:q≠a:=fun z=>by
   subst z
   obtain⟨o',e',c',_⟩:=p.isList
   rw[he]at e';cases e'
   exact absurd c' (by simp)
  have D:=Draws.list (prog:=X.prog) (w:=X.w) (A:=X.A.in1) (I.ok.hd hc) it a hai its.toArray
  have hlt:i<its.toArray.size:=by
   rw[List.size_toArray]
   exact(List.getElem?_eq_some_iff.mp hu).1
  refine wpAny_pyNext_enum_itemD D he ⟨hit,p.isList⟩ hlt hne (by simp[hne,hqa]) fun x' h' tk hPx hout hst' htup hsz hk=>?_
  have hx':x'=u:=by
   have:its.toArray[i]?=some u:=by simpa using hu
   rw[this]at hPx;exact(Option.some.inj hPx).symm
  subst hx'
  refine⟨.ref s.heap.objs.size,rfl,wpAny_letOwnedTupleGo_enum (s:={s with heap:=h',toks:=tk+1}) hout fun h'' he'' hs''=>?_⟩
  have qlt:q<s.heap.objs.size:=Heap.lt_size he
  have ilt:it<s.heap.objs.size:=by obtain⟨o,e,_⟩:=hit;exact Heap.lt_size e
  have I1:Inv X pins σ (upd H s.heap.objs.size (.tup [.int i,x])) {s with heap:=s.heap.push {cls:=.type "tuple",data:=.seq #[.int i tk,x'] },toks:=tk} :=
   I.laid (fun b ob q=>Heap.get?_push_of_some _ q) (Nat.le_refl _) ⟨by show 2≤sizeLine;decide,[.int i tk,x'],.cons ⟨tk,rfl⟩ (.cons ru .nil),⟨_,Heap.get?_push_size _ rfl,rfl,_,rfl⟩⟩
  have hf1:∀b∈[q,it],FpOk X pins (upd H s.heap.objs.size (.tup [.int i,x])) b:=fun b hb=>by
   refine⟨?_,(hf b hb).2⟩
   rw[aB ?_]
   ·
    exact(hf b hb).1
   ·
    rcases List.mem_cons.mp hb with rfl|hb
    ·
     exact Nat.ne_of_lt qlt
    ·
     rw[List.mem_singleton.mp hb];exact Nat.ne_of_lt ilt
  have I2:=I1.turnedL (h':=h'') (t':=tk+1) (fp:=[q,it]) (fun b o hb e=>by
   have hbq:b≠q:=fun z=>hb (by simp[z])
   have hbi:b≠it:=fun z=>hb (by simp[z])
   refine(hs''.2 b hbq).trans ?_
   rcases Heap.get?_push_cases e with⟨rfl,rfl⟩|e
   ·
    exact htup
   ·
    exact hk b o hbq hbi e) hf1
  refine⟨.ref s.heap.objs.size,_,I2,rfl,⟨_,x,rfl,I.fresh,rfl,fun ys hy=>by rw[I.list_inj hy hq];exact hx⟩,⟨⟨_,by simpa using he''⟩,hst'.1.extBut hs''.extBut (Ne.symm hne)⟩,fun b hb=>(hf1 b hb).1⟩
 done:=by
  intro X hP hw hK hc i pins s σ H E I hf st hg
  subst hP hw hK
  obtain⟨xs,hq,hx⟩:=hg
  obtain⟨its,rv,p,hz⟩:=I.list hq
  obtain⟨⟨old,he⟩,hit⟩:=st
  have hai:a≠it:=fun z=>by
   subst z
   obtain⟨o,e,c,d⟩:=hit
   obtain⟨o',e',c',_⟩:=p.isList
   rw[e]at e';cases e'
   rw[c]at c';exact absurd c' (by simp)
  have hl:=rv.length
  have hT:s.TypeIs (.ref q) "enumerate":=⟨_,he,rfl⟩
  unfold pyNext
  refine wpAny_bind (wpAny_attempt (wpAny_callSpecial?_slot (name:=Str.ofString "__next__") hT F.slot_enumerate_next
   (wpAny_call_entry F.slot_enumerate_next hT F.entry_enumerate_next ?_ (F.args_enumerate_next_1 _))))
  show wpAny _ _ (field (.ref q) 2 >>= _) _ _ _
  refine wpAny_bind (wpAny_field he rfl (x:=.ref it) rfl ?_)
  refine wpAny_bind (wpAny_nextOf_list_end (I.ok.hd hc) hit p.isList (by simp;omega) fun h' x he' hx'=>?_)
  obtain⟨o,ho,hcc⟩:=hx'
  refine wpAny_bind (wpAny_isInstance (T:="StopIteration") (b:=true) ⟨o,ho,hcc⟩ isSubtype_stop ?_)
  refine wpAny_pure ⟨rfl,?_⟩
  exact I.turnedL (t':=s.toks) (fp:=[q,it]) (fun b o hb e=>he' b o (fun z=>hb (by simp[z])) e) hf
 self:=fun _ _ _ _ _ st h=>let ⟨_,he⟩:=st.1;wpAny_pyIter_enum he h
def gW(xs:List D):List D:=xs.zipIdx.map fun p=>.tup [.int (p.2:Int),p.1]
theorem yh{K:PySem.W.Frag}{H:Hp}{a:Addr}{vs:List V}{xs:List D}(h:SqZ K H a vs)(r:Reps K H vs xs):vi K H (Ite K a) (gW xs):=fun H' p=>by
 have h':=(h.pres p).l
 have hlen:(gW xs).length=vs.length:=by rw[r.length];simp[gW]
 refine⟨fun i x e=>?_,⟨vs,h',by rw[hlen];exact Nat.le_refl _⟩⟩
 have hi:i<vs.length:=by rw[← hlen];exact(List.getElem?_eq_some_iff.mp e).1
 have hi2:i<xs.length:=by rw[← r.length];exact hi
 have ex:x=.tup [.int (i:Int),xs[i]]:=by
  have:(gW xs)[i]?=some (.tup [.int (i:Int),xs[i]]):=by simp[gW,hi2]
  rw[this]at e
  exact(Option.some.inj e).symm
 obtain⟨v,ev,rv⟩:=r.get (i:=i) (List.getElem?_eq_getElem hi2)
 refine⟨⟨vs,v,h',ev⟩,fun w H2 ⟨q,y,e1,e2,e3,e4⟩=>?_⟩
 have e5:=e4 vs h'
 rw[ev]at e5
 cases e5
 subst e1 e3 ex
 refine⟨.inr ⟨_,_,e2,rfl⟩,.tup (.inl (.inl (bo ..))) (.cons (.int _) (.cons ((rv.pres p).new e2) .nil))⟩
def yi(t:W L):W (List D):=fun ρ post=>t ρ fun r ρ1=>toD r fun d=>match d with
 |.lst xs=>post (gW xs) ρ1
 |_=>False
theorem nG{k:Nat}{t:W L} (hg:Gl X "enumerate") (hm:X.mg "enumerate"=none) (ha:PL X a t) (hs:starEach [a] X.env=[(false,eval a X.env)]:=by rfl):PIL X (.Tuple es k apos) (.Call (.Name "enumerate" p) [a] [] pos) (yi t):=by
 intro pins s σ H Pr ρ post I E h
 refine Call_ (gH I hg hm boot_enumerate (PyProof.Rows.callWith_type1 (thn (af (au ha) ah hs pos pins s σ H Pr ρ (fun ls ρ1=>match ls with
  |[.d (.lst xs)]=>post (gW xs) ρ1
  |_=>False) I E ?_) fun us s1 ⟨vs,H1,ls,ρ1,I1,r1,hl,hb,E1,_,q1⟩=>?_) hs rfl))
 ·
  show t ρ _
  have e:(fun r ρ1=>toD r fun d=>match d with | .lst xs=>post (gW xs) ρ1|_=>False)=(fun r ρ1=>toD r fun x=>aNil ρ1 fun xs ρ2=>match L.d x::xs with | [.d (.lst xs)]=>post (gW xs) ρ2|_=>False):=by
   funext r ρ1
   cases r with
   |un=>rfl
   |d d=>cases d<;>rfl
   |own=>rfl
   | bx b ls =>
    show cP (bc (.bx b ls)) _=cP (bc (.bx b ls)) _
    cases bc (.bx b ls)with
    |none=>rfl
    |some d=>cases d<;>rfl
   |dic b ls=>rfl
  rw[← e]
  exact h
 ·
  dsimp only at q1
  split at q1
  ·
   rename_i xs
   cases vs with
   |nil=>exact absurd hl (by simp)
   | cons v vs =>
    have:vs=[]:=by
     have:vs.length=0:=by simpa using hl
     exact List.length_eq_zero_iff.mp this
    subst this
    obtain⟨_,e1,p1⟩:=REnv.head_d (σ:=σ) (ρ:=ρ1) E1
    cases e1
    cases p1 with
    | lst hz rs =>
     obtain⟨u,rfl,ru⟩:=r1.one
     cases ru
     obtain⟨its,rv,pl,hz'⟩:=I1.list hz.l
     refine call_enumerate_list pl.isList fun h' hE hI hsz hk=>?_
     refine wpAny_pyIter_enum (s:={s1 with heap:=h' }) hE ?_
     have E2:REnv X.K Pr H1 σ ρ1:=REnv.tail (σ:=σ) (ρ:=ρ1) E1
     refine⟨s1.heap.objs.size+1,[s1.heap.objs.size+1,s1.heap.objs.size],_,_,H1,_,ρ1,rfl,I1.kept (t':=s1.toks) hk,zJ _ _ _ (Nat.succ_ne_self _),⟨⟨_,hE⟩,hI⟩,fun b hb=>?_,E2,yh hz rs,q1⟩
     have hb':s1.heap.objs.size≤b:=by
      rcases List.mem_cons.mp hb with rfl|hb
      ·
       exact Nat.le_succ _
      ·
       rw[List.mem_singleton.mp hb];exact Nat.le_refl _
     exact I1.fpOk hb' (I1.hok.fresh hb')
  ·
   exact q1.elim
end
section
variable{X:Cx}{e a b:Expr}{es:List Expr}{pos p p2 apos:Pos}{x y:Str}
def Itz(K:PySem.W.Frag)(a b:Addr):It :=
 ⟨fun i H=>∃xs ys x y,SqL K H a xs∧SqL K H b ys∧xs[i]?=some x∧ys[i]?=some y,fun i H v H'=>∃p x y,v=.ref p∧H p=none∧H'=upd H p (.tup [x,y])∧(∀xs,SqL K H a xs→xs[i]?=some x)∧∀ys,SqL K H b ys→ys[i]?=some y,
  fun i H=>∃xs ys,SqL K H a xs∧SqL K H b ys∧(xs.length≤i∨ys.length≤i)⟩
theorem bZ{h:Heap}{l a:Addr}{its:Array Value}{o:Obj}(hl:h.IsList l its)(ho:h.get? a=some o) (hc:o.cls≠.type "list"):l≠a:=fun z=>by
 subst z
 obtain⟨o',e',c',_⟩:=hl
 rw[ho]at e';cases e'
 exact hc c'
theorem Ck{P:Program}{w:World}{K:PySem.W.Frag}{k:Nat}(z TI TO i1 i2 l1 l2:Addr)(hnd:[z,TI,TO,i1,i2].Nodup):Turn P w K (.Tuple es k pos) (Itz K l1 l2) [z,TI,TO,i1,i2] z
  (fun i h=>IsZip h z TI TO .none∧IsPair h TI (.ref i1) (.ref i2)∧(∃a b,IsPair h TO a b)∧h.IsListIter i1 l1 i∧h.IsListIter i2 l2 i) where
 mem:=by simp
 obj:=fun i h st b hb=>by
  obtain⟨hz,hTI,⟨p,q,hTO⟩,⟨o1,e1,c1,d1⟩,⟨o2,e2,c2,d2⟩⟩:=st
  simp only[List.mem_cons,List.not_mem_nil,or_false]at hb
  rcases hb with rfl|rfl|rfl|rfl|rfl
  ·
   exact⟨_,hz,fun v z=>by
    have z':Data.fields _=Data.cell v:=z
    cases z'⟩
  ·
   exact⟨_,hTI,fun v z=>by
    have z':Data.seq _ _=Data.cell v:=z
    cases z'⟩
  ·
   exact⟨_,hTO,fun v z=>by
    have z':Data.seq _ _=Data.cell v:=z
    cases z'⟩
  ·
   exact⟨o1,e1,fun v z=>by rw[d1]at z;cases z⟩
  ·
   exact⟨o2,e2,fun v z=>by rw[d2]at z;cases z⟩
 keep:=fun i h h' st kk=>by
  obtain⟨hz,hTI,⟨p,q,hTO⟩,h1,h2⟩:=st
  exact⟨kk z (by simp) _ hz,kk TI (by simp) _ hTI,⟨p,q,kk TO (by simp) _ hTO⟩,h1.at fun o e=>kk i1 (by simp) o e,h2.at fun o e=>kk i2 (by simp) o e⟩
 item:=by
  intro X hP hw hK hc i pins s σ H E I hf st hg
  subst hP hw hK
  obtain⟨xs,ys,x,y,hq1,hq2,hx,hy⟩:=hg
  obtain⟨its,rv,pl,_⟩:=I.list hq1
  obtain⟨its2,rv2,pl2,_⟩:=I.list hq2
  obtain⟨u,hu,ru⟩:=rv.get hx
  obtain⟨u2,hu2,ru2⟩:=rv2.get hy
  obtain⟨hz,hTI,⟨p,q,hTO⟩,h1,h2⟩:=st
  obtain⟨o1,e1,c1,d1⟩:=id h1
  obtain⟨o2,e2,c2,d2⟩:=id h2
  have n1:o1.cls≠.type "list":=by rw[c1]; simp
  have n2:o2.cls≠.type "list":=by rw[c2]; simp
  simp only[List.nodup_cons,List.mem_cons,List.not_mem_nil,or_false,not_or,List.nodup_nil,and_true,not_false_eq_true]at hnd
  obtain⟨⟨a1,a2,a3,a4⟩,⟨b1,b2,b3⟩,⟨c1',c2'⟩,d1'⟩:=hnd
  have D:ZipApart z TI TO i1 i2 l1 l2:=⟨Ne.symm a1,Ne.symm a2,Ne.symm a3,Ne.symm a4,b1,b2,b3,c1',c2',d1',bZ pl.isList hz (by simp),bZ pl.isList hTO (by simp),bZ pl.isList e1 n1,bZ pl.isList e2 n2,
   bZ pl2.isList hz (by simp),bZ pl2.isList hTO (by simp),bZ pl2.isList e1 n1,bZ pl2.isList e2 n2⟩
  refine wpAny_pyNext_zip_item D hz hTI hTO h1 h2 pl.isList pl2.isList (x:=u) (y:=u2) (by simpa using hu) (by simpa using hu2) fun h' hz' hTO' h1' h2' hT' hsz hk=>?_
  refine⟨.ref s.heap.objs.size,rfl,wpAny_letOwnedTupleGo_zip (s:={s with heap:=h' }) hz' fun h'' hz'' hs''=>?_⟩
  have lt:∀b∈[z,TI,TO,i1,i2],b<s.heap.objs.size:=fun b hb=>by
   simp only[List.mem_cons,List.not_mem_nil,or_false]at hb
   rcases hb with rfl|rfl|rfl|rfl|rfl
   ·
    exact Heap.lt_size hz
   ·
    exact Heap.lt_size hTI
   ·
    exact Heap.lt_size hTO
   ·
    exact Heap.lt_size e1
   ·
    exact Heap.lt_size e2
  have I1:Inv X pins σ (upd H s.heap.objs.size (.tup [x,y])) {s with heap:=s.heap.push {cls:=.type "tuple",data:=.seq #[u,u2] },toks:=s.toks} :=
   I.laid (fun b ob q=>Heap.get?_push_of_some _ q) (Nat.le_refl _) ⟨by show 2≤sizeLine;decide,[u,u2],.cons ru (.cons ru2 .nil),⟨_,Heap.get?_push_size _ rfl,rfl,_,rfl⟩⟩
  have hf1:∀b∈[z,TI,TO,i1,i2],FpOk X pins (upd H s.heap.objs.size (.tup [x,y])) b:=fun b hb=>by
   refine⟨?_,(hf b hb).2⟩
   rw[aB (Nat.ne_of_lt (lt b hb))]
   exact(hf b hb).1
  have I2:=I1.turnedL (h':=h'') (t':=s.toks) (fp:=[z,TI,TO,i1,i2]) (fun b o hb e=>by
   simp only[List.mem_cons,List.not_mem_nil,or_false,not_or]at hb
   obtain⟨hbz,hbTI,hbTO,hb1,hb2⟩:=hb
   refine(hs''.2 b hbz).trans ?_
   rcases Heap.get?_push_cases e with⟨rfl,rfl⟩|e
   ·
    exact hT'
   ·
    exact hk b o hbz hbTO hb1 hb2 e) hf1
  exact⟨.ref s.heap.objs.size,_,I2,rfl,⟨_,x,y,rfl,I.fresh,rfl,fun zs hy'=>by rw[I.list_inj hy' hq1];exact hx,fun zs hy'=>by rw[I.list_inj hy' hq2];exact hy⟩,
   ⟨hz'',hs''.extBut _ _ D.TIz (hk _ _ D.TIz D.TITO D.TIi1 D.TIi2 hTI),⟨_,_,hs''.extBut _ _ D.TOz hTO'⟩,h1'.extBut hs''.extBut D.i1z,h2'.extBut hs''.extBut D.i2z⟩,fun b hb=>(hf1 b hb).1⟩
 done:=by
  intro X hP hw hK hc i pins s σ H E I hf st hg
  subst hP hw hK
  obtain⟨xs,ys,hq1,hq2,hend⟩:=hg
  obtain⟨its,rv,pl,_⟩:=I.list hq1
  obtain⟨its2,rv2,pl2,_⟩:=I.list hq2
  obtain⟨hz,hTI,⟨p,q,hTO⟩,h1,h2⟩:=st
  obtain⟨o1,e1,c1,d1⟩:=id h1
  obtain⟨o2,e2,c2,d2⟩:=id h2
  have n1:o1.cls≠.type "list":=by rw[c1]; simp
  have n2:o2.cls≠.type "list":=by rw[c2]; simp
  simp only[List.nodup_cons,List.mem_cons,List.not_mem_nil,or_false,not_or,List.nodup_nil,and_true,not_false_eq_true]at hnd
  obtain⟨⟨a1,a2,a3,a4⟩,⟨b1,b2,b3⟩,⟨c1',c2'⟩,d1'⟩:=hnd
  have D:ZipApart z TI TO i1 i2 l1 l2:=⟨Ne.symm a1,Ne.symm a2,Ne.symm a3,Ne.symm a4,b1,b2,b3,c1',c2',d1',bZ pl.isList hz (by simp),bZ pl.isList hTO (by simp),bZ pl.isList e1 n1,bZ pl.isList e2 n2,
   bZ pl2.isList hz (by simp),bZ pl2.isList hTO (by simp),bZ pl2.isList e1 n1,bZ pl2.isList e2 n2⟩
  have hl:=rv.length
  have hl2:=rv2.length
  have hend':its.toArray[i]?=none∨its2.toArray[i]?=none:=by
   rcases hend with h|h
   ·
    exact .inl (by simp;omega)
   ·
    exact .inr (by simp;omega)
  refine wpAny_pyNext_zip_end (I.ok.hd hc) D hz hTI hTO h1 h2 pl.isList pl2.isList hend' fun h' hk=>⟨rfl,?_⟩
  exact I.turnedL (t':=s.toks) (fp:=[z,TI,TO,i1,i2]) (fun b o hb e=>hk b o (fun z=>hb (by simp[z])) (fun z=>hb (by simp[z])) (fun z=>hb (by simp[z])) (fun z=>hb (by simp[z])) e) hf
 self:=fun _ _ _ _ _ st h=>wpAny_pyIter_zip st.1 h
def zipD(xs ys:List D):List D:=(xs.zip ys).map fun p=>.tup [p.1,p.2]
theorem zK{K:PySem.W.Frag}{H:Hp}{a b:Addr}{vs ws:List V}{xs ys:List D}(h:SqZ K H a vs)(r:Reps K H vs xs)(h2:SqZ K H b ws)(r2:Reps K H ws ys):vi K H (Itz K a b) (zipD xs ys):=fun H' p=>by
 have h':=(h.pres p).l
 have h2':=(h2.pres p).l
 have hlen:(zipD xs ys).length=min vs.length ws.length:=by rw[r.length,r2.length];simp[zipD]
 refine⟨fun i x e=>?_,⟨vs,ws,h',h2',by rw[hlen];omega⟩⟩
 have hi:i<min vs.length ws.length:=by rw[← hlen];exact(List.getElem?_eq_some_iff.mp e).1
 have hi2:i<xs.length:=by rw[← r.length];omega
 have hi3:i<ys.length:=by rw[← r2.length];omega
 have ex:x=.tup [xs[i],ys[i]]:=by
  have:(zipD xs ys)[i]?=some (.tup [xs[i],ys[i]]):=by simp[zipD,hi2,hi3,List.getElem?_zip_eq_some]
  rw[this]at e
  exact(Option.some.inj e).symm
 obtain⟨v,ev,rv⟩:=r.get (i:=i) (List.getElem?_eq_getElem hi2)
 obtain⟨v2,ev2,rv2⟩:=r2.get (i:=i) (List.getElem?_eq_getElem hi3)
 refine⟨⟨vs,ws,v,v2,h',h2',ev,ev2⟩,fun w H2 ⟨q,y,y2,e1,e2,e3,e4,e5⟩=>?_⟩
 have e6:=e4 vs h'
 have e7:=e5 ws h2'
 rw[ev]at e6
 rw[ev2]at e7
 cases e6
 cases e7
 subst e1 e3 ex
 refine⟨.inr ⟨_,_,e2,rfl⟩,.tup (.inl (.inl (bo ..))) (.cons ((rv.pres p).new e2) (.cons ((rv2.pres p).new e2) .nil))⟩
def zipK(d d2:D)(k:List D→Prop):Prop:=match d,d2 with
 |.lst xs,.lst ys=>k (zipD xs ys)
 |_,_=>False
def wZip(t u:W L):W (List D):=fun ρ post=>t ρ fun r ρ1=>toD r fun d=>u ρ1 fun r2 ρ2=>toD r2 fun d2=>zipK d d2 fun zs=>post zs ρ2
theorem zL{k:Nat}{t u:W L} (hg:Gl X "zip") (hm:X.mg "zip"=none) (ha:PL X a t) (hb:PL X b u) (hs:starEach [a,b] X.env=[(false,eval a X.env),(false,eval b X.env)]:=by rfl) (hs2:starEach [b] X.env=[(false,eval b X.env)]:=by rfl) :
  PIL X (.Tuple es k apos) (.Call (.Name "zip" p) [a,b] [] pos) (wZip t u):=by
 intro pins s σ H Pr ρ post I E h
 refine Call_ (gH I hg hm boot_zip (PyProof.Rows.callWith_type1 (thn (af (au ha) (af (au hb) ah hs2) (by rw[hs,hs2]) pos pins s σ H Pr ρ (fun ls ρ1=>match ls with
  |[.d d,.d d2]=>zipK d d2 fun zs=>post zs ρ1
  |_=>False) I E ?_) fun us s1 ⟨vs,H1,ls,ρ1,I1,r1,hl,hb,E1,_,q1⟩=>?_) (by rw[hs,hs2]) (by rw[hs2];rfl)))
 ·
  show t ρ _
  have e:(fun r ρ1=>toD r fun d=>u ρ1 fun r2 ρ2=>toD r2 fun d2=>zipK d d2 fun zs=>post zs ρ2)
    = (fun r ρ1=>toD r fun x=>aVal (wFrz u) aNil ρ1 fun xs ρ2=>match L.d x::xs with | [.d d,.d d2]=>zipK d d2 fun zs=>post zs ρ2|_=>False):=by
   funext r ρ1
   cases r with
   |un=>rfl
   |d d=>rfl
   |own a xs=>rfl
   | bx b ls =>
    show cP (bc (.bx b ls)) _=cP (bc (.bx b ls)) _
    cases bc (.bx b ls)<;>rfl
   |dic b ls=>rfl
  rw[← e]
  exact h
 ·
  dsimp only at q1
  split at q1
  ·
   rename_i d d2
   unfold zipK at q1
   split at q1
   rotate_left
   ·
    exact q1.elim
   rename_i xs ys
   match vs,hl with
   | [v,v2],_ =>
    obtain⟨_,e1,p1⟩:=REnv.head_d (σ:=some v2::σ) (ρ:=.d (.lst ys)::ρ1) E1
    cases e1
    obtain⟨_,e1,p2⟩:=REnv.head_d (σ:=σ) (ρ:=ρ1) (REnv.tail (σ:=some v2::σ) (ρ:=.d (.lst ys)::ρ1) E1)
    cases e1
    cases p1 with
    | lst hz rs =>
     cases p2 with
     | lst hz2 rs2 =>
      obtain⟨u1,u2,rfl,ru,ru2⟩:=r1.two
      cases ru
      cases ru2
      obtain⟨its,rv,pl,_⟩:=I1.list hz.l
      obtain⟨its2,rv2,pl2,_⟩:=I1.list hz2.l
      refine call_zip_2 pl.isList pl2.isList fun h' hZ hTI hTO hI1 hI2 hsz hk=>?_
      refine wpAny_pyIter_zip (s:={s1 with heap:=h' }) hZ ?_
      have E1':REnv X.K Pr H1 (some _::some _::σ) (.d _::.d _::ρ1):=E1
      have E2:REnv X.K Pr H1 σ ρ1:=E1'.tail.tail
      refine⟨s1.heap.objs.size+4,[s1.heap.objs.size+4,s1.heap.objs.size+2,s1.heap.objs.size+3,s1.heap.objs.size,s1.heap.objs.size+1],_,_,H1,_,ρ1,rfl,I1.kept (t':=s1.toks) hk,Ck _ _ _ _ _ _ _ (by simp),⟨hZ,hTI,⟨_,_,hTO⟩,hI1,hI2⟩,fun b hb=>?_,E2,zK hz rs hz2 rs2,q1⟩
      have hb':s1.heap.objs.size≤b:=by
       simp only[List.mem_cons,List.not_mem_nil,or_false]at hb
       rcases hb with rfl|rfl|rfl|rfl|rfl
       ·
        exact Nat.le_add_right _ _
       ·
        exact Nat.le_add_right _ _
       ·
        exact Nat.le_add_right _ _
       ·
        exact Nat.le_refl _
       ·
        exact Nat.le_add_right _ _
      exact I1.fpOk hb' (I1.hok.fresh hb')
  ·
   exact q1.elim
end
section
variable{X:Cx}{e a b:Expr}{es:List Expr}{pos p apos cpos:Pos}{te:W L}{x y:Str}
def PTcs(X:Cx)(es:List Expr)(n:Nat)(is:List Nat):Prop:=∃gg:TGs,PGs X es gg∧es.length=is.length∧∀vs σ H Pr ρ xs k,σ.length=X.N.length→REnv X.K Pr H σ ρ→Reps X.K H vs xs→fU is xs ρ k→gg vs σ H fun σ' H'=>H'=H∧σ'.drop n=σ.drop n∧∃ρ',REnv X.K Pr H σ' ρ'∧k ρ'
theorem lK{n:Nat}:PTcs X [] n []:=⟨_,yV,rfl,fun vs σ H Pr ρ xs k hl E r h=>by
 cases r with
 |nil=>exact⟨rfl,rfl,rfl,ρ,E,h⟩
 |cons _ _=>exact h.elim⟩
theorem cf{i n:Nat}{is:List Nat}{x:Str}(hn:i<n)(hN:X.N.Nodup)(hi:X.N[i]?=some x)(hx:Loc X.env.scope x)(hr:PTcs X es n is)(hf:X.fn x=true∨X.env.scope.names.lookup x=some .local:=by first|exact .inl rfl|exact .inr rfl|assumption)
  (hs:(assignEach (.Name x pos::es) X.env).map (·.2)=assign (.Name x pos) X.env::(assignEach es X.env).map (·.2):=by rfl):PTcs X (.Name x pos::es) n (i::is):=by
 obtain⟨gg,hg,hlen,q⟩:=hr
 refine⟨_,wJ (qL hN hi hx hf) hg hs,by simp[hlen],fun vs σ H Pr ρ xs k hl E r h=>?_⟩
 cases r with
 |nil=>exact h.elim
 | cons r0 t =>
  refine⟨_,_,rfl,?_⟩
  have:=q _ (σ.set i (some _)) H Pr _ _ k (by simpa using hl) ((E.cons_d r0).store (by rw[hl];exact(List.getElem?_eq_some_iff.mp hi).1)) t h
  rw[List.drop_set_of_lt hn]at this
  exact this
theorem qn{is:List Nat}{k n:Nat}(hc:X.calm=true)(h:PTcs X es n is)(hn:(assignEach es X.env).length=is.length:=by rfl)(hst:(assignEach es X.env).findIdx? (·.1)=none:=by rfl):PTc X (.Tuple es k pos) n (dU is):=by
 obtain⟨gg,hg,hlen,q⟩:=h
 refine⟨_,DM hc hg hn hst,fun v σ H Pr ρ x k hl E r h=>?_⟩
 cases r with
 |tup hs rs=>exact⟨_,_,rfl,hs,by rw[rs.length];exact jE h,q _ σ H Pr ρ _ k hl E rs h⟩
 |_=>exact h.elim
def wExt(i:Nat)(te:W L):W L:=fun ρ post=>ownV i ρ fun _ _=>te ρ fun r ρ1=>match r with
 |.own _ ys=>ownV i ρ1 fun a xs=>xs.length+ys.length≤sizeLine∧post (.d .non) (ρ1.set i (.own a (xs++ys)))
 |_=>False
theorem zM(i:Nat)(he:PL X e te)(hN:X.N[i]?=some x:=by rfl)(hv:Vis X.env.scope x:=by first | exact Or.inl rfl | exact Or.inr (Or.inl rfl) | exact Or.inr (Or.inr rfl)) (hd:(x == ("__debug__" : Str))=false:=by decide)
  (hcd:(x == ("__classdict__" : Str))=false:=by decide) (hs1:starEach [e] X.env=[(false,eval e X.env)]:=by rfl) (hbase:attributeBase (.Name x p) "extend" X.env (eval (.Name x p) X.env)=eval (.Name x p) X.env:=by rfl)
  (hfew:((backTo cpos (starEach [e] X.env)).all (fun x=>!x.1) && (backToKw cpos (keywordEach [] X.env)).all (fun x=>x.1.isSome)
   && decide (([e]).length+([]:List Keyword).length+(if([]:List Keyword).isEmpty then 0 else 1)<30))=true:=by rfl)
  (hline:(apos.endLine == cpos.line)=true:=by rfl) (hplain:(backTo cpos (starEach ([]:List Expr) X.env)).any (·.1)=false:=by rfl) :
  PL X (.Call (.Attribute (.Name x p) "extend" apos) [e] [] cpos) (wExt i te):=by
 refine PL.of (BZ PySem.F.plainAttrs_list PySem.F.slot_list_extend PySem.F.type_list_extend zb (cN hN hv hd hcd) (di he.pe km hs1) (hbase:=hbase) (hfew:=hfew) (hline:=hline) (hs:=hs1) (hplain:=hplain)) fun σ H Pr ρ post E h=>?_
 obtain⟨l,xs0,q0,h⟩:=cR h
 obtain⟨hσ,vs0,hl0,_⟩:=E.ownAt q0
 refine⟨.ref l,hσ,.inl ⟨rfl,vs0,SqL.of hl0⟩,Pr,ρ,fun r ρ1=>match r with
  |.own _ ys=>ownV i ρ1 fun a xs=>xs.length+ys.length≤sizeLine∧post (.d .non) (ρ1.set i (.own a (xs++ys)))
  |_=>False,E,h,fun v H' r ρ' E' pp=>?_⟩
 cases r with
 | own bb ys =>
  obtain⟨l',xs,q,hlen,pp⟩:=cR pp
  obtain⟨hσ',vs,hl,r⟩:=E'.tail.ownAt q
  rw[hσ]at hσ'
  cases hσ'
  have sl:=E'.sl
  cases sl with
  | cons q0 t =>
   obtain⟨e1,ws,hb,rw'⟩:=q0
   cases e1
   exact⟨l,bb,vs,ws,rfl,rfl,hl,hb,by rw[r.length,rw'.length];exact hlen,_,_,(E'.tail.updOwn q (r.append rw')).cons_d .non,pp⟩
 |_=>exact pp.elim
def wPop(i:Nat):W L:=fun ρ post=>ownV i ρ fun a xs=>∃y,xs[xs.length-1]?=some y∧post (.d y) (ρ.set i (.own a xs.dropLast))
theorem Reps.dropLast{K:PySem.W.Frag}{H:Hp}:∀{vs:List V}{ds:List D},Reps K H vs ds→Reps K H vs.dropLast ds.dropLast
 |_,_,.nil=>.nil
 |_,_,.cons r .nil=>.nil
 |_,_,.cons r (.cons q t)=>.cons r (Reps.dropLast (.cons q t))
theorem Hh(i:Nat)(hN:X.N[i]?=some x:=by rfl)(hv:Vis X.env.scope x:=by first | exact Or.inl rfl | exact Or.inr (Or.inl rfl) | exact Or.inr (Or.inr rfl)) (hd:(x == ("__debug__" : Str))=false:=by decide)
  (hcd:(x == ("__classdict__" : Str))=false:=by decide) (hbase:attributeBase (.Name x p) "pop" X.env (eval (.Name x p) X.env)=eval (.Name x p) X.env:=by rfl)
  (hline:(apos.endLine == cpos.line)=true:=by rfl) :
  PL X (.Call (.Attribute (.Name x p) "pop" apos) [] [] cpos) (wPop i):=by
 refine PL.of (DT PySem.F.plainAttrs_list PySem.F.slot_list_pop PySem.F.type_list_pop GV (cN hN hv hd hcd) (hbase:=hbase) (hline:=hline)) fun σ H Pr ρ post E h=>?_
 obtain⟨l,xs,q,y,hy,h⟩:=cR h
 obtain⟨hσ,vs,hl,r⟩:=E.ownAt q
 obtain⟨v,hv',rv⟩:=r.get hy
 have E2:=E.updOwn q r.dropLast
 refine⟨.ref l,hσ,.inl ⟨rfl,vs,SqL.of hl⟩,l,vs,v,rfl,rfl,hl,by rw[r.length];exact hv',_,_,E2.cons_d (rv.pres fun b u hp e=>?_),h⟩
 by_cases hb:b=l
 ·
  subst hb
  rw[hl]at e
  cases e
  exact hp.elim
 ·
  rw[aB hb];exact e
end
end L2
namespace L2
open PySem PySem.Spec PyProof.Rows
mutual
def noL:D→Bool
 |.lst _=>false
 |.dct _=>false
 |.exc _ _ _=>false
 |.tup xs=>noLs xs
 |_=>true
def noLs:List D→Bool
 |[]=>true
 |x::xs=>noL x && noLs xs
end
mutual
def noLr:L→Bool
 |.un=>true
 |.d x=>noL x
 |.own _ xs=>noLs xs
 |.bx _ ls=>oi ls
 |.dic _ kvs=>kvs.all fun p=>noL p.2
def oi:List L→Bool
 |[]=>true
 |l::ls=>noLr l && oi ls
end
theorem vp:noLr .un=true:=by simp[noLr]
theorem Hi(x:D):noLr (.d x)=noL x:=by simp[noLr]
theorem Cm(a:Addr)(xs:List D):noLr (.own a xs)=noLs xs:=by simp[noLr]
theorem EU(a:Option Addr)(ls:List L):noLr (.bx a ls)=oi ls:=by simp[noLr]
theorem Cn(a:Addr)(kvs:List (Key×D)):noLr (.dic a kvs)=kvs.all fun p=>noL p.2:=by simp[noLr]
theorem zN:oi []=true:=by simp[oi]
theorem yj(l:L)(ls:List L):oi (l::ls)=(noLr l && oi ls):=by simp[oi]
section
variable{X:Cx}{pins:List (Addr×Obj)}{σ:St}{H:Hp}{s:Shared}
theorem Inv.thaw{a:Addr}{o:Obj}{xs:List V}(I:Inv X pins σ H s)(h:H a=some (.frz o (.lst xs)))(h0:∀o u,X.H₀ a≠some (.frz o u)):Inv X pins σ (upd H a (.lst xs)) s:=by
 have ne:∀b,H b=none→b≠a:=fun b n e=>by subst e;rw[h]at n;cases n
 have nt:∀b xs,H b=some (.tup xs)→b≠a:=fun b xs n e=>by subst e;rw[h]at n;cases n
 have no:∀b z,H b=some (.own z)→b≠a:=fun b z n e=>by subst e;rw[h]at n;cases n
 have nw:=(I.hok a _ h).2
 refine⟨I.ok,I.os,I.bare,⟨I.base.keep,I.base.slot,fun b ob e n hx=>?_,I.base.there,fun b xs e=>?_,fun b ob z e=>?_,fun b ps e=>?_⟩,I.loc,I.cell,?_,fun x c e=>?_,fun p hp=>?_,fun b z e=>?_,I.len⟩
 ·
  have q:=I.base.free b ob e n hx
  rw[aB (ne b q)];exact q
 ·
  have q:=I.base.tups b xs e
  rw[aB (nt b xs q)];exact q
 ·
  have q:=I.base.frzs b ob z e
  rw[aB (fun y=>by subst y;exact h0 _ _ e)];exact q
 ·
  obtain⟨more,q⟩:=I.base.tbls b ps e
  refine⟨more,?_⟩
  rw[aB (fun z=>by subst z;rw[h]at q;cases q)];exact q
 ·
  rw[aB (ne _ I.free)];exact I.free
 ·
  rw[aB (ne _ (I.freeC x c e))];exact I.freeC x c e
 ·
  obtain⟨e,n,r⟩:=I.pin p hp
  exact⟨e,by rw[aB (ne _ n)];exact n,r⟩
 ·
  by_cases hb:b=a
  ·
   subst hb
   rw[bo]at e
   cases e
   exact nw.stay (fun c v _ q=>q) (fun c q=>by rw[aB (no c _ q)];exact q) fun c xs q=>by rw[aB (nt c xs q)];exact q
  ·
   rw[aB hb]at e
   exact(I.hok b z e).stay (fun c v _ q=>q) (fun c q=>by rw[aB (no c _ q)];exact q) fun c xs q=>by rw[aB (nt c xs q)];exact q
end
def jb(H' H2:Hp)(S:List Addr):Prop:=(∀b,b∉S→H2 b=H' b)∧(∀a∈S,∃o vs,H' a=some (.frz o (.lst vs))∧H2 a=some (.lst vs))
theorem zP{X:Cx}{pins:List (Addr×Obj)}{σ:St}{s:Shared}:∀(S:List Addr){H:Hp},S.Nodup→Inv X pins σ H s→(∀a∈S,∃o vs,H a=some (.frz o (.lst vs)))→(∀a∈S,∀o u,X.H₀ a≠some (.frz o u))→∃H2,Inv X pins σ H2 s∧jb H H2 S
 |[],H,_,I,_,_=>⟨H,I,fun _ _=>rfl,fun _ h=>by simp at h⟩
 | a::S,H,nd,I,h,h0=>by
  obtain⟨na,nd⟩:=List.nodup_cons.mp nd
  obtain⟨o,vs,ea⟩:=h a List.mem_cons_self
  have I1:=I.thaw ea (h0 a List.mem_cons_self)
  obtain⟨H2,I2,T1,T2⟩:=zP S nd I1 (fun b hb=>by
   obtain⟨o,us,e⟩:=h b (List.mem_cons_of_mem _ hb)
   exact⟨o,us,by rw[aB (fun z:b=a=>na (by rw[← z];exact hb))];exact e⟩) fun b hb=>h0 b (List.mem_cons_of_mem _ hb)
  refine⟨H2,I2,fun b hb=>?_,fun b hb=>?_⟩
  ·
   rw[T1 b (fun z=>hb (List.mem_cons_of_mem _ z)),aB (fun z:b=a=>hb (by rw[z];exact List.mem_cons_self))]
  ·
   rcases List.mem_cons.mp hb with rfl|hb
   ·
    exact⟨o,vs,ea,by rw[T1 b na,bo]⟩
   ·
    obtain⟨o',us,e1,e2⟩:=T2 b hb
    rw[aB (fun z:b=a=>na (by rw[← z];exact hb))]at e1
    exact⟨o',us,e1,e2⟩
section
variable{K:PySem.W.Frag}{H' H2:Hp}{S:List Addr}
mutual
theorem Rep.thaw(T:jb H' H2 S):∀{v:V}{d:D},noL d=true→Rep K H' v d→Rep K H2 v d
 |_,_,_,.non=>.non
 |_,_,_,.bl b=>.bl b
 |_,_,_,.int i=>.int i
 |_,_,_,.str x=>.str x
 | _,_,h,.tup hs r=>by
  refine .tup ?_ (Reps.thaw T (by simpa[noL]using h) r)
  rcases hs with(e|⟨u,e⟩)|e
  ·
   exact .inl (.inl (by rw[T.1 _ fun z=>by obtain⟨o,vs,e1,_⟩:=T.2 _ z;rw[e1]at e;cases e];exact e))
  ·
   exact .inl (.inr ⟨u,by rw[T.1 _ fun z=>by obtain⟨o,vs,e1,_⟩:=T.2 _ z;rw[e1]at e;cases e];exact e⟩)
  ·
   exact .inr e
 |_,_,h,.lst hs r=>by simp[noL]at h
 |_,_,h,.dct e=>by simp[noL]at h
 |_,_,h,.exc _ _ _ _ _ _ _ _=>by simp[noL]at h
theorem Reps.thaw(T:jb H' H2 S):∀{vs:List V}{ds:List D},noLs ds=true→Reps K H' vs ds→Reps K H2 vs ds
 |_,_,_,.nil=>.nil
 | _,_,h,.cons r t=>by
  simp only[noLs,Bool.and_eq_true]at h
  exact .cons (Rep.thaw T h.1 r) (Reps.thaw T h.2 t)
end
theorem jb.lst(T:jb H' H2 S){a:Addr}{vs:List V}(h:H' a=some (.lst vs)):a∉S∧H2 a=some (.lst vs):=by
 have n:a∉S:=fun z=>by
  obtain⟨o,us,e,_⟩:=T.2 a z
  rw[h]at e;cases e
 exact⟨n,(T.1 a n).trans h⟩
theorem jb.tup(T:jb H' H2 S){a:Addr}{vs:List V}(h:SqT K H' a vs):SqT K H2 a vs:=by
 rcases h with(e|⟨u,e⟩)|e
 ·
  exact .inl (.inl (by rw[T.1 _ fun z=>by obtain⟨o,vs,e1,_⟩:=T.2 _ z;rw[e1]at e;cases e];exact e))
 ·
  exact .inl (.inr ⟨u,by rw[T.1 _ fun z=>by obtain⟨o,vs,e1,_⟩:=T.2 _ z;rw[e1]at e;cases e];exact e⟩)
 ·
  exact .inr e
mutual
theorem aK.thaw(T:jb H' H2 S):∀{s:Option V}(l:L),noLr l=true→aK K H' s l→aK K H2 s l
 |_,.un,_,_=>by unfold aK;exact True.intro
 | _,.d x,h,q=>by
  unfold aK at q ⊢
  obtain⟨v,e,r⟩:=q
  exact⟨v,e,r.thaw T (by simpa[noLr]using h)⟩
 | _,.own a xs,h,q=>by
  unfold aK at q ⊢
  obtain⟨e,vs,ha,r⟩:=q
  exact⟨e,vs,(T.lst ha).2,r.thaw T (by simpa[noLr]using h)⟩
 | _,.bx none ls,h,q=>by
  unfold aK at q ⊢
  obtain⟨a,vs,e,ha,r⟩:=q
  exact⟨a,vs,e,T.tup ha,bB.thaw T ls (by simpa[noLr]using h) r⟩
 | _,.bx (some a) ls,h,q=>by
  unfold aK at q ⊢
  obtain⟨e,vs,ha,r⟩:=q
  exact⟨e,vs,(T.lst ha).2,bB.thaw T ls (by simpa[noLr]using h) r⟩
 | _,.dic a kvs,h,q=>by
  unfold aK at q ⊢
  obtain⟨e,vs,ha,r⟩:=q
  have h':∀p∈kvs,noL p.2=true:=by simpa[noLr]using h
  refine⟨e,vs,?_,Paired.impMem r fun p hp q z=>⟨z.1,z.2.thaw T (h' p hp)⟩⟩
  rw[T.1 a fun z=>by obtain⟨o,us,e1,_⟩:=T.2 _ z;rw[e1]at ha;cases ha]
  exact ha
theorem bB.thaw(T:jb H' H2 S):∀{vs:List V}(ls:List L),oi ls=true→bB K H' vs ls→bB K H2 vs ls
 |_,[],_,q=>by unfold bB at q ⊢;exact q
 | _,l::ls,h,q=>by
  unfold bB at q ⊢
  simp only[oi,Bool.and_eq_true]at h
  obtain⟨v,us,e,h1,h2⟩:=q
  exact⟨v,us,e,aK.thaw T l h.1 h1,bB.thaw T ls h.2 h2⟩
end
end
def m9:L→Bool
 |.d _=>true
 |l=>noLr l
theorem Co:m9 .un=true:=by simp[m9,noLr]
theorem EV(x:D):m9 (.d x)=true:=rfl
theorem zQ(a:Addr)(xs:List D):m9 (.own a xs)=noLs xs:=by simp[m9,noLr]
theorem zR(a:Addr)(kvs:List (Key×D)):m9 (.dic a kvs)=kvs.all fun p=>noL p.2:=by simp[m9,noLr]
theorem Cq(a:Option Addr)(ls:List L):m9 (.bx a ls)=oi ls:=by simp[m9,noLr]
def dm(i:Nat)(ρ:Ev):Bool:=(ρ.set i .un).all m9
theorem qp{K:PySem.W.Frag}{H0 H' H2:Hp}{S:List Addr}(T:jb H' H2 S)(p:Pres H0 H2):∀{σ:St}{ρ ρ0:Ev},ρ.length=ρ0.length →
  (∀(j:Nat)(l:L),ρ[j]?=some l→noLr l=true∨∃x,l=.d x∧ρ0[j]?=some (.d x))→Paired (aK K H0) σ ρ0→Paired (aK K H') σ ρ→Paired (aK K H2) σ ρ
 |[],[],_,_,_,_,_=>.nil
 | s::σ,l::ρ,l0::ρ0,hl,h,.cons q0 t0,.cons q t=>by
  refine .cons ?_ (qp T p (by simpa using hl) (fun j l e=>h (j+1) l e) t0 t)
  rcases h 0 l rfl with hh|⟨x,rfl,e⟩
  ·
   exact q.thaw T l hh
  ·
   have e:l0=.d x:=by simpa using e
   subst e
   exact q0.pres p (.d x) fun a ha=>by simp[aS]at ha
 |[],_::_,_,_,_,_,t=>nomatch t
 |_::_,[],_,_,_,_,t=>nomatch t
mutual
theorem aK.lsts{K:PySem.W.Frag}{H:Hp}:∀{s:Option V}(l:L){x:D},aK K H s l→bc l=some x→∀a∈aS l,∃vs,H a=some (.lst vs)
 |_,.un,_,_,_,a,ha=>by simp[aS]at ha
 |_,.d x,_,_,_,a,ha=>by simp[aS]at ha
 |_,.dic _ _,_,_,h,_,_=>by simp[bc]at h
 | _,.own b xs,_,h,_,a,ha=>by
  simp only[aK]at h
  have e:a=b:=by simpa[aS]using ha
  subst e
  obtain⟨_,vs,q,_⟩:=h
  exact⟨_,q⟩
 | _,.bx none ls,_,h,hx,a,ha=>by
  simp only[aK]at h
  simp only[bc,Option.map_eq_some_iff]at hx
  obtain⟨xs,hx,_⟩:=hx
  obtain⟨b,vs,e,_,r⟩:=h
  exact bB.lsts ls r hx a (by simpa[aS]using ha)
 | _,.bx (some b) ls,_,h,hx,a,ha=>by
  simp only[aK]at h
  simp only[bc,Option.map_eq_some_iff]at hx
  obtain⟨xs,hx,_⟩:=hx
  obtain⟨e,vs,q,r⟩:=h
  rcases(by simpa[aS]using ha:a=b∨a∈c9 ls)with z|z
  ·
   subst z;exact⟨_,q⟩
  ·
   exact bB.lsts ls r hx a z
theorem bB.lsts{K:PySem.W.Frag}{H:Hp}:∀{vs:List V}(ls:List L){xs:List D},bB K H vs ls→bK ls=some xs→∀a∈c9 ls,∃vs,H a=some (.lst vs)
 |_,[],_,_,_,a,ha=>by simp[c9]at ha
 | _,l::ls,_,h,hx,a,ha=>by
  simp only[bB]at h
  obtain⟨v,us,e,h1,h2⟩:=h
  simp only[bK]at hx
  split at hx
  ·
   rename_i x1 xs1 e1 e2
   rcases(by simpa[c9]using ha:a∈aS l∨a∈c9 ls)with z|z
   ·
    exact aK.lsts l h1 e1 a z
   ·
    exact bB.lsts ls h2 e2 a z
  ·
   cases hx
end
theorem tU{X:Cx}{pins:List (Addr×Obj)}{σ0:St}{s s1:Shared}{Pr H H1 H':Hp}{σ τ:St}{ρ lam:Ev}{i:Nat}{k:L}{x:D}{v:Option V}(I:Inv X pins σ0 H s)(E:REnv X.K Pr H σ ρ)(hi:ρ[i]?=some k)(hSa:∀a∈aS k,∃vs,H a=some (.lst vs))(F:my H H1 (aS k))(hfl:dm i ρ=true)
  (I':Inv X pins σ0 H' s1) (E1:REnv X.K Pr H1 σ (ρ.set i (.d x))) (E':REnv X.K (a5 H1 (ρ.set i (.d x))) H' (τ++σ) (lam++ρ.set i (.d x))) (hlen:τ.length=lam.length) (hr:lam.all noLr=true):∃H2,Inv X pins σ0 H2 s1∧REnv X.K Pr H2 (τ++σ) (lam++ρ):=by
 have hil:i<ρ.length:=(List.getElem?_eq_some_iff.mp hi).1
 have prm:=fz hi (l:=.d x) rfl
 have hnd:(aS k++owns (ρ.set i (.d x))).Nodup:=prm.nodup_iff.mp E.nd
 obtain⟨nd1,nd2,nd3⟩:=List.nodup_append.mp hnd
 have hna:∀a∈aS k,a∉owns (ρ.set i (.d x)):=fun a ha z=>nd3 a ha a z rfl
 have hb:∀b u,H1 b=some u→b∉owns (ρ.set i (.d x))→H' b=some u:=fun b u e hno=>by
  refine E'.sub b u ?_
  unfold a5
  rw[if_neg hno]
  exact e
 have hS:∀a∈aS k,∃o vs,H' a=some (.frz o (.lst vs)):=fun a ha=>by
  obtain⟨vs,e⟩:=hSa a ha
  obtain⟨o,eo⟩:=F.2.2 a ha vs e
  exact⟨o,vs,hb a _ eo (hna a ha)⟩
 obtain⟨H2,I2,T⟩:=zP (aS k) nd1 I' hS fun a ha o u e=>by
  have z:=I.base.frzs a o u e
  obtain⟨vs,q⟩:=hSa a ha
  rw[q]at z;cases z
 have back:∀a∈aS k,H2 a=H a:=fun a ha=>by
  obtain⟨vs,e⟩:=hSa a ha
  obtain⟨o,eo⟩:=F.2.2 a ha vs e
  obtain⟨o',vs',e1,e2⟩:=T.2 a ha
  rw[hb a _ eo (hna a ha)]at e1
  cases e1
  rw[e2,e]
 have P:Pres H H2:=fun b u hp e=>by
  have hno:b∉owns ρ:=fun z=>by
   obtain⟨ws,hz,mu⟩:=E.at_own z
   rw[hz]at e;cases e;exact mu.no hp
  have hnk:b∉aS k:=fun z=>hno (prm.mem_iff.mpr (List.mem_append_left _ z))
  rw[T.1 b hnk]
  exact hb b u (F.1 b u hp e) fun z=>hno (prm.mem_iff.mpr (List.mem_append_right _ z))
 obtain⟨sl1,sl2⟩:=Paired.unapp hlen E'.sl
 have ndE:=E'.nd
 rw[ay]at ndE
 obtain⟨ne1,ne2,ne3⟩:=List.nodup_append.mp ndE
 have lamS:∀a∈owns lam,a∉aS k∧Pr a=none∧a∉owns (ρ.set i (.d x)):=fun a ha=>by
  obtain⟨vs,e,mu⟩:=E'.at_own (a:=a) (by rw[ay];exact List.mem_append_left _ ha)
  have h1:a∉aS k:=fun z=>by
   obtain⟨o,us,e1,_⟩:=T.2 _ z
   rw[e1]at e
   cases e
   exact mu
  have h3:a∉owns (ρ.set i (.d x)):=fun z=>ne3 a ha a z rfl
  refine⟨h1,?_,h3⟩
  have hoff:=E'.off a (by rw[ay];exact List.mem_append_left _ ha)
  unfold a5 at hoff
  rw[if_neg h3]at hoff
  cases ep:Pr a with
  |none=>rfl
  |some w=>rw[E1.sub a w ep]at hoff;cases hoff
 have slt:Paired (aK X.K H2) σ (ρ.set i .un):=by
  have q:Paired (aK X.K H') σ (ρ.set i .un):=by
   have:=(Paired.set_r (b:=L.un) i sl2 fun _ _=>by unfold aK;exact True.intro)
   rwa [List.set_set]at this
  refine qp T P (ρ0:=ρ) (by simp) (fun j l e=>?_) E.sl q
  by_cases hj:j=i
  ·
   subst hj
   rw[List.getElem?_set_self hil]at e
   cases e
   exact .inl vp
  ·
   have h1:=List.all_eq_true.mp hfl l (List.mem_of_getElem? (i:=j) e)
   rw[List.getElem?_set_ne (Ne.symm hj)]at e
   cases l with
   |un=>exact .inl vp
   |d y=>exact .inr ⟨y,rfl,e⟩
   |own b ys=>exact .inl h1
   |bx b ls=>exact .inl h1
   |dic b ls=>exact .inl h1
 have slr:Paired (aK X.K H2) τ lam:=Paired.impMem sl1 fun l hl s q=>q.thaw T l (List.all_eq_true.mp hr l hl)
 refine⟨H2,I2,fun b u e=>?_,?_,fun b hbm=>?_,Paired.app slr ?_⟩
 ·
  have hno:b∉owns ρ:=fun z=>by have:=E.off b z;rw[e]at this;cases this
  have hnk:b∉aS k:=fun z=>hno (prm.mem_iff.mpr (List.mem_append_left _ z))
  rw[T.1 b hnk]
  refine hb b u ?_ fun z=>hno (prm.mem_iff.mpr (List.mem_append_right _ z))
  rw[F.2.1 b hnk]
  exact E.sub b u e
 ·
  rw[ay,List.nodup_append]
  refine⟨ne1,E.nd,fun c hc d hd z=>?_⟩
  subst z
  obtain⟨h1,h2,h3⟩:=lamS c hc
  rcases List.mem_append.mp (prm.mem_iff.mp hd)with z|z
  ·
   exact h1 z
  ·
   exact h3 z
 ·
  rw[ay]at hbm
  rcases List.mem_append.mp hbm with z|z
  ·
   exact(lamS b z).2.1
  ·
   exact E.off b z
 ·
  obtain⟨sv,hs,q⟩:=E.slot hi
  have:=Paired.set_r (b:=k) i slt fun s es=>by
   rw[hs]at es
   cases es
   exact q.pres P k back
  rw[List.set_set]at this
  have e2:ρ.set i k=ρ:=by
   refine List.ext_getElem? fun j=>?_
   by_cases hj:j=i
   ·
    subst hj;rw[List.getElem?_set_self hil,hi]
   ·
    rw[List.getElem?_set_ne (Ne.symm hj)]
  rwa [e2]at this
def pkW(o:Option L)(i:Nat)(t:W L)(ρ:Ev)(post:L→Ev→Prop):Prop:=match o with
 |some (.own _ xs)=>dm i ρ=true∧t (ρ.set i (.d (.lst xs))) fun r ρ'=>noLr r=true∧ρ'=ρ.set i (.d (.lst xs))∧post r ρ
 |some (.bx b ls)=>dm i ρ=true∧toDB b ls fun x=>t (ρ.set i (.d x)) fun r ρ'=>noLr r=true∧ρ'=ρ.set i (.d x)∧post r ρ
 |_=>t ρ post
def nc(i:Nat)(t:W L):W L:=fun ρ post=>pkW ρ[i]? i t ρ post
theorem EW(a:Addr)(xs:List D)(i:Nat)(t:W L)(ρ:Ev)(post:L→Ev→Prop):pkW (some (.own a xs)) i t ρ post=(dm i ρ=true∧t (ρ.set i (.d (.lst xs))) fun r ρ'=>noLr r=true∧ρ'=ρ.set i (.d (.lst xs))∧post r ρ):=(rfl)
theorem Hj(b:Option Addr)(ls:List L)(i:Nat)(t:W L)(ρ:Ev)(post:L→Ev→Prop):pkW (some (.bx b ls)) i t ρ post=(dm i ρ=true∧toDB b ls fun x=>t (ρ.set i (.d x)) fun r ρ'=>noLr r=true∧ρ'=ρ.set i (.d x)∧post r ρ):=(rfl)
theorem IS(x:D)(i:Nat)(t:W L)(ρ:Ev)(post:L→Ev→Prop):pkW (some (.d x)) i t ρ post=t ρ post:=(rfl)
theorem zS{X:Cx}{pins:List (Addr×Obj)}{s:Shared}{σ:St}{H Pr:Hp}{ρ:Ev}{i:Nat}{k:L}{x:D}(I:Inv X pins σ H s)(E:REnv X.K Pr H σ ρ)(hi:ρ[i]?=some k)(hx:bc k=some x):∃H1,Inv X pins σ H1 s∧REnv X.K Pr H1 σ (ρ.set i (.d x))∧my H H1 (aS k)∧∀a∈aS k,∃vs,H a=some (.lst vs):=by
 obtain⟨sv,hs,sl⟩:=E.slot hi
 obtain⟨H1,I1,E1,F⟩:=frzL k I (E.outL hi hs) hx
 have hil:i<ρ.length:=(List.getElem?_eq_some_iff.mp hi).1
 have E2:=E1.back (i:=i) (by rw[List.getElem?_set_self hil]) hs
 rw[List.set_set]at E2
 exact⟨H1,I1,E2,F,sl.lsts k hx⟩
theorem fV{X:Cx}{e:Expr}(i:Nat){t:W L}(h:PL X e t):PL X e (nc i t):=by
 intro pins s σ H Pr ρ post I E hw
 have go:∀(k:L)(x:D),ρ[i]?=some k→bc k=some x→dm i ρ=true→(t (ρ.set i (.d x)) fun r ρ'=>noLr r=true∧ρ'=ρ.set i (.d x)∧post r ρ)→wpAny (model X.prog X.w) X.A (eval e X.env) (EL X pins σ Pr post) X.xe s:=by
  intro k x hi hx hfl hw
  obtain⟨H1,I1,E1,F,Sa⟩:=zS I E hi hx
  refine thn (h pins s σ _ _ _ _ I1 E1.wide hw) fun u s1 ⟨v,H',r,ρ',I',rv,E',hr,eρ,hp⟩=>?_
  subst eρ
  obtain⟨H2,I2,E2⟩:=tU (τ:=[some v]) (lam:=[r]) (v:=some v) I E hi Sa F hfl I' E1 E' rfl (by simpa using hr)
  exact⟨v,H2,r,ρ,I2,rv,E2,hp⟩
 unfold nc pkW at hw
 split at hw
 ·
  rename_i a xs hi
  exact go _ _ hi rfl hw.1 hw.2
 ·
  rename_i b ls hi
  obtain⟨x,hx,hw'⟩:=qS hw.2
  exact go _ _ hi hx hw.1 hw'
 ·
  exact h pins s σ H Pr ρ post I E hw
def pkB(o:Option L)(i:Nat)(t:W Bool)(ρ:Ev)(post:Bool→Ev→Prop):Prop:=match o with
 |some (.own _ xs)=>dm i ρ=true∧t (ρ.set i (.d (.lst xs))) fun r ρ'=>ρ'=ρ.set i (.d (.lst xs))∧post r ρ
 |some (.bx b ls)=>dm i ρ=true∧toDB b ls fun x=>t (ρ.set i (.d x)) fun r ρ'=>ρ'=ρ.set i (.d x)∧post r ρ
 |_=>t ρ post
def qq(i:Nat)(t:W Bool):W Bool:=fun ρ post=>pkB ρ[i]? i t ρ post
theorem EX(a:Addr)(xs:List D)(i:Nat)(t:W Bool)(ρ:Ev)(post:Bool→Ev→Prop):pkB (some (.own a xs)) i t ρ post=(dm i ρ=true∧t (ρ.set i (.d (.lst xs))) fun r ρ'=>ρ'=ρ.set i (.d (.lst xs))∧post r ρ):=(rfl)
theorem Hl(b:Option Addr)(ls:List L)(i:Nat)(t:W Bool)(ρ:Ev)(post:Bool→Ev→Prop):pkB (some (.bx b ls)) i t ρ post=(dm i ρ=true∧toDB b ls fun x=>t (ρ.set i (.d x)) fun r ρ'=>ρ'=ρ.set i (.d x)∧post r ρ):=(rfl)
theorem IT(x:D)(i:Nat)(t:W Bool)(ρ:Ev)(post:Bool→Ev→Prop):pkB (some (.d x)) i t ρ post=t ρ post:=(rfl)
theorem vq{X:Cx}{e:Expr}(i:Nat){t:W Bool}(h:PB X e t):PB X e (qq i t):=by
 intro pins s σ H Pr ρ post I E hw
 have go:∀(k:L)(x:D),ρ[i]?=some k→bc k=some x→dm i ρ=true→(t (ρ.set i (.d x)) fun r ρ'=>ρ'=ρ.set i (.d x)∧post r ρ)→wpAny (model X.prog X.w) X.A (isTrue e X.env (eval e X.env)) (EB X pins σ Pr post) X.xe s:=by
  intro k x hi hx hfl hw
  obtain⟨H1,I1,E1,F,Sa⟩:=zS I E hi hx
  refine thn (h pins s σ _ _ _ _ I1 E1.wide hw) fun u s1 ⟨H',ρ',I',E',eρ,hp⟩=>?_
  subst eρ
  obtain⟨H2,I2,E2⟩:=tU (τ:=[]) (lam:=[]) (v:=none) I E hi Sa F hfl I' E1 E' rfl rfl
  exact⟨H2,ρ,I2,E2,hp⟩
 unfold qq pkB at hw
 split at hw
 ·
  rename_i a xs hi
  exact go _ _ hi rfl hw.1 hw.2
 ·
  rename_i b ls hi
  obtain⟨x,hx,hw'⟩:=qS hw.2
  exact go _ _ hi hx hw.1 hw'
 ·
  exact h pins s σ H Pr ρ post I E hw
variable{X:Cx}
variable{X:Cx}
theorem xb:∀{ns:List Int}{us:List Value},Vals (ns.map V.int) us→IntsAre us ns
 |[],_,r=>by cases r;exact .nil
 | n::ns,_,r=>by
  cases r with
  | cons r0 rs =>
   obtain⟨t,rfl⟩:=r0
   exact .cons n t (xb rs)
theorem tV(hc:X.calm=true):jB X (.builtin "sum") (fun xs H Q=>∃(p:Addr)(ns:List Int),xs=[.ref p]∧SqL X.K H p (ns.map V.int)∧Q (.int ns.sum) H):=by
 intro pins s σ H xs us Q I r h
 obtain⟨p,ns,rfl,hq,q⟩:=h
 obtain⟨u,rfl,rx⟩:=qM r
 cases rx
 obtain⟨its,r',pl,hz⟩:=I.list hq
 have hi:=xb r'
 obtain⟨xs,hx⟩:=hi.allInts.items
 have hl':s.heap.IsList p (intItems xs):=hx ▸ pl.isList
 refine sum_intListG (I.ok.hd hc) hl' fun h' tk t' hk=>?_
 have e1:ns=xs.toList.map (·.1):=by
  rw[← nums_intItems,← hx]
  exact(show numsOf its.toArray.toList=ns from hi.numsOf).symm
 have e2:preSum (numAt xs) xs.size=ns.sum:=by
  rw[preSum_eq,List.take_of_length_le (by simp),e1]
 rw[e2]
 exact⟨.int ns.sum,H,I.kept hk,⟨_,rfl⟩,q⟩
theorem mB{K:PySem.W.Frag}{H:Hp}:∀{vs:List V}{ns:List Int},Reps K H vs (ns.map D.int)→vs=ns.map V.int
 |_,[],r=>by cases r;rfl
 | _,n::ns,r=>by
  cases r with
  | cons r0 rs =>
   cases r0
   rw[mB rs]
   rfl
def Hm:OpN:=fun ds k=>∃ns:List Int,ds=[.lst (ns.map D.int)]∧k (.d (.int ns.sum))
theorem Hn(hc:X.calm=true):i6 X (.builtin "sum") Hm:=i6.of (tV hc) fun σ H Pr ρ vs ds post E ps ⟨ns,e,h⟩=>by
 subst e
 obtain⟨v,rfl,r⟩:=pN ps
 cases r with
 | lst hz rs =>
  have:=mB rs
  subst this
  exact⟨_,ns,rfl,hz.l,_,E.cons_d (.int _),h⟩
variable{X:Cx}
section
variable{X:Cx}{e a b c:Expr}{es:List Expr}{pos p p2:Pos}{ta:W L}{x y:Str}
def mC:List (Op2×W L)→D→W L
 |[],_=>fun _ _=>False
 |[(o,t)],dx=>fun ρ post=>t ρ fun y ρ1=>toD y fun dy=>o dx dy fun r=>isBl r fun k=>post (.d (.bl k)) ρ1
 |(o,t)::q::r,dx=>fun ρ post=>t ρ fun y ρ1=>toD y fun dy=>o dx dy fun z=>isBl z fun k=>if k=true then mC (q::r) dy ρ1 post else post (.d (.bl false)) ρ1
def vt(ta:W L)(ls:List (Op2×W L)):W L:=fun ρ post=>ta ρ fun x ρ1=>toD x fun dx=>mC ls dx ρ1 post
inductive tX (X:Cx):List CmpOp→List Expr→List (Op2×W L)→Prop where
 |one {op:CmpOp} {e:Expr} {o:Op2} {t:W L} (ho:OpD X (compareOp op) o) (h:PL X e t):tX X [op] [e] [(o,t)]
 |cons {op:CmpOp} {e:Expr} {o:Op2} {t:W L} {ops:List CmpOp} {es:List Expr} {ls:List (Op2×W L)} (ho:OpD X (compareOp op) o) (h:PL X e t) (r:tX X ops es ls):tX X (op::ops) (e::es) ((o,t)::ls)
theorem rg{op:CmpOp}{o:Op2}{pins:List (Addr×Obj)}{s:Shared}{σ:St}{H Pr:Hp}{ρ:Ev}{v:V}{u:Value}{dx:D}{R:Bool→D→Ev→Prop}{t:W L}{Q:Value→Value→Shared→Prop}(ho:OpD X (compareOp op) o)(h:PL X e t)
  (I:Inv X pins σ H s) (rv:RelV v u) (E:REnv X.K Pr H (some v::σ) (.d dx::ρ)) (ht:t ρ fun y ρ1=>toD y fun dy=>o dx dy fun r=>isBl r fun k=>R k dy ρ1)
  (hQ:∀u2 s3 w2 dy H3 ρ1 k,Inv X pins σ H3 s3→RelV w2 u2→REnv X.K Pr H3 (some w2::σ) (.d dy::ρ1)→R k dy ρ1→Q u2 (.bool k) s3) :
  wpAny (model X.prog X.w) X.A (eval e X.env) (fun b s₁=>wpAny (model X.prog X.w) X.A (compareOp op u b) (fun c s₂=>Q b c s₂) X.xe s₁) X.xe s:=by
 refine thn (h pins s σ H _ ρ _ I E.tail.wide ht) fun u2 s2 q=>?_
 obtain⟨y,H2,dy,ρ2,I2,r2,E2,q2⟩:=EL.frz (post:=fun dy ρ1=>o dx dy fun r=>isBl r fun k=>R k dy ρ1) q
 have E3:REnv X.K Pr H2 (some y::some v::σ) (.d dy::.d dx::ρ2):=REnv.step (τ:=[some v]) (lam:=[.d dx]) (w:=[some y]) (μ:=[.d dy]) E rfl E2 rfl
 obtain⟨_,e1,p1⟩:=E3.head_d
 obtain⟨_,e2,p2⟩:=E3.tail.head_d
 cases e1
 cases e2
 have E4:REnv X.K Pr H2 σ ρ2:=E3.tail.tail
 have E5:REnv X.K Pr H2 (some y::σ) (.d dy::ρ2):=E4.cons_d p1
 have E5w:=E5
 refine thn (ho pins s2 σ H2 (a5 H2 ρ2) ρ2 v y u u2 dx dy _ I2 rv r2 E4.wide p2 p1 q2) fun w s3 ⟨z,H3,r,I3,rz,E6,pp⟩=>?_
 obtain⟨k,rfl,pp⟩:=qT pp
 obtain⟨_,e3,p3⟩:=E6.head_d
 cases e3
 cases p3
 cases rz
 have P3:Pres H2 H3:=qR E4 E6.sub
 have E7:REnv X.K Pr H3 σ ρ2:=E4.narrow E6.tail
 exact hQ u2 s3 y dy H3 ρ2 k I3 r2 (E7.cons_d (p1.pres P3)) pp
theorem Cr{ops:List CmpOp}{es:List Expr}{ls:List (Op2×W L)}(h:tX X ops es ls):∀(pins:List (Addr×Obj))(s:Shared)(σ:St)(H Pr:Hp)(ρ:Ev)(post:L→Ev→Prop)(v:V)(u:Value)(dx:D)(pos:Pos),Inv X pins σ H s→RelV v u→REnv X.K Pr H (some v::σ) (.d dx::ρ)→mC ls dx ρ post →
  wpAny (model X.prog X.w) X.A (compareChain pos u ops (evalEach es X.env)) (EL X pins σ Pr post) X.xe s:=by
 induction h with
 | one ho h =>
  intro pins s σ H Pr ρ post v u dx pos I rv E hl
  refine chain_last ?_
  exact rg (R:=fun k _ ρ1=>post (.d (.bl k)) ρ1) (Q:=fun _ c s=>EL X pins σ Pr post c s) ho h I rv E hl fun u2 s3 w2 dy H3 ρ1 k I3 r3 E3 q=>⟨.bl k,H3,_,ρ1,I3,rfl,E3.tail.cons_d (.bl k),q⟩
 | @cons op e o t ops es ls ho h r ih =>
  intro pins s σ H Pr ρ post v u dx pos I rv E hl
  cases r with
  | one ho2 h2 =>
   refine chain_link (rg (R:=fun k dy ρ1=>if k=true then mC [_] dy ρ1 post else post (.d (.bl false)) ρ1) (Q:=fun b c s=>wpAny (model X.prog X.w) X.A (truthy c) (fun t s₃=>if t then _ else EL X pins σ Pr post c s₃) X.xe s) ho h I rv E hl fun u2 s3 w2 dy H3 ρ1 k I3 r3 E3 q=>?_)
   refine wpAny_truthy_bool ?_
   cases k with
   |false=>exact ite_ff ⟨.bl false,H3,_,ρ1,I3,rfl,E3.tail.cons_d (.bl false),q⟩
   |true=>exact ite_tt (ih pins s3 σ H3 Pr ρ1 post w2 u2 dy pos I3 r3 E3 q)
  | cons ho2 h2 r2 =>
   cases r2 with
   | one ho3 h3 =>
    refine chain_link (rg (R:=fun k dy ρ1=>if k=true then mC (_::_::_) dy ρ1 post else post (.d (.bl false)) ρ1) (Q:=fun b c s=>wpAny (model X.prog X.w) X.A (truthy c) (fun t s₃=>if t then _ else EL X pins σ Pr post c s₃) X.xe s) ho h I rv E hl fun u2 s3 w2 dy H3 ρ1 k I3 r3 E3 q=>?_)
    refine wpAny_truthy_bool ?_
    cases k with
    |false=>exact ite_ff ⟨.bl false,H3,_,ρ1,I3,rfl,E3.tail.cons_d (.bl false),q⟩
    |true=>exact ite_tt (ih pins s3 σ H3 Pr ρ1 post w2 u2 dy pos I3 r3 E3 q)
   | cons ho3 h3 r3 =>
    refine chain_link (rg (R:=fun k dy ρ1=>if k=true then mC (_::_::_) dy ρ1 post else post (.d (.bl false)) ρ1) (Q:=fun b c s=>wpAny (model X.prog X.w) X.A (truthy c) (fun t s₃=>if t then _ else EL X pins σ Pr post c s₃) X.xe s) ho h I rv E hl fun u2 s3 w2 dy H3 ρ1 k I3 r3 E3 q=>?_)
    refine wpAny_truthy_bool ?_
    cases k with
    |false=>exact ite_ff ⟨.bl false,H3,_,ρ1,I3,rfl,E3.tail.cons_d (.bl false),q⟩
    |true=>exact ite_tt (ih pins s3 σ H3 Pr ρ1 post w2 u2 dy pos I3 r3 E3 q)
theorem zU{op op':CmpOp}{ops:List CmpOp}{r1 r2:Expr}{rs:List Expr}{ls:List (Op2×W L)}(ha:PL X a ta)(h:tX X (op::op'::ops) (r1::r2::rs) ls)(hm:lastMarks (op::op'::ops) (r1::r2::rs)=false:=by with_unfolding_all rfl):PL X (.Compare a (op::op'::ops) (r1::r2::rs) pos) (vt ta ls):=by
 intro pins s σ H Pr ρ post I E ht
 refine Compare_chain (thn (ha pins s σ H Pr ρ _ I E ht) fun u s1 q=>?_) hm
 obtain⟨v,H1,dx,ρ1,I1,rv,E1,q1⟩:=EL.frz (post:=fun dx ρ1=>mC ls dx ρ1 post) q
 exact Cr h pins s1 σ H1 Pr ρ1 post v u dx pos I1 rv E1 q1
theorem vv{prog:Program}{w:World}{A:Around}{ks:List Bool}{us:List Value}(h:us=ks.map Value.bool):TruthOf prog w A (fun i v=>us.toArray[i]?=some v) (fun i=>ks.getD i true):=fun i v s Q E hv hQ=>by
 subst h
 rw[List.getElem?_toArray,List.getElem?_map]at hv
 cases q:ks[i]? with
 |none=>rw[q]at hv;cases hv
 | some k =>
  rw[q]at hv
  cases hv
  refine wpAny_truthy_bool ?_
  have:ks.getD i true=k:=by rw[List.getD_eq_getElem?_getD,q];rfl
  have hQ':Q (ks.getD i true) s:=hQ
  rw[this]at hQ'
  exact hQ'
theorem zV(ks:List Bool):(List.range ks.length).all (fun i=>ks.getD i true)=ks.all id:=by
 apply Bool.eq_iff_iff.mpr
 simp only[List.all_eq_true,List.mem_range,id]
 constructor
 ·
  intro h x hx
  obtain⟨i,hi,e⟩:=List.getElem_of_mem hx
  have:=h i hi
  rw[List.getD_eq_getElem?_getD,List.getElem?_eq_getElem hi]at this
  simpa[e]using this
 ·
  intro h i hi
  rw[List.getD_eq_getElem?_getD,List.getElem?_eq_getElem hi]
  exact h _ (List.getElem_mem hi)
theorem qr:∀{ks:List Bool}{us:List Value},Vals (ks.map V.bl) us→us=ks.map Value.bool
 |[],_,.nil=>rfl
 | k::ks,_,.cons r t=>by
  have e:=qr t
  subst e
  cases r
  rfl
theorem tY(hc:X.calm=true):jB X (.builtin "all") (fun xs H Q=>∃(p:Addr)(ks:List Bool),xs=[.ref p]∧SqL X.K H p (ks.map V.bl)∧Q (.bl (ks.all id)) H):=by
 intro pins s σ H xs us Q I r ⟨p,ks,e,hq,q⟩
 subst e
 obtain⟨u,rfl,r1⟩:=qM r
 cases r1
 obtain⟨its,rv,pl,hz⟩:=I.list hq
 have e:=qr rv
 refine call_all_walk (wpAny_pyIter_list pl.isList ?_)
 have hne:p≠s.heap.objs.size:=fun z=>by
  obtain⟨o,n,eo,_⟩:=pl
  have:=Heap.lt_size eo
  rw[z]at this
  exact absurd this (Nat.lt_irrefl _)
 refine⟨s.heap.objs.size,_,_,_,_,_,(fun i=>ks.getD i true),rfl,Walks.list (A:=X.A.in1) (I.ok.hd hc) _ p hne its.toArray,⟨⟨_,Heap.get?_push_size _ rfl,rfl,rfl⟩,pl.isList.at fun o eo=>Heap.get?_push_of_some _ eo⟩,vv e,fun h' tk hk=>?_⟩
 have hl:its.toArray.size=ks.length:=by rw[e];simp
 rw[hl,zV]
 refine⟨.bl _,H,I.kept (h':=h') (t':=tk) fun b o eb=>hk b o (fun hm=>?_) (Heap.get?_push_of_some _ eb),rfl,q⟩
 have e2:b=s.heap.objs.size:=by simpa using hm
 have:=Heap.lt_size eb
 rw[e2]at this
 exact absurd this (Nat.lt_irrefl _)
theorem kE{K:PySem.W.Frag}{H:Hp}:∀{vs:List V}{ks:List Bool},Reps K H vs (ks.map D.bl)→vs=ks.map V.bl
 |[],[],_=>rfl
 | _::_,k::ks,.cons r t=>by
  cases r
  rw[kE t];rfl
 |[],_::_,r=>nomatch r
 |_::_,[],r=>nomatch r
def EY:OpN:=fun ds k=>∃ks:List Bool,ds=[.lst (ks.map D.bl)]∧k (.d (.bl (ks.all id)))
theorem D1(hc:X.calm=true):i6 X (.builtin "all") EY:=i6.of (tY hc) fun σ H Pr ρ vs ds post E ps ⟨ks,e,h⟩=>by
 subst e
 obtain⟨v,rfl,r⟩:=pN ps
 cases r with
 | lst hz rs =>
  have e:=kE rs
  subst e
  exact⟨_,ks,rfl,hz.l,_,E.cons_d (.bl _),h⟩
end
end L2
set_option exponentiation.threshold 2000
namespace L2
open PySem PySem.Spec PyProof.Rows
section
variable{e a:Expr}{x:Str}
mutual
def gX:D→Bool
 |.int i=>decide (i.natAbs<2^1900)
 |.tup xs=>jH xs
 |.lst xs=>jH xs
 |_=>true
def jH:List D→Bool
 |[]=>true
 |x::xs=>gX x && jH xs
end
theorem Fb:(2:Nat)^1900<10^600:=by decide +kernel
theorem zW{i:Int}(h:i.natAbs<2^1900):(PyData.shown (.int i)).length≤601:=by
 have e:=PySem.int_text_length_le10 (k:=600) (by decide) (Nat.lt_trans h Fb)
 show(Str.ofString (toString i)).length≤601
 rw[PySem.ofString_length];exact e
mutual
theorem nH:∀d:D,gX d=true→(toP d).intsShort 601=true∧(toP d).showable=true
 |.non,_=>⟨rfl,rfl⟩
 |.bl _,_=>⟨rfl,rfl⟩
 |.str _,_=>⟨rfl,rfl⟩
 |.dct _,_=>⟨rfl,rfl⟩
 |.exc _ _ _,_=>⟨rfl,rfl⟩
 | .int i,h=>by
  have h':i.natAbs<2^1900:=by simpa only[gX,decide_eq_true_eq]using h
  refine⟨by simp only[toP,PyData.intsShort,decide_eq_true_eq];exact zW h',?_⟩
  simp only[toP,PyData.showable,decide_eq_true_eq]
  by_cases h0:i.natAbs=0
  ·
   rw[h0];decide
  ·
   exact(Nat.log2_lt h0).mpr (Nat.lt_of_lt_of_le h' (Nat.pow_le_pow_right (by decide) (by decide)))
 | .tup xs,h=>by
  obtain⟨h1,h2⟩:=oj xs (by simpa only[gX]using h)
  exact⟨by simpa only[toP,PyData.intsShort]using h1,by simpa only[toP,PyData.showable]using h2⟩
 | .lst xs,h=>by
  obtain⟨h1,h2⟩:=oj xs (by simpa only[gX]using h)
  exact⟨by simpa only[toP,PyData.intsShort]using h1,by simpa only[toP,PyData.showable]using h2⟩
theorem oj:∀ds:List D,jH ds=true→PyData.intsShortAll 601 (toPs ds)=true∧PyData.showableAll (toPs ds)=true
 |[],_=>⟨rfl,rfl⟩
 | d::ds,h=>by
  simp only[jH,Bool.and_eq_true]at h
  obtain⟨h1,h2⟩:=nH d h.1
  obtain⟨h3,h4⟩:=oj ds h.2
  exact⟨by simp only[toPs,PyData.intsShortAll,h1,h3,Bool.and_self],by simp only[toPs,PyData.showableAll,h2,h4,Bool.and_self]⟩
end
structure xc (d:D):Prop where
 ok:okD 40 d=true
 sh:gX d=true
 wt:(toP d).weight≤20000
theorem xc.len{d:D}(h:xc d):(toP d).shown.length≤sizeLine:=by
 have h1:=PyData.shown_le 601 (by decide) (toP d) (PyData.leavesShort_of_canLay0 601 _ (rd 40 d h.ok).1 (nH d h.sh).1)
 have h2:=h.wt
 have e:sizeLine=16777216:=by decide
 rw[e]
 omega
def fzW(f:Fl)(o:Option L)(j:Nat)(ρ1:Ev)(post:Fl→Ev→Prop):Prop:=match f with
 | .nx=>(match o with
  |some (.own _ xs)=>post .nx (ρ1.set j (.d (.lst xs)))
  |_=>post .nx ρ1)
 |f=>post f ρ1
theorem Fc(a:Addr)(xs:List D)(j:Nat)(ρ1:Ev)(post:Fl→Ev→Prop):fzW .nx (some (.own a xs)) j ρ1 post=post .nx (ρ1.set j (.d (.lst xs))):=(rfl)
theorem IU(x:D)(j:Nat)(ρ1:Ev)(post:Fl→Ev→Prop):fzW .nx (some (.d x)) j ρ1 post=post .nx ρ1:=(rfl)
end
theorem REnv.closeT{K:PySem.W.Frag}{Pr H:Hp}{σ:St}{ρ:Ev}{a:Addr}{vs:List V}{ls:List L}(hl:vs.length=ls.length)(h:SqT K H a vs)(E:REnv K Pr H (vs.map some++σ) (ls++ρ)):REnv K Pr H (some (.ref a)::σ) (.bx none ls::ρ):=by
 obtain⟨s1,s2⟩:=Paired.unapp (by simp[hl]) E.sl
 have ow:owns (.bx none ls::ρ)=owns (ls++ρ):=by
  rw[aA,ay]
  simp only[aS,Option.toList,List.nil_append,cv]
 refine⟨E.sub,by rw[ow];exact E.nd,fun b hb=>E.off b (by rw[← ow];exact hb),.cons ?_ s2⟩
 unfold aK
 exact⟨a,vs,rfl,h,bt.mpr s1⟩
theorem REnv.closeO{K:PySem.W.Frag}{Pr H:Hp}{σ:St}{ρ:Ev}{a:Addr}{vs:List V}{ls:List L}(hl:vs.length=ls.length)(h:H a=some (.lst vs))(hn:a∉owns (ls++ρ))(hp:Pr a=none)(E:REnv K Pr H (vs.map some++σ) (ls++ρ)):REnv K Pr H (some (.ref a)::σ) (.bx (some a) ls::ρ):=by
 obtain⟨s1,s2⟩:=Paired.unapp (by simp[hl]) E.sl
 have ow:owns (.bx (some a) ls::ρ)=a::owns (ls++ρ):=by
  rw[aA,ay]
  simp only[aS,Option.toList,List.cons_append,List.nil_append,cv]
 refine⟨E.sub,by rw[ow];exact List.nodup_cons.mpr ⟨hn,E.nd⟩,fun b hb=>?_,.cons ?_ s2⟩
 ·
  rw[ow]at hb
  rcases List.mem_cons.mp hb with z|z
  ·
   rw[z];exact hp
  ·
   exact E.off b z
 ·
  unfold aK
  exact⟨rfl,vs,h,bt.mpr s1⟩
section
variable{X:Cx}{e a b:Expr}{es:List Expr}{pos p p2 apos cpos:Pos}{tb te:W L}{x y:Str}
def yk(t:W (List L)):W L:=fun ρ post=>t ρ fun ls ρ1=>ls.length≤sizeLine∧post (.bx none ls) ρ1
theorem rh {x1} {bs:List (Option Nat)} {t:W (List L)} (h:PAL X es bs t):PL X (.Tuple es x1 pos) (yk t):=by
 intro pins s σ H Pr ρ post I E hq
 refine wpAny_Tuple_spliced (thn (h pos pins s σ H Pr ρ _ I E hq) fun us s1 ⟨vs,H1,ls,ρ1,I1,r,hl,hb,E1,hv,z,q⟩=>?_)
 refine⟨by rw[← r.length,hl];exact z,?_⟩
 have hf:H1 s1.heap.objs.size=none:=I1.hok.fresh (Nat.le_refl _)
 have E2:REnv X.K Pr (upd H1 s1.heap.objs.size (.tup vs)) (vs.map some++σ) (ls++ρ1):=E1.new hf
 refine⟨.ref s1.heap.objs.size,upd H1 s1.heap.objs.size (.tup vs),_,ρ1,I1.laid (t':=s1.toks) (fun b u e=>Heap.get?_push_of_some _ e) (Nat.le_refl _) ?_,rfl,E2.closeT hl (SqT.of bo),q⟩
 exact⟨by rw[hl];exact z,us,r,⟨_,Heap.get?_push_size _ rfl,rfl,_,rfl⟩⟩
def rj:List Nat→List L→Ev→(Ev→Prop)→Prop
 |[],[],ρ,k=>k ρ
 |i::is,l::ls,ρ,k=>rj is ls (ρ.set i l) k
 |_,_,_,_=>False
def IV(is:List Nat)(te:W L):W Fl:=fun ρ post=>te ρ fun r ρ1=>match r with
 |.bx none ls=>rj is ls ρ1 fun ρ2=>post .nx ρ2
 |_=>False
theorem REnv.updIn{K:PySem.W.Frag}{Pr H:Hp}{σ:St}{ρ:Ev}{i j:Nat}{q:Option Addr}{ls:List L}{l:Addr}{xs ys:List D}{vs:List V}(E:REnv K Pr H σ ρ)(hi:ρ[i]?=some (.bx q ls))(hj:ls[j]?=some (.own l xs))(r:Reps K H vs ys) :
  REnv K Pr (upd H l (.lst vs)) σ (ρ.set i (.bx q (ls.set j (.own l ys)))):=by
 obtain⟨sv,hs,_⟩:=E.slot hi
 have hil:i<ρ.length:=(List.getElem?_eq_some_iff.mp hi).1
 have hjl:j<ls.length:=(List.getElem?_eq_some_iff.mp hj).1
 have E1:=E.outL hi hs
 have fin:∀{H':Hp},REnv K Pr H' (sv::σ) (.bx q (ls.set j (.own l ys))::ρ.set i .un)→REnv K Pr H' σ (ρ.set i (.bx q (ls.set j (.own l ys)))):=fun E'=>by
  have:=E'.back (i:=i) (by simp[hil]) hs
  rwa [List.set_set]at this
 cases q with
 | none =>
  obtain⟨a,us,rfl,ha,hl,E2⟩:=E1.openT
  have E3:=E2.updOwn (i:=j) (l:=l) (xs:=xs) (ys:=ys) (vs:=vs) (by rw[List.getElem?_append_left hjl];exact hj) r
  rw[List.set_append_left _ _ hjl]at E3
  obtain⟨ws,hlw,mu⟩:=E2.at_own (a:=l) (vf (xs:=xs) (List.mem_of_getElem? (i:=j) (by rw[List.getElem?_append_left hjl];exact hj)))
  refine fin (E3.closeT (by simpa using hl) (ha.pres fun b u pu eb=>?_))
  rw[aB];exact eb
  rintro rfl
  rw[hlw]at eb;cases eb;exact mu.no pu
 | some a =>
  obtain⟨us,rfl,ha,hl,hn,hp,E2⟩:=E1.openO
  have hlm:l∈owns (ls++ρ.set i .un):=vf (xs:=xs) (List.mem_of_getElem? (i:=j) (by rw[List.getElem?_append_left hjl];exact hj))
  have E3:=E2.updOwn (i:=j) (l:=l) (xs:=xs) (ys:=ys) (vs:=vs) (by rw[List.getElem?_append_left hjl];exact hj) r
  have ow:=mx (ρ:=ls++ρ.set i .un) (i:=j) (a:=l) (xs:=xs) (ys:=ys) (by rw[List.getElem?_append_left hjl];exact hj)
  rw[List.set_append_left _ _ hjl]at E3 ow
  have hla:l≠a:=fun z=>hn (by rw[← z];exact hlm)
  refine fin (E3.closeO (by simpa using hl) ?_ (by rw[ow];exact hn) hp)
  rw[aB (Ne.symm hla)]
  exact ha
theorem REnv.inAt{K:PySem.W.Frag}{Pr H:Hp}{σ:St}{ρ:Ev}{i j:Nat}{q:Option Addr}{ls:List L}{l:Addr}{xs:List D}(E:REnv K Pr H σ ρ)(hi:ρ[i]?=some (.bx q ls))(hj:ls[j]?=some (.own l xs)) :
  ∃a us,σ[i]?=some (some (.ref a))∧(SqL K H a us∨SqT K H a us)∧us.length=ls.length∧us[j]?=some (.ref l)∧∃vs,H l=some (.lst vs)∧Reps K H vs xs:=by
 obtain⟨sv,hs,sl⟩:=E.slot hi
 have key:∀(us:List V),bB K H us ls→us[j]?=some (.ref l)∧∃vs,H l=some (.lst vs)∧Reps K H vs xs:=fun us h=>by
  obtain⟨s',e,z⟩:=Paired.get2 (bt.mp h) hj
  unfold aK at z
  obtain⟨rfl,vs,hl,rs⟩:=z
  rw[List.getElem?_map]at e
  cases eu:us[j]? with
  |none=>rw[eu]at e;cases e
  |some u=>rw[eu]at e;cases e;exact⟨rfl,vs,hl,rs⟩
 cases q with
 | none =>
  unfold aK at sl
  obtain⟨a,us,rfl,ha,h⟩:=sl
  exact⟨a,us,hs,.inr ha,h.len,key us h⟩
 | some a =>
  unfold aK at sl
  obtain⟨rfl,us,ha,h⟩:=sl
  exact⟨a,us,hs,.inl (SqL.of ha),h.len,key us h⟩
def inV'(i:Nat)(k:Int)(ρ:Ev)(K:Option Addr→List L→Nat→Addr→List D→Prop):Prop:=match ρ[i]? with
 |some (.bx q ls)=>∃j,ixN ls.length k=some j∧∃l xs,ls[j]?=some (.own l xs)∧K q ls j l xs
 |_=>False
theorem zX{i:Nat}{k:Int}{ρ:Ev}{K:Option Addr→List L→Nat→Addr→List D→Prop}(h:inV' i k ρ K):∃q ls j l xs,ρ[i]?=some (.bx q ls)∧ixN ls.length k=some j∧ls[j]?=some (.own l xs)∧K q ls j l xs:=by
 unfold inV' at h
 split at h
 ·
  rename_i q ls hi
  obtain⟨j,hj,l,xs,hl,hk⟩:=h
  exact⟨q,ls,j,l,xs,hi,hj,hl,hk⟩
 ·
  exact h.elim
theorem zY:IxR X (fun x y H Q=>∃p vs i w,x=.ref p∧y=.int i∧(SqL X.K H p vs∨SqT X.K H p vs)∧atI vs i=some w∧Q w H):=by
 intro a b pins s σ H x y v u Q I rx ry h hp
 obtain⟨p,vs,i,w,e1,e2,hq,hw,q⟩:=h
 rcases hq with hq|hq
 ·
  exact vd a b pins s σ H x y v u Q I rx ry ⟨p,vs,i,w,e1,e2,hq,hw,q⟩ hp
 ·
  exact y9 a b pins s σ H x y v u Q I rx ry ⟨p,vs,i,w,e1,e2,hq,hw,q⟩ hp
def isBx(i:Nat)(ρ:Ev):Prop:=match ρ[i]? with
 |some (.bx _ _)=>True
 |_=>False
theorem z0{i:Nat}{ρ:Ev}(h:isBx i ρ):∃q ls,ρ[i]?=some (.bx q ls):=by
 unfold isBx at h
 split at h
 ·
  rename_i q ls e;exact⟨q,ls,e⟩
 ·
  exact h.elim
def z5(i:Nat)(tk te:W L):W L:=fun ρ post=>isBx i ρ∧tk ρ fun r ρ1=>i5 r fun k=>ρ1=ρ∧(inV' i k ρ fun _ _ _ _ _=>True)∧te ρ fun r ρ2=>toD r fun y=>ρ2=ρ∧inV' i k ρ fun q ls j l xs=>xs.length<sizeLine∧post (.d .non) (ρ.set i (.bx q (ls.set j (.own l (xs++[y])))))
theorem Ho{α:Type}{us:List α}{n j:Nat}{k:Int}{w:α}(hn:us.length=n)(hj:ixN n k=some j)(hw:us[j]?=some w):atI us k=some w:=by
 unfold atI
 rw[hn,hj]
 exact hw
theorem Cs(i:Nat)(hb:PL X b tb)(he:PL X e te)(hp:nQ b)(hN:X.N[i]?=some x:=by rfl)(hv:Vis X.env.scope x:=by first | exact Or.inl rfl | exact Or.inr (Or.inl rfl) | exact Or.inr (Or.inr rfl)) (hd:(x == ("__debug__" : Str))=false:=by decide)
  (hcd:(x == ("__classdict__" : Str))=false:=by decide) (hs1:starEach [e] X.env=[(false,eval e X.env)]:=by rfl) (hbase:attributeBase (.Subscript (.Name x p) b p2) "append" X.env (eval (.Subscript (.Name x p) b p2) X.env)=eval (.Subscript (.Name x p) b p2) X.env:=by rfl)
  (hfew:((backTo cpos (starEach [e] X.env)).all (fun x=>!x.1) && (backToKw cpos (keywordEach [] X.env)).all (fun x=>x.1.isSome)
   && decide (([e]).length+([]:List Keyword).length+(if([]:List Keyword).isEmpty then 0 else 1)<30))=true:=by rfl)
  (hline:(apos.endLine == cpos.line)=true:=by rfl) (hplain:(backTo cpos (starEach ([]:List Expr) X.env)).any (·.1)=false:=by rfl) :
  PL X (.Call (.Attribute (.Subscript (.Name x p) b p2) "append" apos) [e] [] cpos) (z5 i tb te):=by
 refine PL.of (BZ PySem.F.plainAttrs_list PySem.F.slot_list_append PySem.F.type_list_append ko (BX zY (cN hN hv hd hcd) hb.pe hp) (di (au he).pe km hs1) (hbase:=hbase) (hfew:=hfew) (hline:=hline) (hs:=hs1) (hplain:=hplain)) fun σ H Pr ρ post E h=>?_
 obtain⟨hbx,h⟩:=h
 obtain⟨q,ls,hi⟩:=z0 hbx
 obtain⟨a,hσ⟩:∃a,σ[i]?=some (some (.ref a)):=by
  obtain⟨sv,hs,sl⟩:=E.slot hi
  cases q with
  |none=>unfold aK at sl;obtain⟨a,_,rfl,_⟩:=sl;exact⟨a,hs⟩
  |some a=>unfold aK at sl;obtain⟨rfl,_⟩:=sl;exact⟨a,hs⟩
 refine⟨.ref a,hσ,Pr,ρ,_,E,h,fun v H2 r ρ1 E2 pp=>?_⟩
 obtain⟨k,rfl,rfl,hin,pp⟩:=cb pp
 obtain⟨_,e1,p1⟩:=E2.head_d
 cases e1
 cases p1
 obtain⟨q',ls',j,l,xs,hi',hj,hl,_⟩:=zX hin
 rw[hi]at hi'
 cases hi'
 obtain⟨a',us,hσ',hsq,hul,huj,vs,hlv,rs⟩:=E2.tail.inAt hi hl
 rw[hσ]at hσ'
 cases hσ'
 refine⟨a,us,k,.ref l,rfl,rfl,hsq,Ho hul hj huj,.inl ⟨rfl,vs,SqL.of hlv⟩,Pr,ρ1,fun r ρ2=>match r with
  |.d y=>ρ2=ρ1∧inV' i k ρ1 fun q ls j l xs=>xs.length<sizeLine∧post (.d .non) (ρ1.set i (.bx q (ls.set j (.own l (xs++[y])))))
  |_=>False,E2.tail,pp,fun v H3 r ρ2 E3 pq=>?_⟩
 cases r with
 | d y =>
  obtain⟨e2,pq⟩:=pq
  subst e2
  obtain⟨q',ls',j',l',xs',hi',hj',hl',hlen,pq⟩:=zX pq
  rw[hi]at hi'
  cases hi'
  rw[hj]at hj'
  cases hj'
  rw[hl]at hl'
  cases hl'
  obtain⟨_,_,_,_,_,_,vs3,hlv3,rs3⟩:=E3.tail.inAt hi hl
  obtain⟨_,e3,p3⟩:=E3.head_d
  cases e3
  exact⟨l,vs3,v,rfl,rfl,hlv3,by rw[rs3.length];exact hlen,_,_,(E3.tail.updIn hi hl (rs3.append (.cons p3 .nil))).cons_d .non,pq⟩
 |_=>exact pq.elim
theorem in0{f:List D→(L→List D→Prop)→Prop}{σ:St}{H Pr:Hp}{ρ:Ev}{post:L→Ev→Prop}{i:Nat}{r0:V→List V→Hp→VK→Prop}(E:REnv X.K Pr H σ ρ)(h:isBx i ρ∧tb ρ fun r ρ1=>i5 r fun k=>ρ1=ρ∧inV' i k ρ fun q ls j l xs=>f xs fun z ys=>post z (ρ.set i (.bx q (ls.set j (.own l ys)))))
  (hr:∀(H2:Hp)(l:Addr)(vs:List V)(xs:List D)(K:L→List D→Prop)(Q:VK),H2 l=some (.lst vs)→Reps X.K H2 vs xs→f xs K→(∀v z us ys,Reps X.K H2 us ys→(∃d,z=.d d∧Rep X.K (upd H2 l (.lst us)) v d)→K z ys→Q v (upd H2 l (.lst us)))→r0 (.ref l) [] H2 Q) :
  (tBM0 X.K "list" r0 (tOp (fun x y H Q=>∃ p vs i w,x=.ref p∧y=.int i∧(SqL X.K H p vs∨SqT X.K H p vs)∧atI vs i=some w∧Q w H) (tVar i) (tL X.K tb))) σ H fun v H'=>∃ r ρ',REnv X.K Pr H' (some v::σ) (r::ρ')∧post r ρ':=by
 obtain⟨hbx,h⟩:=h
 obtain⟨q,ls,hi⟩:=z0 hbx
 obtain⟨a,hσ⟩:∃a,σ[i]?=some (some (.ref a)):=by
  obtain⟨sv,hs,sl⟩:=E.slot hi
  cases q with
  |none=>unfold aK at sl;obtain⟨a,_,rfl,_⟩:=sl;exact⟨a,hs⟩
  |some a=>unfold aK at sl;obtain⟨rfl,_⟩:=sl;exact⟨a,hs⟩
 refine⟨.ref a,hσ,Pr,ρ,_,E,h,fun v H2 r ρ1 E2 pp=>?_⟩
 obtain⟨k,rfl,rfl,pp⟩:=cb pp
 obtain⟨_,e1,p1⟩:=E2.head_d
 cases e1
 cases p1
 obtain⟨q',ls',j,l,xs,hi',hj,hl,pp⟩:=zX pp
 rw[hi]at hi'
 cases hi'
 obtain⟨a',us,hσ',hsq,hul,huj,vs,hlv,rs⟩:=E2.tail.inAt hi hl
 rw[hσ]at hσ'
 cases hσ'
 refine⟨a,us,k,.ref l,rfl,rfl,hsq,Ho hul hj huj,.inl ⟨rfl,vs,SqL.of hlv⟩,?_⟩
 refine hr H2 l vs xs _ _ hlv rs pp fun v z ws ys rw' ⟨d,ez,rz⟩ hk=>?_
 subst ez
 exact⟨_,_,(E2.tail.updIn hi hl rw').cons_d rz,hk⟩
def nI(i:Nat)(tk:W L):W L:=fun ρ post=>isBx i ρ∧tk ρ fun r ρ1=>i5 r fun k=>ρ1=ρ∧inV' i k ρ fun q ls j l _=>post (.d .non) (ρ.set i (.bx q (ls.set j (.own l []))))
theorem qt(i:Nat)(hb:PL X b tb)(hp:nQ b)(hN:X.N[i]?=some x:=by rfl)(hv:Vis X.env.scope x:=by first | exact Or.inl rfl | exact Or.inr (Or.inl rfl) | exact Or.inr (Or.inr rfl)) (hd:(x == ("__debug__" : Str))=false:=by decide)
  (hcd:(x == ("__classdict__" : Str))=false:=by decide) (hbase:attributeBase (.Subscript (.Name x p) b p2) "clear" X.env (eval (.Subscript (.Name x p) b p2) X.env)=eval (.Subscript (.Name x p) b p2) X.env:=by rfl)
  (hline:(apos.endLine == cpos.line)=true:=by rfl):PL X (.Call (.Attribute (.Subscript (.Name x p) b p2) "clear" apos) [] [] cpos) (nI i tb):=by
 refine PL.of (DT PySem.F.plainAttrs_list PySem.F.slot_list_clear PySem.F.type_list_clear B1 (BX zY (cN hN hv hd hcd) hb.pe hp) (hbase:=hbase) (hline:=hline)) fun σ H Pr ρ post E h=>?_
 refine in0 (f:=fun _ K=>K (.d .non) []) E h fun H2 l vs xs K Q hl rs hf hk=>?_
 exact⟨l,vs,rfl,rfl,hl,hk .non (.d .non) [] [] .nil ⟨.non,rfl,.non⟩ hf⟩
end
structure FX (K:PySem.W.Frag) (mg:Str→Option Value) (g:Str) (st:Stmt) (a:Addr) (fd:FuncData) (P:List Str):Prop where
 f:Fun K g g st a fd
 b:vb K fd P []
 m:mg g=some (.ref a)
abbrev fdM(g:Str)(st:Stmt)(md:Value)(c:Nat):FuncData:=PySem.W.fnOf g g (lF st) (gO st) (ak st) .none .none .none md none (.ref c) .none
theorem FX.mk'{K:PySem.W.Frag}{mg:Str→Option Value}{h:Heap}(X:K.In h)(G:h.Ns mainGlobals mg){g:Str}{st:Stmt}{a:Addr}{c:Nat}{md:Value}{P:List Str}(e1:PySem.W.nsIn K mainGlobals g=some (some (.ref a)))
  (e2:K.lookup a=some ⟨.type "function",none,.func (fdM g st md c),#[]⟩) (e3:PySem.W.codeIn K (.ref c) g=true) (e4:PySem.W.keepIn K (.ref a)=true)
  (e5:∀(kV doc pm:Value)(an:Option Addr)(cdv ct:Value)(us:List Value),us.length=P.length→bindArgs (PySem.W.fnOf g g (lF st) (gO st) (ak st) .none kV doc pm an cdv ct) ⟨us,[]⟩=pure (P.zip us)):FX K mg g st a (fdM g st md c) P :=
 ⟨DU e2 e3 e4,(DU e2 e3 e4).binds e5,PySem.W.mg_of X G e1⟩
section
variable{X:Cx}{k k' n:Nat}{f:Addr}{fd:FuncData}{ps:List Str}{fs:FS}{g:Str}{st:Stmt}{e:Expr}{es:List Expr}{bs:List (Option Nat)}{t:W (List L)}{p pos:Pos}
theorem aE(F:FnOk X.prog X.w X.K X.mg X.base CX0 k f fd ps (spF X.K n fs))(T:FX X.K X.mg g st f fd ps)(hr:Room k' X.A)(ha:PAL X (e::es) bs t)(hk:k≤k':=by decide)(hg:Gl X g:=by rfl)(hn:bs.length=n:=by rfl) (hdb:(g == ("__debug__" : Str))=false:=by decide) (he:starEach (e::es) X.env=(false,eval e X.env)::starEach es X.env:=by rfl) (hpl:(backTo pos (starEach es X.env)).any (·.1)=false:=by rfl) :
  PL X (.Call (.Name g p) (e::es) [] pos) (aC fs t):=EC F (hr.mono hk) hg T.m T.f.kp T.b GX ha hn hdb he hpl
theorem cA(F:FnOk X.prog X.w X.K X.mg X.base CX0 k f fd ps (spF X.K n fs))(T:FX X.K X.mg g st f fd ps)(hr:Room k' X.A)(j i:Nat)(ha:PAL X (e::es) bs t)(hk:k≤k':=by decide)(hg:Gl X g:=by rfl)(hj:bs[j]?=some (some i):=by rfl)(hn:bs.length=n:=by rfl) (hdb:(g == ("__debug__" : Str))=false:=by decide) (he:starEach (e::es) X.env=(false,eval e X.env)::starEach es X.env:=by rfl) (hpl:(backTo pos (starEach es X.env)).any (·.1)=false:=by rfl) :
  PL X (.Call (.Name g p) (e::es) [] pos) (bU fs j i t):=B9 F (hr.mono hk) hg T.m T.f.kp T.b GX j i ha hj hn hdb he hpl
end
theorem z6{P:Program}{w:World}{K:PySem.W.Frag}{mg:Str→Option Value}{base:Heap}{CX:CXT}{k n:Nat}{f:Addr}{fd:FuncData}{ps:List Str}{fs:FS}(h:∀ls post,¬fs ls post):FnOk P w K mg base CX k f fd ps (spF K n fs) :=
 ⟨fun _ _ _ _ ⟨_,_,ls,post,_,q,_⟩=>(h ls post q).elim,fun _ _ _ _ _ _ _ _ _ _ _ _ _ ⟨_,_,ls,post,_,q,_⟩=>(h ls post q).elim⟩
mutual
def depD:D→Nat
 |.tup xs=>pO xs+1
 |.lst xs=>pO xs+1
 |_=>0
def pO:List D→Nat
 |[]=>0
 |x::xs=>max (depD x) (pO xs)
end
theorem om{x:D}:∀{xs:List D},x∈xs→depD x≤pO xs
 | y::ys,h=>by
  simp only[pO]
  rcases List.mem_cons.mp h with rfl|h
  ·
   omega
  ·
   have:=om h;omega
theorem xg{n:Nat}:∀{xs:List D},(∀x∈xs,depD x≤n)→pO xs≤n
 |[],_=>Nat.zero_le _
 | y::ys,h=>by
  simp only[pO]
  have:=h y List.mem_cons_self
  have:=xg (xs:=ys) fun x hx=>h x (List.mem_cons_of_mem _ hx)
  omega
end L2
namespace L2
open PySem PySem.Spec PyProof.Rows PySem.Builtin.Str
inductive Sk where
 |l|t
def Sk.At:Sk→Heap→Addr→Addr→Nat→Prop
 |.l,h,j,a,i=>h.IsListIter j a i
 |.t,h,j,a,i=>IsTupIter h j a i
def Sk.Sq:Sk→Heap→Addr→Array Value→Prop
 |.l,h,a,xs=>h.IsList a xs
 |.t,h,a,xs=>IsTup h a xs
theorem Sk.At.to{k:Sk}{h h':Heap}{j a:Addr}{i:Nat}(x:k.At h j a i)(e:∀o,h.get? j=some o→h'.get? j=some o):k.At h' j a i:=by
 cases k with
 |l=>obtain⟨o,z,r⟩:=x;exact⟨o,e _ z,r⟩
 |t=>obtain⟨o,z,r⟩:=x;exact⟨o,e _ z,r⟩
theorem Sk.Sq.to{k:Sk}{h h':Heap}{a:Addr}{xs:Array Value}(x:k.Sq h a xs)(e:∀o,h.get? a=some o→h'.get? a=some o):k.Sq h' a xs:=by
 cases k with
 |l=>obtain⟨o,z,r⟩:=x;exact⟨o,e _ z,r⟩
 |t=>obtain⟨o,z,r⟩:=x;exact⟨o,e _ z,r⟩
theorem Sk.At.obj{k:Sk}{h:Heap}{j a:Addr}{i:Nat}(x:k.At h j a i):∃ o,h.get? j=some o∧(∀ v,o.data≠.cell v)∧o.cls≠.type "list"∧o.cls≠.type "tuple":=by
 cases k with
 |l=>obtain⟨o,z,c,d⟩:=x;exact⟨o,z,(fun v q=>by rw[d]at q;cases q),by rw[c];simp,by rw[c];simp⟩
 |t=>obtain⟨o,z,c,d⟩:=x;exact⟨o,z,(fun v q=>by rw[d]at q;cases q),by rw[c];simp,by rw[c];simp⟩
theorem Sk.Sq.obj{k:Sk}{h:Heap}{a:Addr}{xs:Array Value}(x:k.Sq h a xs):∃ o,h.get? a=some o∧(o.cls=.type "list"∨o.cls=.type "tuple"):=by
 cases k with
 |l=>obtain⟨o,z,c,d⟩:=x;exact⟨o,z,.inl c⟩
 |t=>obtain⟨o,z,c,d⟩:=x;exact⟨o,z,.inr c⟩
section
variable{prog:Program}{w:World}{A:Around}{E:Value→Shared→Prop}{s:Shared}
theorem Hq{j q:Addr}{i:Nat}{ys:Array Value}{y:Value}{Q:Value→Shared→Prop}(hj:IsTupIter s.heap j q i)(hq:IsTup s.heap q ys)(hy:ys[i]?=some y)
  (k:∀h',IsTupIter h' j q (i+1)→Heap.SameBut j s.heap h'→Q y {s with heap:=h' }):wpAny (model prog w) A (Builtin.SmallTypes.nextOf (.ref j)) Q E s:=by
 obtain⟨u,hu,cu,du⟩:=id hj
 obtain⟨v,hv,_,n,dv⟩:=hq
 unfold Builtin.SmallTypes.nextOf
 refine wpAny_bind (wpAny_callSpecial?_slot (name:=Str.ofString "__next__") hj.typeIs slot_tupleiter_next (wpAny_call_entry slot_tupleiter_next hj.typeIs entry_tupleiter_next ?_ (args_tupleiter_next _)))
 show wpAny _ _ (field (.ref j) 0 >>= _) _ _ s
 refine wpAny_bind (wpAny_field hu du (x:=.ref q) rfl ?_)
 show wpAny _ _ (if(Value.ref q == Value.none)=true then _ else _) _ _ s
 rw[if_neg (show ¬((Value.ref q == Value.none)=true)from Bool.false_ne_true)]
 show wpAny _ _ (field (.ref j) 1 >>= _) _ _ s
 refine wpAny_bind (wpAny_field hu du (x:=.int i 0) rfl ?_)
 show wpAny _ _ (seqItems? (.ref q) >>= _) _ _ s
 refine wpAny_bind (wpAny_seqItems hv dv ?_)
 simp only[hy,Int.toNat_natCast]
 refine wpAny_bind (wpAny_setField hu du (by simp) (wpAny_pure ⟨y,rfl,wpAny_pure (k _ ?_ (Heap.SameBut.update ..))⟩))
 exact⟨_,Heap.get?_update_self _ hu (Obj.isFreed_of_fields (Obj.data_mapFields du _)),(Obj.cls_mapFields ..).trans cu,by rw[Obj.data_mapFields du];simp[rawInt]⟩
theorem Fd{j q:Addr}{i:Nat}{ys:Array Value}{Q:Value→Shared→Prop}(h0:A.handled=none)(hj:IsTupIter s.heap j q i)(hq:IsTup s.heap q ys)(hy:ys[i]?=none)
  (k:∀ h' e,Heap.ExtBut j s.heap h'→(∃ o,h'.get? e=some o∧o.cls=.type "StopIteration")→E (.ref e) {s with heap:=h' }):wpAny (model prog w) A (Builtin.SmallTypes.nextOf (.ref j)) Q E s:=by
 obtain⟨u,hu,cu,du⟩:=id hj
 obtain⟨v,hv,_,n,dv⟩:=hq
 unfold Builtin.SmallTypes.nextOf
 refine wpAny_bind (wpAny_callSpecial?_slot (name:=Str.ofString "__next__") hj.typeIs slot_tupleiter_next (wpAny_call_entry slot_tupleiter_next hj.typeIs entry_tupleiter_next ?_ (args_tupleiter_next _)))
 show wpAny _ _ (field (.ref j) 0 >>= _) _ _ s
 refine wpAny_bind (wpAny_field hu du (x:=.ref q) rfl ?_)
 show wpAny _ _ (if(Value.ref q == Value.none)=true then _ else _) _ _ s
 rw[if_neg (show ¬((Value.ref q == Value.none)=true)from Bool.false_ne_true)]
 show wpAny _ _ (field (.ref j) 1 >>= _) _ _ s
 refine wpAny_bind (wpAny_field hu du (x:=.int i 0) rfl ?_)
 show wpAny _ _ (seqItems? (.ref q) >>= _) _ _ s
 refine wpAny_bind (wpAny_seqItems hv dv ?_)
 simp only[hy,Int.toNat_natCast]
 refine wpAny_bind (wpAny_rule (wpAny_bind (wpAny_setField hu du (by simp) ?_)))
 show wpAny _ _ (newExc (.type "StopIteration") [] >>= _) _ _ {s with heap:=_}
 refine wpAny_bind ?_
 simp only[newExc,newTuple]
 refine wpAny_bind (wpAny_newObj_type ?_ (by size_fits));refine wpAny_bind (m:=firstArgMember _ _) (wpAny_of_eq (a:=Value.none) (by first|rfl|(simp only[firstArgMember];rfl)) ?_);refine wpAny_newObj_type ?_ (by size_fits)
 simp only[raiseNew]
 refine wpAny_bind (wpAny_handled ?_);first|rw[show A.in1.handled=none from h0] | rw[h0]
 refine wpAny_bind (wpAny_pure (wpAny_throw ?_))
 exact k _ _ (((Heap.SameBut.update ..).extBut.push _).push _) ⟨_,Heap.get?_push_size _ rfl,rfl⟩
theorem Sk.draw{k:Sk}{j a:Addr}{i:Nat}{ys:Array Value}{y:Value}{Q:Value→Shared→Prop}(hj:k.At s.heap j a i)(ha:k.Sq s.heap a ys)(hy:ys[i]?=some y)
  (q:∀h',k.At h' j a (i+1)→Heap.SameBut j s.heap h'→Q y {s with heap:=h' }):wpAny (model prog w) A (Builtin.SmallTypes.nextOf (.ref j)) Q E s:=by
 cases k with
 |l=>exact wpAny_nextOf_list_item hj ha hy q
 |t=>exact Hq hj ha hy q
theorem Sk.drawE{k:Sk}{j a:Addr}{i:Nat}{ys:Array Value}{Q:Value→Shared→Prop}(h0:A.handled=none)(hj:k.At s.heap j a i)(ha:k.Sq s.heap a ys)(hy:ys[i]?=none)
  (q:∀ h' e,Heap.ExtBut j s.heap h'→(∃ o,h'.get? e=some o∧o.cls=.type "StopIteration")→E (.ref e) {s with heap:=h' }):wpAny (model prog w) A (Builtin.SmallTypes.nextOf (.ref j)) Q E s:=by
 cases k with
 |l=>exact wpAny_nextOf_list_end h0 hj ha hy q
 |t=>exact Fd h0 hj ha hy q
end
abbrev dX(h:Heap)(T:Addr)(xs:List Value):Prop:=h.get? T=some {cls:=.type "tuple",data:=.seq xs.toArray}
abbrev Zi:=Sk×Addr×Addr
def Zi.ofs(js:List Zi):List Addr:=js.map (·.2.1)
structure ZA (z I O:Addr) (js:List Zi):Prop where
 nd:(z::I::O::Zi.ofs js).Nodup
 src:∀p∈js,p.2.2∉z::O::Zi.ofs js
structure ZSt (z I O:Addr) (js:List Zi) (f:Value) (i:Nat) (h:Heap):Prop where
 hz:IsZip h z I O f
 hI:dX h I ((Zi.ofs js).map .ref)
 hO:∃os,os.length=js.length∧dX h O os
 at':∀p∈js,p.1.At h p.2.1 p.2.2 i
def z7(z O:Addr)(js:List Zi)(h h':Heap):Prop:=∀c o,c∉z::O::Zi.ofs js→h.get? c=some o→h'.get? c=some o
structure ZMid (z I O:Addr) (js:List Zi) (xs:List Value) (i j:Nat) (h₀ h:Heap):Prop where
 hz:IsZip h z I O .ellipsis
 hO:∃os,os.length=js.length∧dX h O os∧os.take j=xs.take j
 ahead:∀m p,m<j→js[m]?=some p→p.1.At h p.2.1 p.2.2 (i+1)
 behind:∀m p,j≤m→js[m]?=some p→p.1.At h p.2.1 p.2.2 i
 keep:z7 z O js h₀ h
 sz:h.objs.size=h₀.objs.size
theorem gY{js:List Zi}{p:Zi}(h:p∈js):p.2.1∈Zi.ofs js:=List.mem_map.mpr ⟨p,h,rfl⟩
theorem ZA.zO{z I O:Addr}{js:List Zi}(D:ZA z I O js):z≠O:=fun e=>by have:=D.nd;simp[e]at this
theorem ZA.zj{z I O:Addr}{js:List Zi}(D:ZA z I O js){p:Zi}(hp:p∈js):p.2.1≠z∧p.2.1≠O:=by
 have n:=D.nd
 have m:=gY hp
 simp only[List.nodup_cons,List.mem_cons,not_or]at n
 exact⟨fun e=>n.1.2.2 (e ▸ m),fun e=>n.2.2.1 (e ▸ m)⟩
theorem ZA.Iz{z I O:Addr}{js:List Zi}(D:ZA z I O js):I∉z::O::Zi.ofs js:=by
 have n:=D.nd
 simp only[List.nodup_cons,List.mem_cons,not_or]at n ⊢
 exact⟨Ne.symm n.1.1,n.2.1.1,n.2.1.2⟩
theorem ZA.inj{z I O:Addr}{js:List Zi}(D:ZA z I O js){m m':Nat}{p p':Zi}(h:js[m]?=some p)(h':js[m']?=some p')(e:p.2.1=p'.2.1):m=m':=by
 have n:=D.nd
 simp only[List.nodup_cons]at n
 obtain⟨hm,e1⟩:=List.getElem?_eq_some_iff.mp h
 obtain⟨hm',e2⟩:=List.getElem?_eq_some_iff.mp h'
 have key:=List.pairwise_iff_getElem.mp n.2.2.2
 have q:∀k (hk:k<js.length),(Zi.ofs js)[k]'(by simpa[Zi.ofs]using hk)=js[k].2.1:=fun k hk=>by simp[Zi.ofs]
 have hl:(Zi.ofs js).length=js.length:=by simp[Zi.ofs]
 rcases Nat.lt_trichotomy m m' with g|g|g
 ·
  exact absurd (by rw[q m hm,q m' hm',e1,e2,e]) (key m m' (by omega) (by omega) g)
 ·
  exact g
 ·
  exact absurd (by rw[q m hm,q m' hm',e1,e2,e]) (key m' m (by omega) (by omega) g)
section
theorem z8{α:Type}{xs:List α}{j:Nat}{x:α×Nat}{r:List (α×Nat)}(e:xs.zipIdx.drop j=x::r):x.2=j∧xs[j]?=some x.1∧xs.zipIdx.drop (j+1)=r:=by
 have h0:(xs.zipIdx.drop j)[0]?=some x:=by rw[e];rfl
 rw[List.getElem?_drop,Nat.add_zero,List.getElem?_zipIdx]at h0
 have h2:xs.zipIdx.drop (j+1)=r:=by rw[← List.drop_drop,e];rfl
 cases h:xs[j]? with
 |none=>rw[h]at h0;cases h0
 | some y =>
  rw[h]at h0
  simp only[Option.map_some,Nat.zero_add,Option.some.injEq]at h0
  subst h0
  exact⟨rfl,rfl,h2⟩
theorem sz8{n:Nat}(h:n≤8):n≤sizeLine:=Nat.le_trans h (by decide)
end
def Sk.nm:Sk→String
 |.l=>"list_iterator"
 |.t=>"tuple_iterator"
abbrev Sk.itO(k:Sk)(a:Addr):Obj:={cls:=.type k.nm,data:=.fields #[.ref a,.int 0 0] }
section
variable{prog:Program}{w:World}{A:Around}{E:Value→Shared→Prop}{s:Shared}
theorem Sk.iter{k:Sk}{a:Addr}{ys:Array Value}{Q:Value→Shared→Prop}(h:k.Sq s.heap a ys)(hQ:Q (.ref s.heap.objs.size) {s with heap:=s.heap.push (k.itO a) }):wpAny (model prog w) A (pyIter (.ref a)) Q E s:=by
 cases k with
 |l=>exact wpAny_pyIter_list h hQ
 |t=>exact iter_tuple h hQ
end
theorem Sk.itAt{k:Sk}{h:Heap}{j a:Addr}(e:h.get? j=some (k.itO a)):k.At h j a 0:=by
 cases k with
 |l=>exact⟨_,e,rfl,rfl⟩
 |t=>exact⟨_,e,rfl,rfl⟩
abbrev zA(h:Heap)(k:Sk)(a:Addr):Heap:=h.push (k.itO a)
abbrev zT(h:Heap)(vs:List Value):Heap:=h.push {cls:=.type "tuple",data:=.seq vs.toArray}
abbrev zZ(h:Heap)(I O:Addr):Heap:=h.push {cls:=.type "zip",data:=.fields #[.none,.bool false,.bool false,.ref I,.ref O] }
abbrev z2T(h:Heap)(k m:Sk)(a b:Addr):Heap:=zT (zA (zA h k a) m b) [.ref h.objs.size,.ref (zA h k a).objs.size]
abbrev z2N(h:Heap)(k m:Sk)(a b:Addr):Heap:=zT (z2T h k m a b) [.none,.none]
abbrev z2Z(h:Heap)(k m:Sk)(a b:Addr):Heap:=zZ (z2N h k m a b) (zA (zA h k a) m b).objs.size (z2T h k m a b).objs.size
theorem Ct(k m:Sk)(a b:Addr)(xs ys:Array Value):Meets (Builtin.«zip.__new__» ⟨[.type "zip",.ref a,.ref b],[]⟩) (fun _ R s=>k.Sq s.heap a xs∧m.Sq s.heap b ys∧R (.ok (.ret (.ref (z2N s.heap k m a b).objs.size))) {s with heap:=z2Z s.heap k m a b}) :=
 .of_wp fun prog w A R s q=>by
  obtain⟨hp,g,d,tk,os⟩:=s;obtain⟨q1,q2,q⟩:=q
  have hsub:=sub_zip
  have p1:Sk.Sq k (Shared.heap ⟨hp,g,d,tk,os⟩) a xs:=q1
  have p2:Sk.Sq m (Shared.heap ⟨hp.push (k.itO a),g,d,tk,os⟩) b ys:=q2.to fun o e=>Heap.get?_push_of_some _ e
  wp_walk using Sk.iter p1,Sk.iter p2
  exact⟨_,rfl,q⟩
structure Zq where
 k:Sk
 it:Addr
 a:Addr
 c:List V
def Zq.zi(q:Zq):Zi:=(q.k,q.it,q.a)
def SqK(K:PySem.W.Frag)(H:Hp):Sk→Addr→List V→Prop
 |.l,a,xs=>SqL K H a xs
 |.t,a,xs=>SqT K H a xs
section
variable{X:Cx}{pins:List (Addr×Obj)}{σ:St}{H:Hp}{s:Shared}
theorem Inv.sqk{k:Sk}{a:Addr}{xs:List V}(I:Inv X pins σ H s)(h:SqK X.K H k a xs):∃its:List Value,Vals xs its∧k.Sq s.heap a its.toArray:=by
 cases k with
 |l=>obtain⟨its,r,p,_⟩:=I.list h;exact⟨its,r,p.isList⟩
 |t=>obtain⟨its,r,p,_⟩:=I.tuple h;exact⟨its,r,p⟩
end
def ItN(K:PySem.W.Frag)(qs:List Zq):It :=
 ⟨fun i H=>∀q∈qs,SqK K H q.k q.a q.c∧i<q.c.length,fun i H v H'=>∃p,v=.ref p∧H p=none∧H'=upd H p (.tup (qs.map fun q=>q.c.getD i .non)),fun i H=>(∀q∈qs,SqK K H q.k q.a q.c)∧∃q∈qs,q.c.length≤i⟩
open Classical in
theorem tZ{α β:Type}[Inhabited β]{P:α→β→Prop}{l:List α}(h:∀x∈l,∃y,P x y):∃f:α→β,∀x∈l,P x (f x) :=
 ⟨fun x=>if hx:x∈l then Classical.choose (h x hx)else default,fun x hx=>by
  dsimp only
  rw[dif_pos hx]
  exact Classical.choose_spec (h x hx)⟩
theorem qu{α β γ:Type}{F:β→γ→Prop}{f:α→β}{g:α→γ}:∀{l:List α},(∀x∈l,F (f x) (g x))→Paired F (l.map f) (l.map g)
 |[],_=>.nil
 |x::l,h=>.cons (h x List.mem_cons_self) (qu fun y hy=>h y (List.mem_cons_of_mem _ hy))
theorem xh{K:PySem.W.Frag}{H:Hp}{α:Type}{f:α→V}{g:α→D}:∀{l:List α},(∀x∈l,Rep K H (f x) (g x))→Reps K H (l.map f) (l.map g)
 |[],_=>.nil
 |x::l,h=>.cons (h x List.mem_cons_self) (xh fun y hy=>h y (List.mem_cons_of_mem _ hy))
def SqF(K:PySem.W.Frag)(H:Hp):Sk→Addr→List V→Prop
 |.l,a,xs=>SqZ K H a xs
 |.t,a,xs=>SqT K H a xs
theorem SqF.pres{K:PySem.W.Frag}{H H':Hp}{k:Sk}{a:Addr}{xs:List V}(p:Pres H H')(h:SqF K H k a xs):SqK K H' k a xs:=by
 cases k with
 |l=>exact(SqZ.pres p h).l
 |t=>exact SqT.pres p h
def Sk.mk:Sk→List D→D
 |.l,xs=>.lst xs
 |.t,xs=>.tup xs
theorem Sk.rep{K:PySem.W.Frag}{H:Hp}{k:Sk}{v:V}{xs:List D}(r:Rep K H v (k.mk xs)):∃a vs,v=.ref a∧SqF K H k a vs∧Reps K H vs xs:=by
 cases k with
 | l=>cases r with
  |lst h rs=>exact⟨_,_,rfl,h,rs⟩
 | t=>cases r with
  |tup h rs=>exact⟨_,_,rfl,h,rs⟩
theorem t5(xs ys:List D):((List.range (min xs.length ys.length)).map fun i=>D.tup [xs.getD i .non,ys.getD i .non])=zipD xs ys:=by
 refine List.ext_getElem (by simp[zipD]) fun i h1 h2=>?_
 have:i<min xs.length ys.length:=by simpa using h1
 simp only[List.getElem_map,List.getElem_range,zipD,List.getElem_zip]
 rw[List.getD_eq_getElem?_getD,List.getD_eq_getElem?_getD,List.getElem?_eq_getElem (by omega),List.getElem?_eq_getElem (by omega)]
 rfl
section
variable{prog:Program}{w:World}{A:Around}{E:Value→Shared→Prop}{s:Shared}
theorem yl{k m:Sk}{a b:Addr}{xs ys:Array Value}{Q:Value→Shared→Prop}(ha:k.Sq s.heap a xs)(hb:m.Sq s.heap b ys)
  (h:∀h',ZSt (s.heap.objs.size+4) (s.heap.objs.size+2) (s.heap.objs.size+3) [(k,s.heap.objs.size,a),(m,s.heap.objs.size+1,b)] .none 0 h'→(∀c o,s.heap.get? c=some o→h'.get? c=some o)→Q (.ref (s.heap.objs.size+4)) {s with heap:=h' }) :
  wpAny (model prog w) A (call (.type "zip") [.ref a,.ref b]) Q E s:=by
 refine callType_new F.called_zip (by decide) (F.typeCall_zip_2 _ _) (F.newCall_zip_2 _ _) (fun obj=>F.args_object_init_3 obj _ _) F.entry_zip_new (Ct k m a b xs ys) ⟨ha,hb,?_⟩
 have z1:(zA s.heap k a).objs.size=s.heap.objs.size+1:=Heap.size_push ..
 have z2:(zA (zA s.heap k a) m b).objs.size=s.heap.objs.size+2:=by rw[Heap.size_push,z1]
 have z3:(z2T s.heap k m a b).objs.size=s.heap.objs.size+3:=by rw[Heap.size_push,z2]
 have z4:(z2N s.heap k m a b).objs.size=s.heap.objs.size+4:=by rw[Heap.size_push,z3]
 have g5:(z2Z s.heap k m a b).get? (z2N s.heap k m a b).objs.size=some _:=Heap.get?_push_size _ rfl
 have g4:(z2Z s.heap k m a b).get? (z2T s.heap k m a b).objs.size=some _:=Heap.get?_push_of_some _ (Heap.get?_push_size _ rfl)
 have g3:(z2Z s.heap k m a b).get? (zA (zA s.heap k a) m b).objs.size=some _:=Heap.get?_push_of_some _ (Heap.get?_push_of_some _ (Heap.get?_push_size _ rfl))
 have g2:(z2Z s.heap k m a b).get? (zA s.heap k a).objs.size=some _:=Heap.get?_push_of_some _ (Heap.get?_push_of_some _ (Heap.get?_push_of_some _ (Heap.get?_push_size _ rfl)))
 have g1:(z2Z s.heap k m a b).get? s.heap.objs.size=some _:=Heap.get?_push_of_some _ (Heap.get?_push_of_some _ (Heap.get?_push_of_some _ (Heap.get?_push_of_some _ (Heap.get?_push_size _ rfl))))
 show _∧_
 rw[z2,z3,z4]at g5
 rw[z1,z2]at g3
 rw[z3]at g4
 rw[z1]at g2
 rw[z4]
 refine⟨⟨_,g5,rfl⟩,h _ ⟨g5,g3,⟨_,by simp,g4⟩,fun p hp=>?_⟩ fun c o x=>Heap.get?_push_of_some _ (Heap.get?_push_of_some _ (Heap.get?_push_of_some _ (Heap.get?_push_of_some _ (Heap.get?_push_of_some _ x))))⟩
 simp only[List.mem_cons,List.not_mem_nil,or_false]at hp
 rcases hp with rfl|rfl
 ·
  exact Sk.itAt g1
 ·
  exact Sk.itAt g2
end
def seqK(d:D)(k:Sk→List D→Prop):Prop:=match d with
 |.lst xs=>k .l xs
 |.tup xs=>k .t xs
 |_=>False
theorem z9{d:D}{k:Sk→List D→Prop}(h:seqK d k):∃s xs,d=Sk.mk s xs∧k s xs:=by
 unfold seqK at h
 split at h
 ·
  exact⟨.l,_,rfl,h⟩
 ·
  exact⟨.t,_,rfl,h⟩
 ·
  exact h.elim
def zipE(d d2:D)(k:List D→Prop):Prop:=seqK d fun _ xs=>seqK d2 fun _ ys=>k (zipD xs ys)
abbrev IsZp(h:Heap)(z I O:Addr)(f:Value)(b:Bool):Prop:=h.get? z=some {cls:=.type "zip",dict:=none,data:=.fields #[f,.bool b,.bool false,.ref I,.ref O],slots:=#[] }
theorem t6{M:Model}{A:Around}{E:Value→Shared→Prop}{s:Shared}{α β:Type}(f:α→β→Sem (ForInStep β))(J:List α→β→Shared→Prop)(Q:β→Shared→Prop)
  (turn:∀x rest b s,J (x::rest) b s→wpAny M A (f x b) (fun r s'=>match r with | .yield b'=>J rest b' s' | .done b'=>Q b' s') E s) (fin:∀b s,J [] b s→Q b s) (xs:Array α) (b:β) (h:J xs.toList b s):wpAny M A (forIn xs b f) Q E s:=by
 rw[← Array.forIn_toList];exact wpAny_forIn_list f J Q turn fin _ b h
section
variable{prog:Program}{w:World}{A:Around}{E:Value→Shared→Prop}{s:Shared}{z I O:Addr}{js:List Zi}{i:Nat}
theorem Cu{a:Addr}{Q:Option Obj→Shared→Prop}(h:Q (s.heap.get? a) s):wpAny (model prog w) A (loadIfAlive a) Q E s:=fun Γ p hΓ=>by
 show Sem.wp _ Γ (.loadIfAlive a .pure) _ _ p s
 rw[Sem.wp_loadIfAlive]
 exact h
theorem xi{f:Value}{b:Bool}{Q:Bool→Shared→Prop}(hz:IsZp s.heap z I O f b)(hf:f=.none∨∃T:Nat,f=rawInt T)(h1:Q true s)(h2:∀h' b',IsZp h' z I O f b'→Heap.SameBut z s.heap h'→Q false {s with heap:=h' }) :
  wpAny (model prog w) A (Builtin.SmallTypes.ownedTupleIsFree (.ref z)) Q E s:=by
 unfold Builtin.SmallTypes.ownedTupleIsFree
 refine wpAny_bind (wpAny_field hz rfl (x:=f) rfl ?_)
 rcases hf with rfl|⟨T,rfl⟩
 ·
  exact wpAny_pure h1
 ·
  show wpAny _ _ (loadIfAlive (T:Int).toNat >>= _) _ _ s
  refine wpAny_bind (Cu ?_)
  cases hT:s.heap.get? (T:Int).toNat with
  |none=>exact wpAny_pure h1
  | some o =>
   show wpAny _ _ (field (.ref z) 1 >>= _) _ _ s
   refine wpAny_bind (wpAny_field hz rfl (x:=.bool b) rfl ?_)
   cases b with
   |true=>exact wpAny_pure (h2 s.heap true hz ⟨rfl,fun _ _=>rfl⟩)
   | false =>
    show wpAny _ _ (setField (.ref z) 1 (.bool true) >>= _) _ _ s
    exact wpAny_bind (wpAny_setField_rec hz (by simp) fun h' hz' hs'=>wpAny_pure (h2 h' true hz' hs'))
structure ZMd (zo:Obj) (z O:Addr) (js:List Zi) (xs:List Value) (i j:Nat) (h₀ h:Heap):Prop where
 hz:h.get? z=some zo
 hO:∃os,os.length=js.length∧dX h O os∧os.take j=xs.take j
 ahead:∀m p,m<j→js[m]?=some p→p.1.At h p.2.1 p.2.2 (i+1)
 behind:∀m p,j≤m→js[m]?=some p→p.1.At h p.2.1 p.2.2 i
 keep:z7 z O js h₀ h
 sz:h.objs.size=h₀.objs.size
theorem ZMd.next(D:ZA z I O js){zo:Obj}{xs os:List Value}{j:Nat}{p:Zi}{x:Value}{h₀ h h1:Heap}(hj:js[j]?=some p)(hx:xs[j]?=some x)(M:ZMd zo z O js xs i j h₀ h)(a1:p.1.At h1 p.2.1 p.2.2 (i+1))(s1:Heap.SameBut p.2.1 h h1)
  (ol:os.length=js.length) (ho1:dX h1 O os) (ht:os.take j=xs.take j):ZMd zo z O js xs i (j+1) h₀ (h1.update O (Obj.mapSeq (·.setIfInBounds j x))):=by
 have pm:p∈js:=List.mem_of_getElem? hj
 have jl:j<js.length:=(List.getElem?_eq_some_iff.mp hj).1
 have s2:Heap.SameBut O h1 (h1.update O (Obj.mapSeq (·.setIfInBounds j x))):=Heap.SameBut.update ..
 have ho2:dX (h1.update O (Obj.mapSeq (·.setIfInBounds j x))) O (os.set j x):=by
  show Heap.get? _ _=_
  rw[Heap.get?_update_self _ ho1 rfl]
  simp[Obj.mapSeq]
 have k2:∀c o,c≠O→c≠p.2.1→h.get? c=some o→(h1.update O (Obj.mapSeq (·.setIfInBounds j x))).get? c=some o:=fun c o n1 n2 e=>s2.extBut _ _ n1 (s1.extBut _ _ n2 e)
 refine⟨k2 _ _ D.zO (Ne.symm (D.zj pm).1) M.hz,⟨os.set j x,by simp[ol],ho2,?_⟩,fun m q hm hq=>?_,fun m q hm hq=>?_,fun c o hc e=>?_,by rw[s2.1,s1.1];exact M.sz⟩
 ·
  have hxl:j<xs.length:=(List.getElem?_eq_some_iff.mp hx).1
  rw[List.take_succ,List.take_succ,List.getElem?_set_self (by omega),hx,List.take_set_of_le (Nat.le_refl _),ht]
 ·
  have qm:q∈js:=List.mem_of_getElem? hq
  rcases Nat.lt_or_ge m j with h|h
  ·
   have ne:q.2.1≠p.2.1:=fun e=>by have:=D.inj hq hj e;omega
   exact(M.ahead m q h hq).to fun o e=>k2 _ o (D.zj qm).2 ne e
  ·
   have:m=j:=by omega
   subst this
   rw[hj]at hq
   cases hq
   exact a1.to fun o e=>s2.extBut _ _ (D.zj pm).2 e
 ·
  have qm:q∈js:=List.mem_of_getElem? hq
  have ne:q.2.1≠p.2.1:=fun e=>by have:=D.inj hq hj e;omega
  exact(M.behind m q (by omega) hq).to fun o e=>k2 _ o (D.zj qm).2 ne e
 ·
  have n:=hc
  simp only[List.mem_cons,not_or]at n
  exact k2 c o n.2.1 (fun q=>n.2.2 (q ▸ gY pm)) (M.keep c o hc e)
structure LSt (z I O:Addr) (js:List Zi) (i:Nat) (h:Heap):Prop where
 hz:∃f b,(f=.none∨∃T:Nat,f=rawInt T)∧IsZp h z I O f b
 hI:dX h I ((Zi.ofs js).map .ref)
 hO:∃os,os.length=js.length∧dX h O os
 at':∀p∈js,p.1.At h p.2.1 p.2.2 i
structure ZMp (zo:Obj) (z O:Addr) (js:List Zi) (i j:Nat) (h₀ h:Heap):Prop where
 hz:h.get? z=some zo
 hO:∃os,os.length=js.length∧dX h O os
 ahead:∀m p,m<j→js[m]?=some p→p.1.At h p.2.1 p.2.2 (i+1)
 behind:∀m p,j≤m→js[m]?=some p→p.1.At h p.2.1 p.2.2 i
 keep:z7 z O js h₀ h
 sz:h.objs.size=h₀.objs.size
theorem ZMp.next(D:ZA z I O js){zo:Obj}{j:Nat}{p:Zi}{h₀ h h1:Heap}(hj:js[j]?=some p)(M:ZMp zo z O js i j h₀ h)(a1:p.1.At h1 p.2.1 p.2.2 (i+1))(s1:Heap.SameBut p.2.1 h h1):ZMp zo z O js i (j+1) h₀ h1:=by
 have pm:p∈js:=List.mem_of_getElem? hj
 obtain⟨os,ol,ho⟩:=M.hO
 have k2:∀c o,c≠p.2.1→h.get? c=some o→h1.get? c=some o:=fun c o n e=>s1.extBut _ _ n e
 refine⟨k2 _ _ (Ne.symm (D.zj pm).1) M.hz,⟨os,ol,k2 _ _ (Ne.symm (D.zj pm).2) ho⟩,fun m q hm hq=>?_,fun m q hm hq=>?_,fun c o hc e=>?_,by rw[s1.1];exact M.sz⟩
 ·
  rcases Nat.lt_or_ge m j with h|h
  ·
   have ne:q.2.1≠p.2.1:=fun e=>by have:=D.inj hq hj e;omega
   exact(M.ahead m q h hq).to fun o e=>k2 _ o ne e
  ·
   have:m=j:=by omega
   subst this
   rw[hj]at hq
   cases hq
   exact a1
 ·
  have ne:q.2.1≠p.2.1:=fun e=>by have:=D.inj hq hj e;omega
  exact(M.behind m q (by omega) hq).to fun o e=>k2 _ o ne e
 ·
  have n:=hc
  simp only[List.mem_cons,not_or]at n
  exact k2 c o (fun q=>n.2.2 (q ▸ gY pm)) (M.keep c o hc e)
theorem D2{x:Value×Nat}{rest:List (Value×Nat)}{j:Nat}(er:((Zi.ofs js).map Value.ref).zipIdx.drop j=x::rest):∃p,js[j]?=some p∧x=(.ref p.2.1,j)∧((Zi.ofs js).map Value.ref).zipIdx.drop (j+1)=rest:=by
 obtain⟨e1,e2,e3⟩:=z8 er
 rw[List.getElem?_map]at e2
 obtain⟨y,e4,e5⟩:=Option.map_eq_some_iff.mp e2
 unfold Zi.ofs at e4
 rw[List.getElem?_map]at e4
 obtain⟨p,hp,e6⟩:=Option.map_eq_some_iff.mp e4
 exact⟨p,hp,Prod.ext (by rw[← e5,← e6]) e1,e3⟩
abbrev zEll(I O:Addr)(b:Bool):Obj:={cls:=.type "zip",dict:=none,data:=.fields #[.ellipsis,.bool b,.bool false,.ref I,.ref O],slots:=#[] }
abbrev zRec(I O:Addr)(f:Value)(b:Bool):Obj:={cls:=.type "zip",dict:=none,data:=.fields #[f,.bool b,.bool false,.ref I,.ref O],slots:=#[] }
theorem Aa{x:Value}{rest:List Value}{j:Nat}(er:((Zi.ofs js).map Value.ref).drop j=x::rest):∃p,js[j]?=some p∧x=.ref p.2.1∧((Zi.ofs js).map Value.ref).drop (j+1)=rest:=by
 have h0:(((Zi.ofs js).map Value.ref).drop j)[0]?=some x:=by rw[er];rfl
 rw[List.getElem?_drop,Nat.add_zero,List.getElem?_map]at h0
 obtain⟨y,e4,e5⟩:=Option.map_eq_some_iff.mp h0
 unfold Zi.ofs at e4
 rw[List.getElem?_map]at e4
 obtain⟨p,hp,e6⟩:=Option.map_eq_some_iff.mp e4
 exact⟨p,hp,by rw[← e5,← e6],by rw[← List.drop_drop,er];rfl⟩
theorem ZMp.put(D:ZA z I O js){zo:Obj}{j k:Nat}{x:Value}{os:List Value}{h₀ h:Heap}(M:ZMp zo z O js i j h₀ h)(hk:k<js.length)(ho:dX h O os)(ol:os.length=js.length):ZMp zo z O js i j h₀ (h.update O (Obj.mapSeq (·.setIfInBounds k x))):=by
 have s2:Heap.SameBut O h (h.update O (Obj.mapSeq (·.setIfInBounds k x))):=Heap.SameBut.update ..
 refine⟨s2.extBut _ _ D.zO M.hz,⟨os.set k x,by simp[ol],?_⟩,fun m p hm hp=>(M.ahead m p hm hp).to fun o e=>s2.extBut _ _ (D.zj (List.mem_of_getElem? hp)).2 e,fun m p hm hp=>(M.behind m p hm hp).to fun o e=>s2.extBut _ _ (D.zj (List.mem_of_getElem? hp)).2 e,fun c o hc e=>s2.extBut _ _ (fun q=>hc (by simp[q])) (M.keep c o hc e),by rw[s2.1];exact M.sz⟩
 show Heap.get? _ _=_
 rw[Heap.get?_update_self _ ho rfl]
 simp[Obj.mapSeq]
theorem Hr(h1:js≠[]):((Zi.ofs js).map Value.ref).toArray.isEmpty=false:=by
 cases js with
 |nil=>exact absurd rfl h1
 |cons p r=>rfl
theorem Fe(D:ZA z I O js)(st:LSt z I O js i s.heap){xs:List Value}(hl:xs.length=js.length)(h1:js≠[])(h8:js.length≤8)(hv:∀(j:Nat) (p:Zi) (x:Value),js[j]?=some p→xs[j]?=some x→∃ys,p.1.Sq s.heap p.2.2 ys∧ys[i]?=some x){Q:Value→Shared→Prop}
  (hQ:∀h',LSt z I O js (i+1) h'→dX h' s.heap.objs.size xs→z7 z O js s.heap h'→Q (.ref s.heap.objs.size) {s with heap:=h' }) :
  wpAny (model prog w) A (Builtin.«zip.__next__» ⟨[.ref z],[]⟩) (fun r s'=>∃v,r=.done (.ret v)∧Q v s') E s:=by
 obtain⟨⟨f,b,hf,hz⟩,hI,⟨os,ol,hO⟩,at'⟩:=st
 have Iz:=D.Iz
 simp only[List.mem_cons,not_or]at Iz
 show wpAny _ _ (field (.ref z) 2 >>= _) _ _ s
 refine wpAny_bind (wpAny_field hz rfl (x:=.bool false) rfl ?_)
 show wpAny _ _ (field (.ref z) 3 >>= _) _ _ s
 refine wpAny_bind (wpAny_field hz rfl (x:=.ref I) rfl ?_)
 refine wpAny_bind (wpAny_seqItems hI rfl ?_)
 show wpAny _ _ (if(_:Array Value).isEmpty=true then _ else _) _ _ s
 rw[if_neg (by rw[Hr h1];exact Bool.false_ne_true)]
 show wpAny _ _ (Builtin.SmallTypes.ownedTupleIsFree (.ref z) >>= _) _ _ s
 refine wpAny_bind (xi hz hf ?_ fun h₁ b' hz₁ hs₁=>?_)
 ·
  simp only[if_true]
  refine wpAny_bind (wpAny_rule (wpAny_bind (wpAny_field hz rfl (x:=.ref O) rfl ?_)))
  refine wpAny_bind (wpAny_setField_rec hz (by simp) fun h₁ hz₁ hs₁=>?_)
  have M0:ZMd (zEll I O b) z O js xs i 0 s.heap h₁:=by
   refine⟨hz₁,⟨os,ol,hs₁.extBut _ _ (Ne.symm D.zO) hO,by simp⟩,fun m p hm=>by omega,fun m p _ hp=>(at' p (List.mem_of_getElem? hp)).to fun o e=>hs₁.extBut _ _ (D.zj (List.mem_of_getElem? hp)).1 e,fun c o hc e=>?_,hs₁.1⟩
   exact hs₁.extBut _ _ (fun q=>hc (by simp[q])) e
  refine wpAny_bind (wpAny_forIn_list _ (fun rest bb s1=>∃j,((Zi.ofs js).map Value.ref).zipIdx.drop j=rest∧bb=(none,())∧j≤js.length∧ZMd (zEll I O b) z O js xs i j s.heap s1.heap∧s1={s with heap:=s1.heap}) _ ?_ ?_ _ _ ⟨0,rfl,rfl,Nat.zero_le _,M0,rfl⟩)
  ·
   rintro x rest bb s1 ⟨j,er,rfl,hjl,M,es⟩
   obtain⟨p,hp,rfl,e3⟩:=D2 er
   have jl:j<js.length:=(List.getElem?_eq_some_iff.mp hp).1
   obtain⟨ys,sq,hy⟩:=hv j p xs[j] hp (List.getElem?_eq_getElem (by omega))
   have pm:p∈js:=List.mem_of_getElem? hp
   refine wpAny_bind (wpAny_onRaise ?_)
   show wpAny _ _ (Builtin.SmallTypes.nextOf (.ref p.2.1) >>= _) _ _ s1
   refine wpAny_bind (Sk.draw (M.behind j p (Nat.le_refl _) hp) (sq.to fun o e=>M.keep _ o (D.src p pm) e) hy fun h1 a1 k1=>wpAny_pure ?_)
   obtain⟨os1,ol1,ho,ht⟩:=M.hO
   have ho1:dX h1 O os1:=k1.extBut _ _ (Ne.symm (D.zj pm).2) ho
   refine wpAny_bind (wpAny_seqItems ho1 rfl ?_)
   refine wpAny_bind (wpAny_updateSeq ho1 rfl ?_ (by simp;exact sz8 (by omega)) (by simp;exact Nat.le_trans (sz8 (by omega)) (Nat.le_succ _)))
   refine wpAny_bind (wpAny_letGo (wpAny_pure ?_))
   exact⟨j+1,e3,rfl,jl,M.next D hp (List.getElem?_eq_getElem (by omega)) a1 k1 ol1 ho1 ht,by rw[es]⟩
  ·
   rintro bb s1 ⟨j,er,rfl,hjl,M,es⟩
   have jn:j=js.length:=by
    have:=congrArg List.length er
    simp[Zi.ofs]at this
    omega
   subst jn
   obtain⟨os1,ol1,ho,ht⟩:=M.hO
   have eo:os1=xs:=by rw[List.take_of_length_le (by omega),List.take_of_length_le (by omega)]at ht;exact ht
   subst eo
   refine wpAny_bind (wpAny_seqItems ho rfl ?_)
   refine wpAny_bind (wpAny_newTuple ?_ (by simp;exact sz8 (by omega)))
   have hz1:=Heap.get?_push_of_some {cls:=.type "tuple",data:=.seq os1.toArray} M.hz
   show wpAny _ _ (Builtin.SmallTypes.ownedTupleHandOut (.ref z) (.ref s1.heap.objs.size) >>= _) _ _ {s1 with heap:=_}
   refine wpAny_bind ?_
   unfold Builtin.SmallTypes.ownedTupleHandOut
   refine wpAny_bind (wpAny_setField_rec hz1 (by simp) fun h2 hz2 k2=>?_)
   refine wpAny_setField_rec hz2 (by simp) fun h3 hz3 k3=>?_
   replace hz3:IsZp h3 z I O (rawInt s1.heap.objs.size) false:=hz3
   have up:∀c o,c≠z→s1.heap.get? c=some o→h3.get? c=some o:=fun c o n e=>k3.extBut _ _ n (k2.extBut _ _ n (Heap.get?_push_of_some _ e))
   have zl:z<s1.heap.objs.size:=Heap.lt_size M.hz
   have T:dX h3 s1.heap.objs.size os1:=k3.extBut _ _ (Nat.ne_of_gt zl) (k2.extBut _ _ (Nat.ne_of_gt zl) (Heap.get?_push_size _ rfl))
   have es1:=M.sz
   rw[es1]at hz3 T
   refine wpAny_pure ⟨_,rfl,?_⟩
   show Q (.ref s1.heap.objs.size) _
   rw[es1,es]
   refine hQ h3 ⟨⟨_,_,.inr ⟨_,rfl⟩,hz3⟩,up _ _ Iz.1 (M.keep _ _ D.Iz hI),⟨os1,ol1,up _ _ (Ne.symm D.zO) ho⟩,fun p hp=>?_⟩ T fun c o hc e=>up c o (fun q=>hc (by simp[q])) (M.keep c o hc e)
   obtain⟨m,hm,e⟩:=List.mem_iff_getElem.mp hp
   exact(M.ahead m p hm (by rw[List.getElem?_eq_getElem hm,e])).to fun o q=>up _ o (D.zj hp).1 q
 ·
  simp only[Bool.false_eq_true,if_false]
  have M0:ZMp (zRec I O f b') z O js i 0 s.heap h₁:=by
   refine⟨hz₁,⟨os,ol,hs₁.extBut _ _ (Ne.symm D.zO) hO⟩,fun m p hm=>by omega,fun m p _ hp=>(at' p (List.mem_of_getElem? hp)).to fun o e=>hs₁.extBut _ _ (D.zj (List.mem_of_getElem? hp)).1 e,fun c o hc e=>?_,hs₁.1⟩
   exact hs₁.extBut _ _ (fun q=>hc (by simp[q])) e
  refine wpAny_bind (t6 _ (fun rest bb s1=>∃j,((Zi.ofs js).map Value.ref).drop j=rest∧bb=(none,(xs.take j).toArray)∧j≤js.length∧ZMp (zRec I O f b') z O js i j s.heap s1.heap∧s1={s with heap:=s1.heap}) _ ?_ ?_ _ _ ⟨0,by simp,by simp,Nat.zero_le _,M0,rfl⟩)
  ·
   rintro x rest bb s1 ⟨j,er,rfl,hjl,M,es⟩
   obtain⟨p,hp,rfl,e3⟩:=Aa er
   have jl:j<js.length:=(List.getElem?_eq_some_iff.mp hp).1
   obtain⟨ys,sq,hy⟩:=hv j p xs[j] hp (List.getElem?_eq_getElem (by omega))
   have pm:p∈js:=List.mem_of_getElem? hp
   refine wpAny_bind (wpAny_holding ?_)
   show wpAny _ _ (Builtin.SmallTypes.nextOf (.ref p.2.1) >>= _) _ _ s1
   refine wpAny_bind (Sk.draw (M.behind j p (Nat.le_refl _) hp) (sq.to fun o e=>M.keep _ o (D.src p pm) e) hy fun h1 a1 k1=>wpAny_pure ?_)
   refine wpAny_pure ⟨j+1,e3,?_,jl,M.next D hp a1 k1,by rw[es]⟩
   rw[List.take_succ,List.getElem?_eq_getElem (by omega)]
   simp
  ·
   rintro bb s1 ⟨j,er,rfl,hjl,M,es⟩
   have jn:j=js.length:=by
    have:=congrArg List.length er
    simp[Zi.ofs]at this
    omega
   subst jn
   rw[List.take_of_length_le (by omega)]
   obtain⟨os1,ol1,ho⟩:=M.hO
   refine wpAny_bind (wpAny_newTuple ?_ (by simp;exact sz8 (by omega)))
   have es1:=M.sz
   refine wpAny_pure ⟨_,rfl,?_⟩
   show Q (.ref s1.heap.objs.size) _
   have up:∀ c o,s1.heap.get? c=some o→(s1.heap.push {cls:=.type "tuple",data:=.seq xs.toArray}).get? c=some o:=fun c o e=>Heap.get?_push_of_some _ e
   have T:dX (s1.heap.push {cls:=.type "tuple",data:=.seq xs.toArray}) s1.heap.objs.size xs:=Heap.get?_push_size _ rfl
   rw[es1]at T
   rw[es1,es]
   refine hQ _ ⟨⟨_,_,hf,up _ _ M.hz⟩,up _ _ (M.keep _ _ D.Iz hI),⟨os1,ol1,up _ _ ho⟩,fun p hp=>?_⟩ T fun c o hc e=>up c o (M.keep c o hc e)
   obtain⟨m,hm,e⟩:=List.mem_iff_getElem.mp hp
   exact(M.ahead m p hm (by rw[List.getElem?_eq_getElem hm,e])).to fun o q=>up _ o q
theorem Ff(D:ZA z I O js)(st:LSt z I O js i s.heap)(h0:A.handled=none)(h1:js≠[])(h8:js.length≤8)(Y:Zi→Array Value)(hv:∀p∈js,p.1.Sq s.heap p.2.2 (Y p))(he:∃p∈js,(Y p)[i]?=none){Q:Fin→Shared→Prop}
  (hE:∀ h' e,z7 z O js s.heap h'→(∃ o,h'.get? e=some o∧o.cls=.type "StopIteration")→E (.ref e) {s with heap:=h' }) :
  wpAny (model prog w) A (Builtin.«zip.__next__» ⟨[.ref z],[]⟩) Q E s:=by
 obtain⟨⟨f,b,hf,hz⟩,hI,⟨os,ol,hO⟩,at'⟩:=st
 obtain⟨p0,hp0,hn0⟩:=he
 obtain⟨m0,hm0,em0⟩:=List.mem_iff_getElem.mp hp0
 show wpAny _ _ (field (.ref z) 2 >>= _) _ _ s
 refine wpAny_bind (wpAny_field hz rfl (x:=.bool false) rfl ?_)
 show wpAny _ _ (field (.ref z) 3 >>= _) _ _ s
 refine wpAny_bind (wpAny_field hz rfl (x:=.ref I) rfl ?_)
 refine wpAny_bind (wpAny_seqItems hI rfl ?_)
 show wpAny _ _ (if(_:Array Value).isEmpty=true then _ else _) _ _ s
 rw[if_neg (by rw[Hr h1];exact Bool.false_ne_true)]
 show wpAny _ _ (Builtin.SmallTypes.ownedTupleIsFree (.ref z) >>= _) _ _ s
 refine wpAny_bind (xi hz hf ?_ fun h₁ b' hz₁ hs₁=>?_)
 ·
  simp only[if_true]
  refine wpAny_bind (wpAny_rule (wpAny_bind (wpAny_field hz rfl (x:=.ref O) rfl ?_)))
  refine wpAny_bind (wpAny_setField_rec hz (by simp) fun h₁ hz₁ hs₁=>?_)
  have M0:ZMp (zEll I O b) z O js i 0 s.heap h₁:=by
   refine⟨hz₁,⟨os,ol,hs₁.extBut _ _ (Ne.symm D.zO) hO⟩,fun m p hm=>by omega,fun m p _ hp=>(at' p (List.mem_of_getElem? hp)).to fun o e=>hs₁.extBut _ _ (D.zj (List.mem_of_getElem? hp)).1 e,fun c o hc e=>?_,hs₁.1⟩
   exact hs₁.extBut _ _ (fun q=>hc (by simp[q])) e
  refine wpAny_bind (wpAny_forIn_list _ (fun rest bb s1=>∃j,((Zi.ofs js).map Value.ref).zipIdx.drop j=rest∧bb=(none,())∧j≤js.length∧ZMp (zEll I O b) z O js i j s.heap s1.heap∧s1={s with heap:=s1.heap}∧j≤m0) _ ?_ ?_ _ _ ⟨0,rfl,rfl,Nat.zero_le _,M0,rfl,Nat.zero_le _⟩)
  ·
   rintro x rest bb s1 ⟨j,er,rfl,hjl,M,es,hj0⟩
   obtain⟨p,hp,rfl,e3⟩:=D2 er
   have jl:j<js.length:=(List.getElem?_eq_some_iff.mp hp).1
   have pm:p∈js:=List.mem_of_getElem? hp
   have sq:=hv p pm
   refine wpAny_bind (wpAny_onRaise ?_)
   show wpAny _ _ (Builtin.SmallTypes.nextOf (.ref p.2.1) >>= _) _ _ s1
   cases hy:(Y p)[i]? with
   | none =>
    refine wpAny_bind (Sk.drawE h0 (M.behind j p (Nat.le_refl _) hp) (sq.to fun o e=>M.keep _ o (D.src p pm) e) hy fun h1 e k1 ho=>?_)
    obtain⟨oe,he,ce⟩:=ho
    have hz2:=k1 _ _ (Ne.symm (D.zj pm).1) M.hz
    have ne:e≠z:=fun x=>by subst x;rw[hz2]at he;cases he;simp at ce
    refine wpAny_setField_rec hz2 (by simp) fun h3 _ k3=>?_
    rw[es]
    refine hE h3 e (fun c o hc q=>?_) ⟨oe,k3.extBut _ _ ne he,ce⟩
    have hc':=hc
    simp only[List.mem_cons,not_or]at hc'
    exact k3.extBut _ _ hc'.1 (k1 _ _ (fun q=>hc'.2.2 (q ▸ gY pm)) (M.keep c o hc q))
   |some v =>
   have nj:j≠m0:=fun q=>by
    subst q
    rw[List.getElem?_eq_getElem jl,em0]at hp
    cases hp
    rw[hn0]at hy
    cases hy
   refine wpAny_bind (Sk.draw (M.behind j p (Nat.le_refl _) hp) (sq.to fun o e=>M.keep _ o (D.src p pm) e) hy fun h1 a1 k1=>wpAny_pure ?_)
   have M1:=M.next D hp a1 k1
   obtain⟨os1,ol1,ho1⟩:=M1.hO
   refine wpAny_bind (wpAny_seqItems ho1 rfl ?_)
   refine wpAny_bind (wpAny_updateSeq ho1 rfl ?_ (by simp;exact sz8 (by omega)) (by simp;exact Nat.le_trans (sz8 (by omega)) (Nat.le_succ _)))
   refine wpAny_bind (wpAny_letGo (wpAny_pure ?_))
   refine⟨j+1,e3,rfl,jl,M1.put D (List.getElem?_eq_some_iff.mp hp).1 ho1 ol1,by rw[es],by omega⟩
  ·
   rintro bb s1 ⟨j,er,rfl,hjl,M,es,hj0⟩
   have jn:j=js.length:=by
    have:=congrArg List.length er
    simp[Zi.ofs]at this
    omega
   omega
 ·
  simp only[Bool.false_eq_true,if_false]
  have M0:ZMp (zRec I O f b') z O js i 0 s.heap h₁:=by
   refine⟨hz₁,⟨os,ol,hs₁.extBut _ _ (Ne.symm D.zO) hO⟩,fun m p hm=>by omega,fun m p _ hp=>(at' p (List.mem_of_getElem? hp)).to fun o e=>hs₁.extBut _ _ (D.zj (List.mem_of_getElem? hp)).1 e,fun c o hc e=>?_,hs₁.1⟩
   exact hs₁.extBut _ _ (fun q=>hc (by simp[q])) e
  refine wpAny_bind (t6 _ (fun rest bb s1=>∃j,((Zi.ofs js).map Value.ref).drop j=rest∧bb.1=none∧j≤js.length∧ZMp (zRec I O f b') z O js i j s.heap s1.heap∧s1={s with heap:=s1.heap}∧j≤m0) _ ?_ ?_ _ _ ⟨0,by simp,rfl,Nat.zero_le _,M0,rfl,Nat.zero_le _⟩)
  ·
   rintro x rest bb s1 ⟨j,er,hbb,hjl,M,es,hj0⟩
   obtain⟨p,hp,rfl,e3⟩:=Aa er
   have jl:j<js.length:=(List.getElem?_eq_some_iff.mp hp).1
   have pm:p∈js:=List.mem_of_getElem? hp
   have sq:=hv p pm
   refine wpAny_bind (wpAny_holding ?_)
   show wpAny _ _ (Builtin.SmallTypes.nextOf (.ref p.2.1) >>= _) _ _ s1
   cases hy:(Y p)[i]? with
   | none =>
    refine wpAny_bind (Sk.drawE h0 (M.behind j p (Nat.le_refl _) hp) (sq.to fun o e=>M.keep _ o (D.src p pm) e) hy fun h1 e k1 ho=>?_)
    rw[es]
    refine hE h1 e (fun c o hc q=>?_) ho
    have hc':=hc
    simp only[List.mem_cons,not_or]at hc'
    exact k1 _ _ (fun q=>hc'.2.2 (q ▸ gY pm)) (M.keep c o hc q)
   |some v =>
   have nj:j≠m0:=fun q=>by
    subst q
    rw[List.getElem?_eq_getElem jl,em0]at hp
    cases hp
    rw[hn0]at hy
    cases hy
   refine wpAny_bind (Sk.draw (M.behind j p (Nat.le_refl _) hp) (sq.to fun o e=>M.keep _ o (D.src p pm) e) hy fun h1 a1 k1=>wpAny_pure ?_)
   exact wpAny_pure ⟨j+1,e3,rfl,jl,M.next D hp a1 k1,by rw[es],by omega⟩
  ·
   rintro bb s1 ⟨j,er,hbb,hjl,M,es,hj0⟩
   have jn:j=js.length:=by
    have:=congrArg List.length er
    simp[Zi.ofs]at this
    omega
   omega
end
theorem ym:typeLookup (.type "zip") "__len__"=pure none:=by rw[typeLookup_type,builtinLookup_eq_fast]; kernel_rfl
theorem vw:typeLookup (.type "zip") "__length_hint__"=pure none:=by rw[typeLookup_type,builtinLookup_eq_fast]; kernel_rfl
section
variable{prog:Program}{w:World}{A:Around}{s:Shared}{R:Result→Shared→Prop}{z I O S:Addr}{js:List Zi}
structure LZ (z I O S:Addr) (js:List Zi) (Y:Zi→Array Value) (row:Nat→List Value) (i:Nat) (acc:Array Value) (h:Heap):Prop where
 st:LSt z I O js i h
 src:∀p∈js,p.1.Sq h p.2.2 (Y p)
 lst:∃ c,h.get? S=some {cls:=.type "list",dict:=none,data:=.seq acc c,slots:=#[] }
 size:acc.size=i
 its:∀m,m<i→∃T,acc[m]?=some (.ref T)∧dX h T (row m)∧T∉z::O::Zi.ofs js∧S<T
theorem Cv{h:Heap}(st:LSt z I O js i h):h.objs.size∉z::O::Zi.ofs js:=fun hm=>by
 obtain⟨f,b,_,hz⟩:=st.hz
 obtain⟨os,_,hO⟩:=st.hO
 rcases List.mem_cons.mp hm with e|hm
 ·
  exact absurd (Heap.lt_size hz) (by rw[← e];exact Nat.lt_irrefl _)
 rcases List.mem_cons.mp hm with e|hm
 ·
  exact absurd (Heap.lt_size hO) (by rw[← e];exact Nat.lt_irrefl _)
 ·
  obtain⟨p,hp,e⟩:=List.mem_map.mp hm
  obtain⟨o,eo,_⟩:=(st.at' p hp).obj
  exact absurd (Heap.lt_size eo) (by rw[e];exact Nat.lt_irrefl _)
theorem Fg(D:ZA z I O js)(hS:S∉z::I::O::Zi.ofs js)(hSs:∀p∈js,p.2.2≠S)(h0:A.handled=none)(h1:js≠[])(h8:js.length≤8)(Y:Zi→Array Value)(row:Nat→List Value){n:Nat}(hn:n≤sizeLine)(hr:∀m,m<n→(row m).length=js.length∧∀(j:Nat) (p:Zi) (x:Value),js[j]?=some p→(row m)[j]?=some x→(Y p)[m]?=some x)
  (he:∃p∈js,(Y p)[n]?=none) (res:Value):∀(k i:Nat)(s:Shared)(acc:Array Value),n-i=k→i≤n→LZ z I O S js Y row i acc s.heap →
  (∀ h' acc',LZ z I O S js Y row n acc' h'∨True→(∃ c,h'.get? S=some {cls:=.type "list",dict:=none,data:=.seq acc' c,slots:=#[] })→acc'.size=n→(∀ m,m < n→∃ T,acc'[m]?=some (.ref T)∧dX h' T (row m)∧S < T)→(∀ c o,c∉S::z::O::Zi.ofs js→s.heap.get? c=some o→h'.get? c=some o)→R (.ok (.ret res)) {s with heap:=h' }) →
  codeAny (model prog w) A (.builtin "list.extend.loop" ⟨[.ref S,.ref z,res],[]⟩) R s:=by
 have nS:S∉z::O::Zi.ofs js:=fun q=>hS (by
  rcases List.mem_cons.mp q with e|q
  ·
   rw[e];exact List.mem_cons_self
  ·
   exact List.mem_cons_of_mem _ (List.mem_cons_of_mem _ q))
 intro k
 induction k with
 | zero =>
  intro i s acc hk hi L hR
  have:i=n:=by omega
  subst this
  refine codeAny_builtin F.entry_extend_loop ?_
  rw[Around.under_plainId F.plain_extend_loop _]
  show wpAny _ A.in1 (pyNext (.ref z) >>= _) _ _ s
  obtain⟨f,b,hf,hz⟩:=L.st.hz
  have ty:s.TypeIs (.ref z) "zip":=⟨_,hz,rfl⟩
  refine wpAny_bind ?_
  unfold pyNext
  refine wpAny_bind (wpAny_attempt (wpAny_callSpecial?_slot (name:=Str.ofString "__next__") ty F.slot_zip_next (wpAny_call_entry F.slot_zip_next ty F.entry_zip_next (Ff (A:=A.in1.in1) D L.st h0 h1 h8 Y L.src he fun h' e k he=>?_) (F.args_zip_next_1 _))))
  obtain⟨o,ho,hc⟩:=he
  refine wpAny_bind (wpAny_isInstance (T:="StopIteration") (b:=true) ⟨o,ho,hc⟩ isSubtype_stop (wpAny_pure (wpAny_pure ?_)))
  obtain⟨c,hc⟩:=L.lst
  refine hR h' acc (.inr trivial) ⟨c,k _ _ nS hc⟩ L.size (fun m hm=>?_) fun c o hc e=>k c o (fun q=>hc (List.mem_cons_of_mem _ q)) e
  obtain⟨T,t1,t2,t3,t4⟩:=L.its m hm
  exact⟨T,t1,k _ _ t3 t2,t4⟩
 | succ k ih =>
  intro i s acc hk hi L hR
  have lt:i<n:=by omega
  obtain⟨rl,rv⟩:=hr i lt
  refine codeAny_builtin F.entry_extend_loop ?_
  rw[Around.under_plainId F.plain_extend_loop _]
  show wpAny _ A.in1 (pyNext (.ref z) >>= _) _ _ s
  obtain⟨f,b,hf,hz⟩:=L.st.hz
  have ty:s.TypeIs (.ref z) "zip":=⟨_,hz,rfl⟩
  refine wpAny_bind ?_
  unfold pyNext
  refine wpAny_bind (wpAny_attempt (wpAny_callSpecial?_slot (name:=Str.ofString "__next__") ty F.slot_zip_next (wpAny_call_entry F.slot_zip_next ty F.entry_zip_next (Fe D L.st rl h1 h8 (fun j p x hp hx=>⟨Y p,L.src p (List.mem_of_getElem? hp),rv j p x hp hx⟩) fun h' st' hT hk'=>wpAny_pure ?_) (F.args_zip_next_1 _))))
  obtain⟨c,hc⟩:=L.lst
  have hc':=hk' _ _ nS hc
  have sl:S<s.heap.objs.size:=Heap.lt_size hc
  show wpAny _ A.in1 (updateSeq S (·.push (.ref s.heap.objs.size)) >>= _) _ _ {s with heap:=h' }
  refine wpAny_bind (wpAny_updateSeq hc' rfl (wpAny_pure ⟨plainId_quiet F.plain_extend_loop _,ih (i+1) _ (acc.push (.ref s.heap.objs.size)) (by omega) lt ?_ fun h'' acc' hz'' q1 q2 q3 q4=>?_⟩) (by rw[L.size];omega) (by show(acc.push _).size≤sizeLine+1;rw[Array.size_push,L.size];omega))
  ·
   have s2:Heap.SameBut S h' (h'.update S (Obj.mapSeq (·.push (.ref s.heap.objs.size)))):=Heap.SameBut.update ..
   have up:∀c o,c≠S→h'.get? c=some o→(h'.update S (Obj.mapSeq (·.push (.ref s.heap.objs.size)))).get? c=some o:=fun c o n e=>s2.extBut _ _ n e
   have hS':=hS
   simp only[List.mem_cons,not_or]at hS'
   obtain⟨⟨f',b',hf',hz'⟩,hI',⟨os,ol,hO'⟩,at'⟩:=st'
   refine⟨⟨⟨f',b',hf',up _ _ (Ne.symm hS'.1) hz'⟩,up _ _ (Ne.symm hS'.2.1) hI',⟨os,ol,up _ _ (Ne.symm hS'.2.2.1) hO'⟩,fun p hp=>(at' p hp).to fun o e=>up _ o (fun q=>hS'.2.2.2 (q ▸ gY hp)) e⟩,fun p hp=>?_,⟨_,Heap.get?_update_self _ hc' rfl⟩,by rw[Array.size_push,L.size],fun m hm=>?_⟩
   ·
    exact((L.src p hp).to fun o e=>hk' _ _ (D.src p hp) e).to fun o e=>up _ o (hSs p hp) e
   ·
    rcases Nat.lt_or_ge m i with g|g
    ·
     obtain⟨T,t1,t2,t3,t4⟩:=L.its m g
     refine⟨T,?_,up _ _ (Nat.ne_of_gt t4) (hk' _ _ t3 t2),t3,t4⟩
     rw[Array.getElem?_push_lt (by rw[L.size];exact g),← Array.getElem?_eq_getElem]
     exact t1
    ·
     have:m=i:=by omega
     subst this
     refine⟨s.heap.objs.size,?_,up _ _ (Nat.ne_of_gt sl) hT,Cv L.st,sl⟩
     rw[← L.size,Array.getElem?_push_size]
  ·
   refine hR h'' acc' hz'' q1 q2 q3 fun c o hcc e=>q4 c o hcc ?_
   have hcc':=hcc
   simp only[List.mem_cons,not_or]at hcc'
   show(h'.update S _).get? c=some o
   exact(Heap.get?_update_other _ _ (fun h:S=c=>hcc'.1 h.symm)).trans (hk' c o (by simp only[List.mem_cons,not_or];exact hcc'.2) e)
theorem Ab(D:ZA z I O js)(hS:S∉z::I::O::Zi.ofs js)(hSs:∀p∈js,p.2.2≠S)(h0:A.handled=none)(h1:js≠[])(h8:js.length≤8)(Y:Zi→Array Value)(row:Nat→List Value){n c0:Nat}(hn:n≤sizeLine)(hr:∀m,m<n→(row m).length=js.length∧∀(j:Nat) (p:Zi) (x:Value),js[j]?=some p→(row m)[j]?=some x→(Y p)[m]?=some x)
  (he:∃ p∈js,(Y p)[n]?=none) (res:Value) (st:LSt z I O js 0 s.heap) (src:∀ p∈js,p.1.Sq s.heap p.2.2 (Y p)) (hl:s.heap.get? S=some {cls:=.type "list",data:=.seq #[] c0})
  (hR:∀ h' acc',(∃ c,h'.get? S=some {cls:=.type "list",dict:=none,data:=.seq acc' c,slots:=#[] })→acc'.size=n→(∀ m,m < n→∃ T,acc'[m]?=some (.ref T)∧dX h' T (row m)∧S < T)→(∀ c o,c∉S::z::O::Zi.ofs js→s.heap.get? c=some o→h'.get? c=some o)→R (.ok (.ret res)) {s with heap:=h' }) :
  wpAny (model prog w) A.in1 (Builtin.List.listExtendWith (.ref S) (.ref z) res) (fun fin s'=>match fin with | .done f=>R (.ok f) s' | .again c'=>c'.quiet=true∧codeAny (model prog w) A c' R s') (fun e s'=>R (.error e) s') s:=by
 obtain⟨f,b,hf,hz⟩:=id st.hz
 have ty:s.TypeIs (.ref z) "zip":=⟨_,hz,rfl⟩
 have hS':=hS
 simp only[List.mem_cons,not_or]at hS'
 unfold Builtin.List.listExtendWith
 refine wpAny_bind (wpAny_typeOf ty ?_)
 have e1:Builtin.List.listSameRef (.ref S) (.ref z)=false:=by simp[Builtin.List.listSameRef,hS'.1]
 have e2:(Value.type "zip" == Value.type "list")=false:=by decide
 have e3:(Value.type "zip" == Value.type "tuple")=false:=by decide
 simp only[e1,e2,e3,Bool.or_false,Bool.false_eq_true,if_false]
 refine wpAny_bind ?_
 have it:∀{Q:Value→Shared→Prop}{E:Value→Shared→Prop},Q (.ref z) s→wpAny (model prog w) A.in1 (pyIter (.ref z)) Q E s:=fun {Q E} h=>by
  refine wpAny_pyIter_slot ty F.slot_zip_iter (wpAny_call_entry F.slot_zip_iter ty F.entry_zip_iter ?_ (F.args_zip_iter_1 _))
  show wpAny _ _ (ret (.ref z)) _ _ s
  exact wpAny_pure ⟨_,rfl,"zip",_,ty,F.slot_zip_next.lookup,h⟩
 refine it ?_
 refine wpAny_bind (wpAny_holding ?_)
 unfold Builtin.List.listLengthHint
 refine wpAny_bind (wpAny_specialOf ty ym ?_)
 show wpAny _ A.in1 (specialOf (.ref z) (Str.ofString "__length_hint__") >>= _) _ _ s
 refine wpAny_bind (wpAny_specialOf ty vw ?_)
 refine wpAny_pure ?_
 show wpAny _ A.in1 (rule "list.extend.makes-room" >>= fun _=>Builtin.List.listTouch (.ref S) >>= fun _=>again (.builtin "list.extend.loop" ⟨[.ref S,.ref z,res],[]⟩)) _ _ s
 refine wpAny_bind (wpAny_rule (wpAny_bind ?_))
 show wpAny _ A.in1 (updateSeq S (·.push .none) >>= fun _=>updateSeq S (·.pop)) _ _ s
 refine wpAny_bind (wpAny_updateSeq hl rfl ?_)
 have l2:=Heap.get?_update_self (Obj.mapSeq (·.push Value.none)) hl rfl
 refine wpAny_updateSeq (hz:=by seq_fits) l2 rfl ?_
 have l3:=Heap.get?_update_self (Obj.mapSeq (·.pop)) l2 rfl
 have oth:∀b o,b≠S→s.heap.get? b=some o→((s.heap.update S (Obj.mapSeq (·.push Value.none))).update S (Obj.mapSeq (·.pop))).get? b=some o:=fun b o hb e=>(Heap.get?_update_other _ _ (Ne.symm hb)).trans ((Heap.get?_update_other _ _ (Ne.symm hb)).trans e)
 refine wpAny_pure ⟨plainId_quiet F.plain_extend_loop _,Fg D hS hSs h0 h1 h8 Y row hn hr he res n 0 _ #[] rfl (Nat.zero_le _) ⟨⟨⟨f,b,hf,oth _ _ (Ne.symm hS'.1) hz⟩,oth _ _ (Ne.symm hS'.2.1) st.hI,?_,fun p hp=>(st.at' p hp).to fun o e=>oth _ o (fun q=>hS'.2.2.2 (q ▸ gY hp)) e⟩,fun p hp=>(src p hp).to fun o e=>oth _ o (hSs p hp) e,⟨_,l3⟩,rfl,fun m hm=>by omega⟩ fun h' acc' _ q1 q2 q3 q4=>hR h' acc' q1 q2 q3 fun c o hc e=>q4 c o hc (oth c o (fun q=>hc (by simp[q])) e)⟩
 obtain⟨os,ol,hO⟩:=st.hO
 exact⟨os,ol,oth _ _ (Ne.symm hS'.2.2.1) hO⟩
end
section
variable{prog:Program}{w:World}{A:Around}{E:Value→Shared→Prop}{s:Shared}{z I O:Addr}{js:List Zi}
theorem rk{Q:Value→Shared→Prop}(D:ZA z I O js)(h0:A.handled=none)(h1:js≠[])(h8:js.length≤8)(Y:Zi→Array Value)(row:Nat→List Value){n:Nat}(hn:n≤sizeLine)(hr:∀m,m<n→(row m).length=js.length∧∀(j:Nat) (p:Zi) (x:Value),js[j]?=some p→(row m)[j]?=some x→(Y p)[m]?=some x)
  (he:∃p∈js,(Y p)[n]?=none) (st:LSt z I O js 0 s.heap) (src:∀p∈js,p.1.Sq s.heap p.2.2 (Y p))
  (hQ:∀ h' acc',(∃ c,h'.get? s.heap.objs.size=some {cls:=.type "list",dict:=none,data:=.seq acc' c,slots:=#[] })→acc'.size=n→(∀ m,m < n→∃ T,acc'[m]?=some (.ref T)∧dX h' T (row m)∧s.heap.objs.size < T)→(∀ c o,c∉z::O::Zi.ofs js→s.heap.get? c=some o→h'.get? c=some o)→Q (.ref s.heap.objs.size) {s with heap:=h' }) :
  wpAny (model prog w) A (call (.type "list") [.ref z]) Q E s:=by
 have lt:∀b∈z::I::O::Zi.ofs js,b<s.heap.objs.size:=fun b hb=>by
  obtain⟨f,b0,_,hz⟩:=st.hz
  obtain⟨os,_,hO⟩:=st.hO
  rcases List.mem_cons.mp hb with rfl|hb
  ·
   exact Heap.lt_size hz
  rcases List.mem_cons.mp hb with rfl|hb
  ·
   exact Heap.lt_size st.hI
  rcases List.mem_cons.mp hb with rfl|hb
  ·
   exact Heap.lt_size hO
  ·
   obtain⟨p,hp,rfl⟩:=List.mem_map.mp hb
   obtain⟨o,e,_⟩:=(st.at' p hp).obj
   exact Heap.lt_size e
 have slt:∀p∈js,p.2.2<s.heap.objs.size:=fun p hp=>by
  obtain⟨o,e,_⟩:=(src p hp).obj
  exact Heap.lt_size e
 refine callType_codes (Q₁:=fun obj s₁=>obj=.ref s.heap.objs.size∧s₁={s with heap:=s.heap.push {cls:=.type "list",data:=.seq #[] } }) F.called_list (F.typeCall_list_1 _) F.entry_list_init (code_list_new _ ⟨rfl,rfl⟩) fun obj s₁ h₁=>?_
 obtain⟨rfl,rfl⟩:=h₁
 have hS:(s.heap.push {cls:=.type "list",data:=.seq #[] }).get? s.heap.objs.size=some {cls:=.type "list",data:=.seq #[] }:=Heap.get?_push_size _ rfl
 refine⟨⟨_,hS,rfl⟩,F.args_list_init_2 _ _,?_⟩
 show wpAny _ A.in1.in1 (do let old ← Builtin.List.listItems (.ref s.heap.objs.size);Builtin.List.listUpdate (.ref s.heap.objs.size) (fun _=>#[]);letGo old.toList.reverse;Builtin.List.listExtendWith (.ref s.heap.objs.size) (.ref z) .none) _ _ {s with heap:=_}
 refine wpAny_bind ?_
 unfold Builtin.List.listItems
 refine wpAny_bind (wpAny_seqItems hS rfl (wpAny_pure ?_))
 show wpAny _ A.in1.in1 (updateSeq s.heap.objs.size (fun _=>#[]) >>= fun _=>letGo (#[]:Array Value).toList.reverse >>= fun _=>Builtin.List.listExtendWith (.ref s.heap.objs.size) (.ref z) .none) _ _ {s with heap:=_}
 refine wpAny_bind (wpAny_updateSeq hS rfl ?_)
 have hS2:=Heap.get?_update_self (Obj.mapSeq (fun _=>(#[]:Array Value))) hS rfl
 have oth:∀ b o,b≠s.heap.objs.size→s.heap.get? b=some o→((s.heap.push {cls:=.type "list",data:=.seq #[] }).update s.heap.objs.size (Obj.mapSeq (fun _=>(#[]:Array Value)))).get? b=some o:=fun b o hb e=>(Heap.get?_update_other _ _ (Ne.symm hb)).trans (Heap.get?_push_of_some _ e)
 refine wpAny_bind (wpAny_letGo ?_)
 obtain⟨⟨f,b,hf,hz⟩,hI,⟨os,ol,hO⟩,at'⟩:=st
 have ne:∀b∈z::I::O::Zi.ofs js,b≠s.heap.objs.size:=fun b hb=>Nat.ne_of_lt (lt b hb)
 refine Ab (A:=A.in1) D (fun q=>absurd (lt _ q) (Nat.lt_irrefl _)) (fun p hp=>Nat.ne_of_lt (slt p hp)) h0 h1 h8 Y row hn hr he .none ⟨⟨f,b,hf,oth _ _ (ne _ (by simp)) hz⟩,oth _ _ (ne _ (by simp)) hI,⟨os,ol,oth _ _ (ne _ (by simp)) hO⟩,fun p hp=>(at' p hp).to fun o e=>oth _ o (ne _ (by simp[gY hp])) e⟩ (fun p hp=>(src p hp).to fun o e=>oth _ o (Nat.ne_of_lt (slt p hp)) e) hS2 fun h' acc' q1 q2 q3 q4=>?_
 refine⟨rfl,hQ h' acc' q1 q2 q3 fun c o hc e=>?_⟩
 have hcl:c≠s.heap.objs.size:=Nat.ne_of_lt (Heap.lt_size e)
 exact q4 c o (by simp only[List.mem_cons,not_or]at hc ⊢;exact⟨hcl,hc⟩) (oth c o hcl e)
end
section
variable{K:PySem.W.Frag}{Pr H H':Hp}{σ:St}{ρ:Ev}
theorem REnv.more(E:REnv K Pr H σ ρ)(k:∀b u,H b=some u→H' b=some u):REnv K Pr H' σ ρ :=
 ⟨fun b u e=>k b u (E.sub b u e),E.nd,E.off,Paired.impMem E.sl fun l hl s q=>q.pres (fun b u _ e=>k b u e) l fun a e=>by
  obtain⟨vs,e,_⟩:=E.at_own (fQ.mpr ⟨l,hl,e⟩)
  rw[k _ _ e,e]⟩
theorem REnv.own_more(E:REnv K Pr H σ ρ)(k:∀b u,H b=some u→H' b=some u){p:Addr}{vs:List V}{xs:List D}(h:H p=none)(h':H' p=some (.lst vs))(r:Reps K H' vs xs):REnv K Pr H' (some (.ref p)::σ) (.own p xs::ρ):=by
 have E':=E.more k
 refine⟨E'.sub,?_,fun a ha=>?_,.cons ⟨rfl,vs,h',r⟩ E'.sl⟩
 ·
  rw[aM]
  refine List.nodup_cons.mpr ⟨fun hm=>?_,E.nd⟩
  obtain⟨us,e,_⟩:=E.at_own hm
  rw[h]at e;cases e
 ·
  rw[aM]at ha
  rcases List.mem_cons.mp ha with rfl|ha
  ·
   cases q:Pr a with
   |none=>rfl
   |some u=>rw[E.sub a u q]at h;cases h
  ·
   exact E.off a ha
end
open Classical in
noncomputable def laidT(H:Hp)(m:Nat)(S n:Nat)(T:Nat→Addr)(vs:List V)(row:Nat→List V):Hp:=fun b =>
 if b<m then H b else if b=S then some (.lst vs)else if h:∃k,k<n∧T k=b then some (.tup (row (Classical.choose h)))else none
section
variable{X:Cx}{pins:List (Addr×Obj)}{σ:St}{H:Hp}{s:Shared}
open Classical in
theorem t7{m S n:Nat}{T:Nat→Addr}{vs:List V}{row:Nat→List V}{us:Nat→List Value}{h':Heap}(hT:∀k,k<n→m≤T k∧T k≠S∧dX h' (T k) (us k))(hv:∀k,k<n→Vals (row k) (us k)){k:Nat}(hk:k<n):laidT H m S n T vs row (T k)=some (.tup (row k)):=by
 obtain⟨h1,h2,h3⟩:=hT k hk
 have ex:∃j,j<n∧T j=T k:=⟨k,hk,rfl⟩
 unfold laidT
 rw[if_neg (Nat.not_lt.mpr h1),if_neg h2,dif_pos ex]
 obtain⟨c1,c2⟩:=Classical.choose_spec ex
 have h4:=(hT _ c1).2.2
 rw[c2]at h4
 have e:us (Classical.choose ex)=us k:=by
  have:=h4.symm.trans h3
  simp only[Option.some.injEq,Obj.mk.injEq,Data.seq.injEq,true_and,and_true]at this
  exact List.toArray_inj this
 have v1:=hv _ c1
 rw[e]at v1
 rw[v1.inj (hv k hk)]
open Classical in
theorem Inv.laidT{h':Heap}{S n:Nat}{T:Nat→Addr}{vs:List V}{us:List Value}{row:Nat→List V}{ur:Nat→List Value}{c:Nat}(I:Inv X pins σ H s)(k:∀ b u,s.heap.get? b=some u→h'.get? b=some u)(hS:s.heap.objs.size≤S) (hl:h'.get? S=some {cls:=.type "list",data:=.seq us.toArray c}) (hz:vs.length≤sizeLine) (hv:Vals vs us)
  (hT:∀k,k<n→s.heap.objs.size≤T k∧T k≠S∧dX h' (T k) (ur k)) (hr:∀k,k<n→Vals (row k) (ur k)) (h8:∀k,k<n→(row k).length≤sizeLine):Inv X pins σ (L2.laidT H s.heap.objs.size S n T vs row) {s with heap:=h' }:=by
 have old:∀b u,H b=some u→L2.laidT H s.heap.objs.size S n T vs row b=some u:=fun b u e=>by
  unfold L2.laidT
  rw[if_pos (I.hok.lt e)]
  exact e
 have hSa:L2.laidT H s.heap.objs.size S n T vs row S=some (.lst vs):=by
  unfold L2.laidT
  rw[if_neg (Nat.not_lt.mpr hS),if_pos rfl]
 refine I.un (t':=s.toks) ⟨fun b o e _ _ _=>k b o e,fun b o e _ _ _=>⟨o.slots,k b o e⟩,fun b o e hn _=>?_,fun b o e _=>⟨o,k b o e⟩,fun b xs e=>old b _ e,fun b o u e=>old b _ e,fun b ps e=>⟨#[],by rw[old b _ e];simp⟩⟩ fun b u e=>?_
 ·
  unfold L2.laidT
  rw[if_pos (Heap.lt_size e)]
  exact hn
 ·
  by_cases hb:b<s.heap.objs.size
  ·
   have e':H b=some u:=by unfold L2.laidT at e;rw[if_pos hb]at e;exact e
   exact(I.hok b u e').stay (fun c v _ q=>k c v q) (fun c q=>old c _ q) fun c xs q=>old c _ q
  ·
   by_cases hbS:b=S
   ·
    subst hbS
    rw[hSa]at e
    cases e
    exact⟨hz,us,c,hv,hl⟩
   ·
    have e0:=e
    unfold L2.laidT at e0
    rw[if_neg hb,if_neg hbS]at e0
    split at e0
    ·
     rename_i ex
     obtain⟨c1,c2⟩:=Classical.choose_spec ex
     have e3:=t7 (H:=H) (vs:=vs) hT hr c1
     rw[c2]at e3
     rw[e3]at e
     cases e
     obtain⟨_,_,q3⟩:=hT _ c1
     rw[c2]at q3
     exact⟨h8 _ c1,_,hr _ c1,⟨_,q3,rfl,_,rfl⟩⟩
    ·
     cases e0
end
theorem Fh{z I O:Addr}{js:List Zi}{i:Nat}{h:Heap}(st:ZSt z I O js .none i h):LSt z I O js i h:=⟨⟨.none,false,.inl rfl,st.hz⟩,st.hI,st.hO,st.at'⟩
def Cw(t:W (List L)):W L:=fun ρ post=>t ρ fun ls ρ1=>match ls with
 |[.d d,.d d2]=>zipE d d2 fun zs=>zs.length≤sizeLine∧∀a,post (.own a zs) ρ1
 |_=>False
section
variable{X:Cx}{a b:Expr}{pos p pos0 p0:Pos}
theorem Fi{xs ys:List Value}{m j:Nat}{k1 k2:Sk}{i1 i2 a1 a2:Addr}{Y:Zi→Array Value}{q:Zi}{x:Value}(h1:m<xs.length)(h2:m<ys.length)(e1:Y (k1,i1,a1)=xs.toArray)(e2:Y (k2,i2,a2)=ys.toArray)(hq:[(k1,i1,a1),(k2,i2,a2)][j]?=some q)(hx:[xs[m],ys[m]][j]?=some x):(Y q)[m]?=some x:=by
 match j with
 | 0 =>
  simp only[List.getElem?_cons_zero,Option.some.injEq]at hq hx
  subst hq hx
  rw[e1]
  simp[h1]
 | 1 =>
  simp only[List.getElem?_cons_succ,List.getElem?_cons_zero,Option.some.injEq]at hq hx
  subst hq hx
  rw[e2]
  simp[h2]
 |j+2=>simp at hq
theorem qv{bs:List (Option Nat)}{t:W (List L)} (hgl:Gl X "list") (hml:X.mg "list"=none) (hg:Gl X "zip") (hm:X.mg "zip"=none) (hc:X.calm=true) (ha:PAL X [a,b] bs t) (hs:starEach [a,b] X.env=(false,eval a X.env)::starEach [b] X.env:=by rfl) (hs2:(backTo pos (starEach [b] X.env)).any (·.1)=false:=by rfl)
  (hs0:starEach [.Call (.Name "zip" p) [a,b] [] pos] X.env=[(false,eval (.Call (.Name "zip" p) [a,b] [] pos) X.env)]:=by rfl) :
  PL X (.Call (.Name "list" p0) [.Call (.Name "zip" p) [a,b] [] pos] [] pos0) (Cw t):=by
 intro pins s σ H Pr ρ post I E h
 refine wpAny_Call_Name_kw (gH I hgl hml (show bootBuiltins "list"=some (.type "list") by decide +kernel) (PyProof.Rows.callWith_type1 ?_ (by rw[hs0]; rfl) rfl))
 rw[hs0]
 show wpAny _ _ (spliced ((false,eval (.Call (.Name "zip" p) [a,b] [] pos) X.env)::[])) _ _ s
 refine Calls.spliced_cons (Call_ (gH I hg hm boot_zip (PyProof.Rows.callWith_type1 (thn (ha pos pins s σ H Pr ρ _ I E h) fun us s1 ⟨vs,H1,ls,ρ1,I1,r1,hl,hb,E1,_,q1⟩=>?_) hs hs2)))
 dsimp only at q1
 split at q1
 ·
  rename_i d d2
  obtain⟨k1,xs,ed,q2⟩:=z9 q1
  obtain⟨k2,ys,ed2,q3,q4⟩:=z9 q2
  subst ed ed2
  clear q1 q2
  match vs,hl with
  | [v,v2],_ =>
   have E1':REnv X.K Pr H1 (some v::some v2::σ) (.d (k1.mk xs)::.d (k2.mk ys)::ρ1):=E1
   obtain⟨_,e1,p1⟩:=E1'.head_d
   cases e1
   obtain⟨_,e1,p2⟩:=E1'.tail.head_d
   cases e1
   obtain⟨a1,vs1,rfl,f1,rs1⟩:=Sk.rep p1
   obtain⟨a2,vs2,rfl,f2,rs2⟩:=Sk.rep p2
   obtain⟨u1,u2,rfl,ru,ru2⟩:=r1.two
   cases ru
   cases ru2
   obtain⟨its,rv,sq1⟩:=I1.sqk (SqF.pres (fun _ _ _ e=>e) f1)
   obtain⟨its2,rv2,sq2⟩:=I1.sqk (SqF.pres (fun _ _ _ e=>e) f2)
   have E2:REnv X.K Pr H1 σ ρ1:=E1'.tail.tail
   refine yl sq1 sq2 fun h' st hk=>Calls.spliced_nil ?_
   have lt1:a1<s1.heap.objs.size:=by obtain⟨o,e,_⟩:=sq1.obj;exact Heap.lt_size e
   have lt2:a2<s1.heap.objs.size:=by obtain⟨o,e,_⟩:=sq2.obj;exact Heap.lt_size e
   have D:ZA (s1.heap.objs.size+4) (s1.heap.objs.size+2) (s1.heap.objs.size+3) [(k1,s1.heap.objs.size,a1),(k2,s1.heap.objs.size+1,a2)]:=by
    refine⟨by simp[Zi.ofs],fun q hq=>?_⟩
    simp only[List.mem_cons,List.not_mem_nil,or_false]at hq
    rcases hq with rfl|rfl
    ·
     simp only[Zi.ofs,List.map_cons,List.map_nil,List.mem_cons,List.not_mem_nil,or_false,not_or]
     refine⟨Nat.ne_of_lt (Nat.lt_add_right _ lt1),Nat.ne_of_lt (Nat.lt_add_right _ lt1),Nat.ne_of_lt lt1,Nat.ne_of_lt (Nat.lt_add_right _ lt1)⟩
    ·
     simp only[Zi.ofs,List.map_cons,List.map_nil,List.mem_cons,List.not_mem_nil,or_false,not_or]
     refine⟨Nat.ne_of_lt (Nat.lt_add_right _ lt2),Nat.ne_of_lt (Nat.lt_add_right _ lt2),Nat.ne_of_lt lt2,Nat.ne_of_lt (Nat.lt_add_right _ lt2)⟩
   have l1:=rv.length
   have l2:=rv2.length
   have m1:=rs1.length
   have m2:=rs2.length
   have hsrc:∀q∈[(k1,s1.heap.objs.size,a1),(k2,s1.heap.objs.size+1,a2)],∃ys,q.1.Sq h' q.2.2 ys∧((q=(k1,s1.heap.objs.size,a1)→ys=its.toArray)∧(q=(k2,s1.heap.objs.size+1,a2)→ys=its2.toArray)):=fun q hq=>by
    simp only[List.mem_cons,List.not_mem_nil,or_false]at hq
    rcases hq with rfl|rfl
    ·
     exact⟨_,sq1.to fun o e=>hk _ o e,fun _=>rfl,fun z=>by simp at z⟩
    ·
     exact⟨_,sq2.to fun o e=>hk _ o e,fun z=>by simp at z,fun _=>rfl⟩
   obtain⟨Y,hY⟩:=tZ hsrc
   have y1:=(hY (k1,s1.heap.objs.size,a1) (by simp)).2.1 rfl
   have y2:=(hY (k2,s1.heap.objs.size+1,a2) (by simp)).2.2 rfl
   have zl:(zipD xs ys).length=min its.length its2.length:=by simp[zipD];omega
   have sz':s1.heap.objs.size+5≤h'.objs.size:=Nat.succ_le_of_lt (Heap.lt_size st.hz)
   refine rk (s:={s1 with heap:=h' }) D (I1.ok.hd hc) (by simp) (by simp) Y (fun m=>[its.getD m .none,its2.getD m .none]) (n:=min its.length its2.length) (by rw[← zl];exact q3) (fun m hm=>⟨rfl,fun j q x hq hx=>?_⟩) ?_ (Fh st) (fun q hq=>(hY q hq).1) fun h2 acc hl2 hsz hT hk2=>?_
   ·
    have g1:m<its.length:=by omega
    have g2:m<its2.length:=by omega
    refine Fi g1 g2 y1 y2 hq ?_
    rw[List.getD_eq_getElem?_getD,List.getD_eq_getElem?_getD,List.getElem?_eq_getElem g1,List.getElem?_eq_getElem g2]at hx
    exact hx
   ·
    rcases Nat.le_total its.length its2.length with g|g
    ·
     exact⟨_,List.mem_cons_self,by rw[y1,Nat.min_eq_left g];simp⟩
    ·
     exact⟨_,List.mem_cons_of_mem _ List.mem_cons_self,by rw[y2,Nat.min_eq_right g];simp⟩
   obtain⟨c,hl2⟩:=hl2
   obtain⟨T,hT⟩:=tZ (l:=List.range (min its.length its2.length)) (P:=fun m (T:Addr)=>acc[m]?=some (.ref T)∧dX h2 T [its.getD m .none,its2.getD m .none]∧h'.objs.size<T) fun m hm=>hT m (List.mem_range.mp hm)
   have kp:∀b u,s1.heap.get? b=some u→h2.get? b=some u:=fun b u e=>hk2 b u (by
    have lb:b<s1.heap.objs.size:=Heap.lt_size e
    simp only[Zi.ofs,List.map_cons,List.map_nil,List.mem_cons,List.not_mem_nil,or_false,not_or]
    exact⟨Nat.ne_of_lt (Nat.lt_add_right _ lb),Nat.ne_of_lt (Nat.lt_add_right _ lb),Nat.ne_of_lt lb,Nat.ne_of_lt (Nat.lt_add_right _ lb)⟩) (hk b u e)
   have hT':∀m,m<min its.length its2.length→acc[m]?=some (.ref (T m))∧dX h2 (T m) [its.getD m .none,its2.getD m .none]∧h'.objs.size<T m:=fun m hm=>hT m (List.mem_range.mpr hm)
   have ea:acc=((List.range (min its.length its2.length)).map fun m=>Value.ref (T m)).toArray:=by
    refine Array.ext (by simp[hsz]) fun m g1 g2=>?_
    have g:m<min its.length its2.length:=by rw[← hsz];exact g1
    have:=(hT' m g).1
    rw[Array.getElem?_eq_getElem g1]at this
    simpa using this
   subst ea
   have gr:∀m,m<min its.length its2.length→Vals [vs1.getD m .non,vs2.getD m .non] [its.getD m .none,its2.getD m .none]:=fun m hm=>by
    have g1:m<vs1.length:=by omega
    have g2:m<vs2.length:=by omega
    obtain⟨u1,e1,r1⟩:=rv.get (List.getElem?_eq_getElem g1)
    obtain⟨u2,e2,r2⟩:=rv2.get (List.getElem?_eq_getElem g2)
    rw[List.getD_eq_getElem?_getD,List.getD_eq_getElem?_getD,List.getD_eq_getElem?_getD,List.getD_eq_getElem?_getD,e1,e2,List.getElem?_eq_getElem g1,List.getElem?_eq_getElem g2]
    exact .cons r1 (.cons r2 .nil)
   have tt:∀m,m<min its.length its2.length→s1.heap.objs.size≤T m∧T m≠h'.objs.size∧dX h2 (T m) [its.getD m .none,its2.getD m .none]:=fun m hm=>⟨Nat.le_trans (Nat.le_trans (Nat.le_add_right _ 5) sz') (Nat.le_of_lt (hT' m hm).2.2),Nat.ne_of_gt (hT' m hm).2.2,(hT' m hm).2.1⟩
   have I2:=I1.laidT (vs:=(List.range (min its.length its2.length)).map fun m=>V.ref (T m)) (row:=fun m=>[vs1.getD m .non,vs2.getD m .non]) kp (Nat.le_trans (Nat.le_add_right _ 5) sz') hl2 (by rw[List.length_map,List.length_range,← zl];exact q3) (qu fun m _=>rfl) tt gr (fun m _=>(by show 2≤sizeLine;decide))
   have old:∀b u,H1 b=some u→L2.laidT H1 s1.heap.objs.size h'.objs.size (min its.length its2.length) T ((List.range (min its.length its2.length)).map fun m=>V.ref (T m)) (fun m=>[vs1.getD m .non,vs2.getD m .non]) b=some u:=fun b u e=>by
    unfold L2.laidT
    rw[if_pos (I1.hok.lt e)]
    exact e
   refine⟨.ref h'.objs.size,_,_,ρ1,I2,rfl,E2.own_more (vs:=(List.range (min its.length its2.length)).map fun m=>V.ref (T m)) old (I1.hok.fresh (Nat.le_trans (Nat.le_add_right _ 5) sz')) ?_ ?_,q4 _⟩
   ·
    unfold L2.laidT
    rw[if_neg (Nat.not_lt.mpr (Nat.le_trans (Nat.le_add_right _ 5) sz')),if_pos rfl]
   ·
    rw[← t5]
    have en:min xs.length ys.length=min its.length its2.length:=by omega
    rw[en]
    refine xh fun m hm=>?_
    have hm:=List.mem_range.mp hm
    have g1:m<xs.length:=by omega
    have g2:m<ys.length:=by omega
    refine .tup (SqT.of (t7 tt gr hm)) ?_
    obtain⟨w1,e1,r1⟩:=rs1.get (List.getElem?_eq_getElem g1)
    obtain⟨w2,e2,r2⟩:=rs2.get (List.getElem?_eq_getElem g2)
    rw[List.getD_eq_getElem?_getD,List.getD_eq_getElem?_getD,List.getD_eq_getElem?_getD,List.getD_eq_getElem?_getD,e1,e2,List.getElem?_eq_getElem g1,List.getElem?_eq_getElem g2]
    exact .cons (r1.pres fun b u _ e=>old b u e) (.cons (r2.pres fun b u _ e=>old b u e) .nil)
 ·
  exact q1.elim
end
def ItR(K:PySem.W.Frag)(a:Addr)(xs:List V):It :=
 ⟨fun i H=>SqL K H a xs∧i<xs.length,fun i H v H'=>H'=H∧xs[xs.length-1-i]?=some v,fun i H=>SqL K H a xs∧i=xs.length⟩
theorem Cy{P:Program}{w:World}{K:PySem.W.Frag}{tg:Expr}(a j:Addr)(xs:List V):Turn P w K tg (ItR K a xs) [j] j (fun i h=>h.IsRevIter j a ((xs.length:Int)-1-i)) where
 mem:=by simp
 obj:=fun i h st b hb=>by
  have e:b=j:=by simpa using hb
  subst e
  obtain⟨o,e,c,d⟩:=st
  exact⟨o,e,fun v z=>by rw[d]at z;cases z⟩
 keep:=fun i h h' st k=>st.at fun o e=>k j (by simp) o e
 item:=by
  intro X hP hw hK hc i pins s σ H E I hf st hg
  subst hP hw hK
  obtain⟨hq,hi⟩:=hg
  obtain⟨its,rv,p,hz⟩:=I.list hq
  have hx:xs[xs.length-1-i]?=some (xs[xs.length-1-i]'(by omega)):=List.getElem?_eq_getElem _
  obtain⟨u,hu,ru⟩:=rv.get hx
  obtain⟨f0,f1,f2,f3,f4,f5⟩:=hf j (by simp)
  have ei:(xs.length:Int)-1-i=((xs.length-1-i:Nat):Int):=by omega
  rw[ei]at st
  refine wpAny_pyNext_rev_item st p.isList (x:=u) (by simpa using hu) fun h' st' sb=>?_
  have I1:Inv X pins σ H {s with heap:=h' }:=I.turned (t':=s.toks) (fun b o hb e=>(sb.2 b hb).trans e) f0 f1 f3 f4 f5
  obtain⟨o,e,c,d⟩:=id st'
  have ei2:((xs.length-1-i:Nat):Int)-1=(xs.length:Int)-1-((i+1:Nat):Int):=by omega
  rw[ei2]at st'
  exact⟨u,rfl,BQ (s:={s with heap:=h' }) e c d (by decide) ⟨_,H,I1,ru,⟨rfl,hx⟩,st',fun b hb=>(hf b hb).1⟩⟩
 done:=by
  intro X hP hw hK hc i pins s σ H E I hf st hg
  subst hP hw hK
  obtain⟨hq,hi⟩:=hg
  obtain⟨f0,f1,f2,f3,f4,f5⟩:=hf j (by simp)
  have ei:(xs.length:Int)-1-i=-1:=by omega
  rw[ei]at st
  exact wpAny_pyNext_rev_end (I.ok.hd hc) st fun h' eb=>⟨rfl,I.turned (t':=s.toks) (fun b o hb e=>eb b o hb e) f0 f1 f3 f4 f5⟩
 self:=fun _ _ _ _ _ st h=>wpAny_pyIter_revIter st h
theorem Ac{K:PySem.W.Frag}{H:Hp}{a:Addr}{vs:List V}{xs:List D}(h:SqZ K H a vs)(r:Reps K H vs xs):vi K H (ItR K a vs) xs.reverse:=fun H' p=>by
 have h':=(h.pres p).l
 refine⟨fun i x e=>?_,h',by rw[List.length_reverse,r.length]⟩
 have hi:i<xs.length:=by simpa using(List.getElem?_eq_some_iff.mp e).1
 rw[List.getElem?_reverse hi]at e
 obtain⟨v,ev,rv⟩:=r.get e
 refine⟨⟨h',by rw[r.length];exact hi⟩,fun w H2 ⟨e1,e2⟩=>?_⟩
 subst e1
 rw[r.length,ev]at e2
 cases e2
 exact⟨.inl rfl,rv.pres p⟩
def Fj(t:W L):W (List D):=fun ρ post=>t ρ fun r ρ1=>toD r fun d=>match d with
 |.lst xs=>post xs.reverse ρ1
 |_=>False
section
variable{X:Cx}{a tg:Expr}{pos p:Pos}
theorem Fk{t:W L} (hg:Gl X "reversed") (hm:X.mg "reversed"=none) (ha:PL X a t) (hs:starEach [a] X.env=[(false,eval a X.env)]:=by rfl):PIL X tg (.Call (.Name "reversed" p) [a] [] pos) (Fj t):=by
 intro pins s σ H Pr ρ post I E h
 refine Call_ (gH I hg hm (show bootBuiltins "reversed"=some (.type "reversed") by decide +kernel) (PyProof.Rows.callWith_type1 ?_ (by rw[hs]; rfl) rfl))
 rw[hs]
 show wpAny _ _ (spliced ((false,eval a X.env)::[])) _ _ s
 refine Calls.spliced_cons (thn (ha pins s σ H Pr ρ _ I E h) fun v s1 q=>Calls.spliced_nil ?_)
 obtain⟨w,H1,d,ρ1,I1,r1,E1,q1⟩:=EL.frz (post:=fun d ρ1=>match d with
  |.lst xs=>post xs.reverse ρ1
  |_=>False) q
 obtain⟨_,e1,p1⟩:=E1.head_d
 cases e1
 cases p1 with
 | @lst _ vs0 _ hz rs =>
  cases r1
  obtain⟨its,rv,pl,_⟩:=I1.list hz.l
  have el:its.toArray.size=vs0.length:=by simp;exact rv.length.symm
  refine call_reversed_list pl.isList ?_
  rw[el]
  refine wpAny_pyIter_revIter (s:={s1 with heap:=_}) ⟨_,Heap.get?_push_size _ rfl,rfl,rfl⟩ ?_
  refine⟨s1.heap.objs.size,[s1.heap.objs.size],_,_,H1,_,ρ1,rfl,I1.kept (t':=s1.toks) (fun b o e=>Heap.get?_push_of_some _ e),Cy _ _ _,⟨_,Heap.get?_push_size _ rfl,rfl,?_⟩,fun b hb=>?_,E1.tail,Ac hz rs,q1⟩
  ·
   rw[show((vs0.length:Int)-1-((0:Nat):Int))=(vs0.length:Int)-1 by omega]
   rfl
  ·
   have e:b=s1.heap.objs.size:=by simpa using hb
   subst e
   exact I1.fpOk (Nat.le_refl _) (I1.hok.fresh (Nat.le_refl _))
 |_=>exact q1.elim
end
end L2
namespace L2
open PySem PySem.Spec PyProof.Rows
section
variable{X:Cx}{e:Expr}{pos:Pos}{t:W Fl}
theorem Hs{body:List Stmt}{h0:ExceptHandler}{hs:List ExceptHandler}(hx:∀e s,X.xe e s→False)(hb:PMs X body t):PM X (.Try body (h0::hs) [] [] pos) t:=fun pins s σ H Pr ρ post I E ht =>
 wpAny_Try_except (wpAny_mono (hb pins s σ H Pr ρ post I E ht) (fun f s1 q=>by
  cases f with
  |next=>exact wpAny_execs_nil q
  |brk=>exact q
  |cont=>exact q
  |ret v=>exact q) fun e s z=>(hx e s z).elim)
def augW:Option L→(Int→Prop)→Prop
 |some (.d (.int a)),k=>k a
 |_,_=>False
theorem Cz(a:Int)(k:Int→Prop):augW (some (.d (.int a))) k=k a:=rfl
theorem Fm{o:Option L}{k:Int→Prop}(h:augW o k):∃a,o=some (.d (.int a))∧k a:=by
 unfold augW at h
 split at h
 ·
  exact⟨_,rfl,h⟩
 ·
  exact h.elim
def wAug(i:Nat)(f:Int→Int→Int)(te:W L):W Fl:=fun ρ post=>augW ρ[i]? fun a=>te ρ fun r ρ1=>i5 r fun b=>post .nx (ρ1.set i (.d (.int (f a b))))
theorem Ht{i:Nat}{x:Str}{te:W L}{pos':Pos}{op:Operator}{f:Int→Int→Int}(ho:PIp X op (ipI f))(hN:X.N.Nodup)(hi:X.N[i]?=some x)(hx:Loc X.env.scope x)(he:PL X e te)(hf:X.fn x=true∨X.env.scope.names.lookup x=some .local:=by first|exact .inl rfl|exact .inr rfl|assumption) :
  PM X (.AugAssign (.Name x pos') op e pos) (wAug i f te):=by
 refine PM.of (GG hN hi hx he.pe ho hf) fun σ H Pr ρ post hlen E h=>?_
 obtain⟨a,q,h⟩:=Fm h
 obtain⟨sv,hs,v,rfl,r⟩:=E.slot q
 cases r
 refine⟨_,hs,Pr,ρ,_,E,h,fun y H1 r ρ1 E1 p=>?_⟩
 obtain⟨b,rfl,p⟩:=cb p
 obtain⟨_,e1,p1⟩:=E1.head_d
 cases e1
 cases p1
 exact⟨a,b,rfl,rfl,_,(E1.tail.cons_d (.int _)).store (by rw[hlen];exact(List.getElem?_eq_some_iff.mp hi).1),p⟩
def wTru(i:Nat):W Bool:=fun ρ post=>ownV i ρ fun _ xs=>post (!xs.isEmpty) ρ
theorem Hu(i:Nat){x:Str}{p:Pos}(hN:X.N[i]?=some x:=by rfl)(hv:Vis X.env.scope x:=by first | exact Or.inl rfl | exact Or.inr (Or.inl rfl) | exact Or.inr (Or.inr rfl)) (hd:(x == ("__debug__" : Str))=false:=by decide)
  (hcd:(x == ("__classdict__" : Str))=false:=by decide) (he:∀ whole,isTrue (.Name x p) X.env whole=(do let v ← whole; standAt (Expr.Name x p).pos; holding [v] (truthy v)):=by intro _; rfl):PB X (.Name x p) (wTru i):=by
 intro pins s σ H Pr ρ post I E h
 obtain⟨l,xs0,q0,h⟩:=cR h
 obtain⟨hσ,vs0,hl0,r⟩:=E.ownAt q0
 have em:(!vs0.isEmpty)=!xs0.isEmpty:=by
  have:=r.length
  cases vs0<;>cases xs0<;>simp at this ⊢
 refine thn (BS (cN hN hv hd hcd) he pins s σ H (fun b H'=>b=(!xs0.isEmpty)∧H'=H) I ⟨.ref l,hσ,_,.inl ⟨vs0,SqL.of hl0,rfl⟩,em,rfl⟩) fun b s1 ⟨H1,I1,e1,e2⟩=>?_
 subst e1 e2
 exact⟨H1,ρ,I1,E,h⟩
end
end L2
namespace L2
open PySem PySem.Spec PyProof.Rows PySem.W
section
structure Fly (h:Heap) (e:Addr) (cls:Value) (dx T:Option Addr):Prop where
 ex:∃vs sl,h.get? e=some ⟨cls,dx,.fields vs,sl⟩∧1<vs.size∧(match T with
  |none=>vs[1]?=some .none
  |some t=>vs[1]?=some (.ref t)∧t≠e∧∃ot ts,h.get? t=some ot∧ot.data=.fields ts∧ts[3]?=some .none)
end
def del(H:Hp)(e:Addr):Hp:=fun b=>if b=e then none else H b
def vis(o:HO):Prop:=Pers o∧Ep o
theorem Fly.at{h h':Heap}{e:Addr}{cls:Value}{dx:Option Addr}(f:Fly h e cls dx none)(k:∀o,h.get? e=some o→h'.get? e=some o):Fly h' e cls dx none:=by
 obtain⟨vs,sl,he,hz,h1⟩:=f
 exact⟨vs,sl,k _ he,hz,h1⟩
def XO(e:Addr)(cls:Value)(dx:Option Addr):HO:=.ext fun h=>Fly h e cls dx none
def XD(d:Addr)(fs:List (Str×V)):HO:=.ext fun h=>∃mA,h.Ns1 d mA∧(∀f,RelO (fs.lookup f) (mA f))∧PySem.Within mA (fs.map (·.1))
theorem XO.ok{P:Program}{w:World}{H:Hp}{h:Heap}{e:Addr}{cls:Value}{dx:Option Addr}(f:Fly h e cls dx none):gM P w H h e (XO e cls dx):=by
 obtain⟨vs,sl,he,hz,h1⟩:=f
 exact⟨⟨vs,sl,he,hz,h1⟩,⟨_,he⟩,fun h1 h2 p k=>p.at k⟩
theorem XD.ok{P:Program}{w:World}{H:Hp}{h:Heap}{d:Addr}{fs:List (Str×V)}{mA:Str→Option Value}(n:h.Ns1 d mA)(r:∀f,RelO (fs.lookup f) (mA f))(wi:PySem.Within mA (fs.map (·.1))):gM P w H h d (XD d fs) :=
 ⟨⟨mA,n,r,wi⟩,let ⟨o,_,_,e,_⟩:=n;⟨o,e⟩,fun h1 h2 ⟨mA,n,r⟩ k=>⟨mA,n.at k,r⟩⟩
structure Xc where
 c:Str
 ns:List Str
 ds:List D
def XFly(K:Frag)(H:Hp)(cls:Value)(dx:Option Addr)(x:Xc):Prop:=∃C vs,cls=.ref C∧qh K x.c C=true∧(∀f∈x.ns,findIn K (.ref C) f=some none)∧XF H dx x.ns vs∧Reps K H vs x.ds
theorem XFly.ext{K:Frag}{H H':Hp}{cls:Value}{dx:Option Addr}{x:Xc}(f:XFly K H cls dx x)(h:∀b o,H b=some o→H' b=some o):XFly K H' cls dx x:=by
 obtain⟨C,vs,e,s,fq,a,r⟩:=f
 exact⟨C,vs,e,s,fq,a.pres fun b o _ q=>h b o q,r.pres fun b o _ q=>h b o q⟩
abbrev FSX:=List D→(L→Prop)→(Xc→Prop)→Prop
theorem REnv.ds{K:Frag}{H:Hp}:∀{vs:List V}{ds:List D},Reps K H vs ds→Paired (aK K H) (vs.map some) (ds.map .d)
 |_,_,.nil=>.nil
 |_,_,.cons h t=>.cons ⟨_,rfl,h⟩ (REnv.ds t)
end L2
namespace L2
open PySem PySem.Spec PyProof.Rows
section
variable{κ:Type}[DecidableEq κ]
theorem KV.length{kvs:List (κ×V)}{vs:List (κ×Value)}(r:KV kvs vs):kvs.length=vs.length:=Paired.length r
end
abbrev DR(K:PySem.W.Frag)(H:Hp):List (Key×V)→List (Key×D)→Prop:=Paired fun (p:Key×V) (q:Key×D)=>p.1=q.1∧Rep K H p.2 q.2
theorem DR.pres{K:PySem.W.Frag}{H H':Hp}(p:Pres H H'){vs:List (Key×V)}{kvs:List (Key×D)}(h:DR K H vs kvs):DR K H' vs kvs:=Paired.mapP h fun _ _ z=>⟨z.1,z.2.pres p⟩
section
variable{X:Cx}
def Hv:D→Bool
 |.int _=>true
 |.str _=>true
 |.bl _=>true
 |.non=>true
 |_=>false
inductive DPs (X:Cx):List (Option Expr)→List Expr→List (Key×D)→Prop where
 |nil:DPs X [] [] []
 |int {k v:Expr} {ks:List (Option Expr)} {vs:List Expr} {i:Int} {d:D} {kvs:List (Key×D)} (hk:PL X k (wC (.int i))) (hv:PL X v (wC d)) (hf:Hv d=true) (t:DPs X ks vs kvs):DPs X (some k::ks) (v::vs) ((.inl i,d)::kvs)
 |str {k v:Expr} {ks:List (Option Expr)} {vs:List Expr} {y:Str} {d:D} {kvs:List (Key×D)} (hk:PL X k (wC (.str y))) (hv:PL X v (wC d)) (hf:Hv d=true) (t:DPs X ks vs kvs):DPs X (some k::ks) (v::vs) ((.inr y,d)::kvs)
theorem DPs.len:∀{ks:List (Option Expr)}{vs:List Expr}{kvs:List (Key×D)},DPs X ks vs kvs→ks.all (·.isSome)=true∧ks.length=vs.length∧ks.length=kvs.length
 |_,_,_,.nil=>⟨rfl,rfl,rfl⟩
 | _,_,_,.int _ _ _ t=>by
  obtain⟨h1,h2,h3⟩:=t.len
  simp[h1,h2,← h3]
 | _,_,_,.str _ _ _ t=>by
  obtain⟨h1,h2,h3⟩:=t.len
  simp[h1,h2,← h3]
end
end L2
namespace L2
open PySem PySem.Spec PyProof.Rows PySem.SeqAt
mutual
def Ad:Nat→D→Bool
 |_,.non=>true
 |_,.bl _=>true
 |_,.int _=>true
 |_,.str _=>true
 |n+1,.tup xs=>vx n xs
 |n+1,.lst xs=>vx n xs
 |n+1,.dct m=>m == 0
 |_,_=>false
def vx:Nat→List D→Bool
 |_,[]=>true
 |n,x::xs=>Ad n x && vx n xs
end
mutual
def sgnD:D→Nat
 |.int _=>602
 |.str x=>10*x.length+2
 |.tup xs=>yn xs+3
 |.lst xs=>yn xs+3
 |_=>6
def yn:List D→Nat
 |[]=>0
 |x::xs=>sgnD x+2+yn xs
end
mutual
theorem D3:∀d:D,(toP d).leavesShort 601=true→(toP d).shown.length≤sgnD d
 |.non,_=>by decide
 |.bl b,_=>by cases b<;>decide
 | .int i,h=>by
  have e:(PyData.shown (.int i)).length≤601:=by simpa only[toP,PyData.leavesShort,decide_eq_true_eq]using h
  exact Nat.le_succ_of_le e
 | .str x,h=>by
  have hx:∀c∈x.cps.toList,c<16^8:=by simpa only[toP,PyData.leavesShort,List.all_eq_true,decide_eq_true_eq]using h
  have e:=PySem.StrLaws.reprText_len x hx
  simp only[toP,PyData.shown,sgnD]
  omega
 | .tup xs,h=>by
  have h1:=vz xs (by simpa only[toP,PyData.leavesShort]using h)
  have h2:=tupleText_len_le (PyData.shownAll (toPs xs))
  have h3:=PyData.shownAll_length (toPs xs)
  simp only[toP,PyData.shown,sgnD]
  omega
 | .lst xs,h=>by
  have h1:=vz xs (by simpa only[toP,PyData.leavesShort]using h)
  have h2:=listText_len_le (PyData.shownAll (toPs xs))
  have h3:=PyData.shownAll_length (toPs xs)
  simp only[toP,PyData.shown,sgnD]
  omega
 |.dct _,_=>by simp only[toP,sgnD];decide
 |.exc _ _ _,_=>by simp only[toP,sgnD];decide
theorem vz:∀ds:List D,PyData.leavesShortAll 601 (toPs ds)=true→((PyData.shownAll (toPs ds)).map (·.length)).sum+2*(toPs ds).length≤yn ds
 |[],_=>by simp only[toPs,PyData.shownAll,List.map_nil,List.sum_nil,List.length_nil,yn];omega
 | d::ds,h=>by
  have h':(toP d).leavesShort 601=true∧PyData.leavesShortAll 601 (toPs ds)=true:=by simpa only[toPs,PyData.leavesShortAll,Bool.and_eq_true]using h
  have h1:=D3 d h'.1
  have h2:=vz ds h'.2
  simp only[toPs,PyData.shownAll,List.map_cons,List.sum_cons,List.length_cons,yn]
  omega
end
structure IW (d:D):Prop where
 ok:okD 40 d=true
 sh:gX d=true
 ln:(toP d).shown.length≤sizeLine
theorem xc.l{d:D}(h:xc d):IW d:=⟨h.ok,h.sh,h.len⟩
end L2
namespace L2
open PySem PySem.Spec PyProof.Rows
section
variable{X:Cx}{b:Expr}{pos p:Pos}{tb:W L}{x:Str}
def Fn(i:Nat)(tb:W L):W L:=fun ρ post=>ownV i ρ fun _ _=>tb ρ fun r ρ1=>match r with
 |.own _ ys=>ownV i ρ1 fun _ xs=>xs.length+ys.length≤sizeLine∧∀q,post (.own q (xs++ys)) ρ1
 |_=>False
theorem Fo(i:Nat)(hb:PL X b tb)(hN:X.N[i]?=some x:=by rfl)(hv:Vis X.env.scope x:=by first | exact Or.inl rfl | exact Or.inr (Or.inl rfl) | exact Or.inr (Or.inr rfl)) (hd:(x == ("__debug__" : Str))=false:=by decide)
  (hcd:(x == ("__classdict__" : Str))=false:=by decide):PL X (.BinOp (.Name x p) .Add b pos) (Fn i tb):=by
 refine PL.of (IE zp (cN hN hv hd hcd) hb.pe) fun σ H Pr ρ post E h=>?_
 obtain⟨l,xs0,q0,h⟩:=cR h
 obtain⟨hσ,vs0,hl0,_⟩:=E.ownAt q0
 refine⟨.ref l,hσ,Pr,ρ,_,E,h,fun v H' r ρ' E' pp=>?_⟩
 split at pp
 rotate_left
 ·
  exact pp.elim
 rename_i l2 ys
 obtain⟨l',xs,q,hz,pp⟩:=cR pp
 obtain⟨hσ',vs,hl,r1⟩:=E'.tail.ownAt q
 rw[hσ]at hσ'
 cases hσ'
 obtain⟨hs,ws,hl2,r2⟩:=E'.ownAt (i:=0) rfl
 have ev:v=.ref l2:=by simpa using hs
 subst ev
 exact⟨l,l2,vs,ws,rfl,rfl,SqL.of hl,SqL.of hl2,by rw[r1.length,r2.length];exact hz,fun p hp=>⟨_,ρ',E'.tail.cons_own hp (r1.append r2),pp p⟩⟩
end
end L2
namespace L2
open PySem PySem.Spec PyProof.Rows PySem.W
end L2
namespace L2
open PySem PySem.Spec PyProof.Rows
end L2
namespace L2
open PySem PySem.Spec PyProof.Rows PySem.SeqAt
mutual
def okW:D→Bool
 |.dct n=>n == 0
 |.exc _ _ _=>false
 |.tup xs=>okWs xs
 |.lst xs=>okWs xs
 |.str x=>PyData.strOk x
 |_=>true
def okWs:List D→Bool
 |[]=>true
 |x::xs=>okW x && okWs xs
end
mutual
theorem t8:∀d:D,okW d=true→gX d=true→(toP d).leavesShort 601=true
 |.non,_,_=>rfl
 |.bl _,_,_=>rfl
 |.dct _,_,_=>rfl
 |.exc _ _ _,h,_=>by simp[okW]at h
 | .int i,_,h=>by
  have:=(nH (.int i) h).1
  simpa only[toP,PyData.leavesShort,PyData.intsShort]using this
 |.str x,h,hs=>PyData.leavesShort_of_canLay0 601 (.str x) (by simpa only[okW,PyData.canLay0]using h) (nH (.str x) hs).1
 | .tup xs,h,hs=>by
  have:=lL xs (by simpa only[okW]using h) (by simpa only[gX]using hs)
  simpa only[toP,PyData.leavesShort]using this
 | .lst xs,h,hs=>by
  have:=lL xs (by simpa only[okW]using h) (by simpa only[gX]using hs)
  simpa only[toP,PyData.leavesShort]using this
theorem lL:∀ds:List D,okWs ds=true→jH ds=true→PyData.leavesShortAll 601 (toPs ds)=true
 |[],_,_=>rfl
 | d::ds,h,hs=>by
  simp only[okWs,Bool.and_eq_true]at h
  simp only[jH,Bool.and_eq_true]at hs
  simp only[toPs,PyData.leavesShortAll,t8 d h.1 hs.1,lL ds h.2 hs.2,Bool.and_self]
end
structure StrW (d:D):Prop where
 ok:okW d=true
 sh:gX d=true
 dp:(toP d).depth≤40
 sg:sgnD d≤16777216
 ni:∀i,d≠.int i
theorem StrW.len{d:D}(h:StrW d):(toP d).shown.length≤sizeLine:=by
 have e:sizeLine=16777216:=by decide
 rw[e]
 exact Nat.le_trans (D3 d (t8 d h.ok h.sh)) h.sg
end L2
namespace L2
open PySem PySem.Spec PyProof.Rows
theorem REnv.takeIn{K:PySem.W.Frag}{Pr H:Hp}{σ:St}{ρ:Ev}{i j:Nat}{ls:List L}{l:L}(E:REnv K Pr H σ ρ)(hi:ρ[i]?=some (.bx none ls))(hj:ls[j]?=some l) :
  ∃a us w,σ[i]?=some (some (.ref a))∧SqT K H a us∧us.length=ls.length∧us[j]?=some w∧REnv K Pr H (some w::σ) (l::ρ.set i (.bx none (ls.set j .un))):=by
 obtain⟨sv,hs,_⟩:=E.slot hi
 have hil:i<ρ.length:=(List.getElem?_eq_some_iff.mp hi).1
 have hjl:j<ls.length:=(List.getElem?_eq_some_iff.mp hj).1
 obtain⟨a,us,rfl,ha,hl,E2⟩:=(E.outL hi hs).openT
 have hju:j<us.length:=by omega
 have E3:=E2.outL (i:=j) (k:=l) (s:=some us[j]) (by rw[List.getElem?_append_left hjl];exact hj) (by rw[List.getElem?_append_left (by simpa using hju),List.getElem?_map,List.getElem?_eq_getElem hju];rfl)
 rw[List.set_append_left _ _ hjl]at E3
 have hll:us.length=(ls.set j L.un).length:=by simpa using hl
 have hlen:=E.len
 have E4:REnv K Pr H (us.map some++(some us[j]::σ)) (ls.set j .un++(l::ρ.set i .un)):=E3.rearr (by simp[hl,hlen]) [] (by
  rw[List.append_nil,List.zip_append (by simpa using hll),List.zip_cons_cons,List.zip_cons_cons,List.zip_append (by simpa using hll)]
  exact List.perm_middle.symm)
 have E5:=E4.closeT hll ha
 have E6:=E5.back (i:=i+1) (by simp[hil]) (by simpa using hs)
 refine⟨a,us,us[j],hs,ha,hl,List.getElem?_eq_getElem hju,?_⟩
 simpa[List.set_set]using E6
section
variable{X:Cx}{x:Str}{p pos kpos:Pos}
def CA(o:Option L)(i k:Nat)(ρ:Ev)(post:L→Ev→Prop):Prop:=match o with
 |some (.bx none ls)=>∃l,ls[k]?=some l∧post l (ρ.set i (.bx none (ls.set k .un)))
 |some (.d (.tup ds))=>∃d,ds[k]?=some d∧post (.d d) ρ
 |_=>False
def Ae(i k:Nat):W L:=fun ρ post=>CA ρ[i]? i k ρ post
theorem CB(ls:List L)(i k:Nat)(ρ:Ev)(post:L→Ev→Prop):CA (some (.bx none ls)) i k ρ post=∃l,ls[k]?=some l∧post l (ρ.set i (.bx none (ls.set k .un))):=(rfl)
theorem Fp(ds:List D)(i k:Nat)(ρ:Ev)(post:L→Ev→Prop):CA (some (.d (.tup ds))) i k ρ post=∃d,ds[k]?=some d∧post (.d d) ρ:=(rfl)
theorem Af {kk} (i k:Nat) (hN:X.N[i]?=some x:=by rfl) (hv:Vis X.env.scope x:=by first | exact Or.inl rfl | exact Or.inr (Or.inl rfl) | exact Or.inr (Or.inr rfl)) (hd:(x == ("__debug__" : Str))=false:=by decide)
  (hcd:(x == ("__classdict__" : Str))=false:=by decide):PL X (.Subscript (.Name x p) (.Constant (.int (k:Int)) kk kpos) pos) (Ae i k):=by
 refine PL.of (BX y9 (cN hN hv hd hcd) DK (fun _ _=>rfl)) fun σ H Pr ρ post E h=>?_
 unfold Ae CA at h
 split at h
 ·
  rename_i ls hi
  obtain⟨l,hl,h⟩:=h
  obtain⟨a,us,w,hs,ha,hlen,hw,E'⟩:=E.takeIn hi hl
  exact⟨_,hs,a,us,_,w,rfl,rfl,ha,dS hw,_,_,E',h⟩
 ·
  rename_i ds hi
  obtain⟨d,hd,h⟩:=h
  obtain⟨sv,hs,sl⟩:=E.slot hi
  obtain⟨v,rfl,r⟩:=sl
  cases r with
  | tup ha rs =>
   obtain⟨w,hw,rw_⟩:=rs.get hd
   exact⟨_,hs,_,_,_,w,rfl,rfl,ha,dS hw,_,_,E.cons_d rw_,h⟩
 ·
  exact h.elim
end
theorem REnv.updFree{K:PySem.W.Frag}{Pr H:Hp}{σ:St}{ρ:Ev}{D:Addr}{vs:List V}(E:REnv K Pr H σ ρ)(hn:D∉owns ρ)(hD:H D=some (.lst vs))(hp:Pr D=none)(o:HO):REnv K Pr (upd H D o) σ ρ:=by
 have pr:Pres H (upd H D o):=fun b u pu e=>by
  have:b≠D:=fun z=>by rw[z,hD]at e;cases e;exact pu
  rw[aB this]
  exact e
 refine⟨fun b u e=>?_,E.nd,E.off,?_⟩
 ·
  have:b≠D:=fun z=>by rw[z,hp]at e;cases e
  rw[aB this]
  exact E.sub b u e
 ·
  have key:∀{σ:St}{ρ:Ev},D∉owns ρ→Paired (aK K H) σ ρ→Paired (aK K (upd H D o)) σ ρ:=by
   intro σ ρ hn h
   induction h with
   |nil=>exact .nil
   | cons q t ih =>
    rw[aA]at hn
    exact .cons (aK.pres pr _ (fun a ha=>aB fun z=>hn (List.mem_append_left _ (z ▸ ha))) q) (ih fun z=>hn (List.mem_append_right _ z))
  exact key hn E.sl
theorem REnv.cons_bx0{K:PySem.W.Frag}{Pr H:Hp}{σ:St}{ρ:Ev}(E:REnv K Pr H σ ρ){p:Addr}(h:H p=none):REnv K Pr (upd H p (.lst [])) (some (.ref p)::σ) (.bx (some p) []::ρ):=by
 refine REnv.closeO (vs:=[]) (ls:=[]) rfl bo (fun z=>?_) ?_ (E.new h)
 ·
  obtain⟨o,e,_⟩:=E.at_own (show p∈owns ρ from z)
  rw[h]at e;cases e
 ·
  cases q:Pr p with
  |none=>rfl
  |some u=>rw[E.sub _ u q]at h;cases h
theorem REnv.bxPush{K:PySem.W.Frag}{Pr H:Hp}{τ:St}{ρ:Ev}{D:Addr}{vy:V}{r:L}{acc:List L}(E:REnv K Pr H (some vy::(some (V.ref D)::τ)) (r::(.bx (some D) acc::ρ))) :
  ∃vs,H D=some (.lst vs)∧vs.length=acc.length∧REnv K Pr (upd H D (.lst (vs++[vy]))) (some (.ref D)::τ) (.bx (some D) (acc++[r])::ρ):=by
 have hl:=E.len
 have E1:REnv K Pr H (some (V.ref D)::(some vy::τ)) (.bx (some D) acc::(r::ρ)):=E.rearr (by simpa using hl) [] (by
  rw[List.append_nil,List.zip_cons_cons,List.zip_cons_cons,List.zip_cons_cons,List.zip_cons_cons]
  exact .swap _ _ _)
 obtain⟨vs,_,hD,hvl,hn,hp,E2⟩:=E1.openO
 refine⟨vs,hD,hvl,?_⟩
 have e1:vs.map some++(some vy::τ)=(vs++[vy]).map some++τ:=by simp
 have e2:acc++(r::ρ)=(acc++[r])++ρ:=by simp
 rw[e1,e2]at E2
 rw[e2]at hn
 exact(E2.updFree hn hD hp (.lst (vs++[vy]))).closeO (by simp[hvl]) bo hn hp
def kF(g:Tg)(ti:W Bool)(te:W L):List D→Ev→List L→(List L→Ev→Prop)→Prop
 |[],ρ,acc,k=>k acc ρ
 |x::xs,ρ,acc,k=>g x ρ fun ρ1=>ti ρ1 fun b ρ2=>if b=true then te ρ2 fun r ρ3=>kF g ti te xs ρ3 (acc++[r]) k else kF g ti te xs ρ2 acc k
def xj(n:Nat)(fi:List Nat)(src:W (List D))(g:Tg)(ti:W Bool)(te:W L):W L:=fun ρ post=>src ρ fun xs ρ1=>xs.length≤sizeLine ∧
 kF g ti te xs (List.replicate n .un++bg fi ρ1) [] fun ys ρb=>∀a,post (.bx (some a) ys) (cz fi (ρb.drop n) (aF fi ρ1))
section
variable{X:Cx}
theorem yo{elt tg iter:Expr}{ifs:List Expr}{scope sc:Scope}{pos:Pos}{N Nt Nf:List Str}{fi:List Nat}{src:W (List D)}{g:Tg}{ti:W Bool}{te:W L}
  (hsc:X.env.scope=sc) (hXN:X.N=N) (hc:X.calm=true) (hi:PIL X tg iter src)
  (hkind:scope.kind=.function) (hnames:∀x∈scope.names,x.2=.local→scope.names.lookup x.1=some .local) (hcell:∀y∈scope.names,y.2≠.cell)
  (hfr:∀x∈scope.names,x.2=.free→sc.names.lookup x.1=some .cell∨sc.names.lookup x.1=some .free)
  (hnd:fi.Nodup) (hNf:Nf.map some=fi.map (fun j=>N[j]?)) (hNk:∀x∈Nf,scope.names.lookup x=some .free) (hfl:∀j∈fi,j<N.length)
  (hg:∀cl s₀ H₀ fp,PTc (b7 X scope cl (Nt++Nf) s₀ H₀ fp) tg Nt.length g) (hti:∀cl s₀ H₀ fp,PIf (b7 X scope cl (Nt++Nf) s₀ H₀ fp) ifs ti) (hte:∀cl s₀ H₀ fp,PL (b7 X scope cl (Nt++Nf) s₀ H₀ fp) elt te)
  {pins:List (Addr×Obj)} {s:Shared} {σ:St} {H Pr:Hp} {ρ:Ev} {post:L→Ev→Prop} {use:Option (Value→Sem Unit)} {Q:Value→Shared→Prop} (I:Inv X pins σ H s) (E:REnv X.K Pr H σ ρ) (h:xj Nt.length fi src g ti te ρ post)
  (hRR:∀D C s7 H6 acc ρ'' m,Inv X pins σ H6 s7→s7.heap.Ns C m→H6 C=none→C≠X.env.locals→X.s₀.heap.objs.size≤C→(∀x c,X.env.cells.lookup x=some c→c≠C)→(∀p∈X.pn++pins,p.1≠C)→REnv X.K Pr H6 (some (.ref D)::σ) (.bx (some D) acc::ρ'')→post (.bx (some D) acc) ρ'' →
   compPost (model X.prog X.w) X.A X.xe use Q (.ref D) C (.ok .next) s7)
  (hs:∀x,foldedSetIterable iter X.env x=pure x):wpAny (model X.prog X.w) X.A (comprehension (.ListComp elt [⟨tg,iter,ifs,0⟩] scope pos) scope X.env (firstIterPos [⟨tg,iter,ifs,0⟩] pos) (newList []) false (eval iter X.env) use) Q X.xe s:=by
 have hcells:∀x∈scope.names,x.2=.free→∃c,X.env.cells.lookup x.1=some c:=fun x hx hk=>I.ok.has x.1 (by
  show X.env.scope.names.lookup x.1=_∨X.env.scope.names.lookup x.1=_
  rw[hsc];exact hfr x hx hk)
 have hsub:=qX (cells:=X.env.cells) scope.names [] (fun x c e=>by simp at e)
 refine wpAny_comprehension_free (use:=use) rfl hs (ky hcells) hkind hnames (thn (hi pins s σ H Pr ρ _ I E h) fun v s1 h1=>thn h1 fun itv s2 h2=>?_)
 obtain⟨it,fp,tn,J,H2,xs,ρ2,e,I2,T,st2,f2,E2,G,hlen,w0⟩:=h2
 subst e
 refine wpAny_newObj_type (T:="list") ?_
 generalize hD:s2.heap.objs.size=D
 have fD:H2 D=none:=by rw[← hD];exact I2.fresh
 have I3:Inv X pins σ (upd H2 D (.lst [])) {s2 with heap:=s2.heap.push {cls:=.type "list",dict:=none,data:=.seq ([]:List Value).toArray} }:=by
  have:=Inv.lnew (ys:=[]) (its:=[]) (t':=s2.toks) I2 .nil (Nat.zero_le _)
  rw[hD]at this
  exact this
 have E3:=E2.cons_bx0 (p:=D) fD
 have sz3:(s2.heap.push {cls:=.type "list",dict:=none,data:=.seq ([]:List Value).toArray}).objs.size=D+1:=by rw[Heap.size_push,hD]
 generalize hs3:({s2 with heap:=s2.heap.push {cls:=.type "list",dict:=none,data:=.seq ([]:List Value).toArray} }:Shared)=s3 at I3
 have hs3h:s3.heap=s2.heap.push {cls:=.type "list",dict:=none,data:=.seq ([]:List Value).toArray}:=by rw[← hs3]
 have fpD:∀b∈fp,b≠D:=fun b hb=>by
  obtain⟨o,e,_⟩:=T.obj 0 _ st2 b hb
  rw[← hD];exact Nat.ne_of_lt (Heap.lt_size e)
 have old3:∀b o,s2.heap.get? b=some o→s3.heap.get? b=some o:=fun b o e=>by rw[hs3h];exact Heap.get?_push_of_some _ e
 refine wpAny_newFunctionEnv (around:=some X.env) hcell (by intro y hy;simp at hy) (fun h4 hns4 hsb4=>?_) hkind
 have hns4':h4.Ns s3.heap.objs.size (fun _=>none):=by
  have:(fun x=>(([]:List (Str×Value)).reverse.lookup x))=fun _=>(none:Option Value):=by funext x;rfl
  rw[this]at hns4
  exact hns4
 have old4:∀b o,s3.heap.get? b=some o→h4.get? b=some o:=fun b o e=>by
  rw[hsb4.2 b (Nat.ne_of_lt (Heap.lt_size e))];exact Heap.get?_push_of_some _ e
 have hσl:σ.length=N.length:=by rw[← hXN];exact I.len
 have hρ2:σ.length=ρ2.length:=E2.len
 have hjσ:∀j∈fi,j<σ.length:=fun j hj=>by rw[hσl];exact hfl j hj
 have hjρ:∀j∈fi,j<ρ2.length:=fun j hj=>by rw[← hρ2];exact hjσ j hj
 have hfpl:∀b∈fp,b<s3.heap.objs.size:=fun b hb=>by
  obtain⟨o,e,_⟩:=T.obj 0 _ st2 b hb
  exact Heap.lt_size (old3 b o e)
 have hlNf:Nf.length=fi.length:=by have:=congrArg List.length hNf;simpa using this
 have Bok:(b7 X scope (clOf X.env.cells scope.names []) (Nt++Nf) s3 (upd H2 D (.lst [])) fp).Ok:=by
  refine⟨I3.ok.mod,hkind,I.ok.glob,I.ok.blt,Nat.le_refl _,fun x y c e1 e2=>I.ok.inj x y c (hsub x c e1) (hsub y c e2),fun x hx=>?_,fun x c hf _=>(Bool.false_ne_true hf).elim,I.ok.hd,I.ok.frames,.inl rfl,fun b hb=>⟨Nat.ne_of_lt (hfpl b hb),fun x c e=>(f2 b hb).2.2.2.2.1 x c (hsub x c e)⟩,I3.bs,Nat.le_trans I.ok.bsz I3.sz,fun b o e hb=>?_,fun b hb hm=>?_,I3.stack,I3.stkFree⟩
  ·
   have hm:(x,NameKind.free)∈scope.names:=by
    rcases hx with hx|hx
    ·
     exact cS (env:=X.env) hcell (.inl rfl) hx
    ·
     exact cS (env:=X.env) hcell (.inr rfl) hx
   exact kz scope.names [] x (.inr ⟨hm,hcells _ hm rfl⟩)
  ·
   rcases(f2 b hb).2.2.2.1 with z|z
   ·
    exact I.ok.noex b o e z
   ·
    exact absurd (Nat.lt_of_lt_of_le (Heap.lt_size (I.ok.bs b o e).1) z) (Nat.lt_irrefl _)
  ·
   rcases List.mem_cons.mp (I3.stkSub b hm)with z|z
   ·
    exact(f2 b hb).2.1 z
   ·
    exact(f2 b hb).2.2.1 z
 have I4:Inv (b7 X scope (clOf X.env.cells scope.names []) (Nt++Nf) s3 (upd H2 D (.lst [])) fp) [] (List.replicate Nt.length none++aV fi σ) (upd H2 D (.lst [])) {s3 with heap:=h4,toks:=s3.toks+([]:List (Str×Value)).length}:=by
  refine⟨Bok,rfl,I3.bare,Un.kept old4,⟨_,hns4',fun i x v e1 e2 e3=>?_⟩,fun x c e=>?_,I3.fresh,fun x c e=>I3.freeC x c (hsub x c e),fun p hp=>absurd (show p∈([]:List (Addr×Obj))from hp) (by simp),I3.hok.kept old4,?_⟩
  ·
   have e1:(Nt++Nf)[i]?=some x:=e1
   have hi':Nt.length≤i:=by
    by_cases q:i<Nt.length
    ·
     rw[List.getElem?_append_left (by simpa using q),List.getElem?_replicate]at e2
     split at e2<;>cases e2
    ·
     omega
   rw[List.getElem?_append_right hi']at e1
   rw[List.getElem?_append_right (by simpa using hi')]at e2
   simp only[List.length_replicate]at e2
   generalize i-Nt.length=k at e1 e2
   have hk:k<fi.length:=by
    have:=(List.getElem?_eq_some_iff.mp e1).1
    omega
   have e4:(Nf.map some)[k]?=(fi.map fun j=>N[j]?)[k]?:=by rw[hNf]
   rw[List.getElem?_map,List.getElem?_map,e1,List.getElem?_eq_getElem hk]at e4
   have e5:N[fi[k]]?=some x:=by simpa using e4.symm
   have e6:σ[fi[k]]?=some (some v):=by
    unfold aV at e2
    rw[List.getElem?_map,List.getElem?_eq_getElem hk]at e2
    have hjl:=hjσ fi[k] (List.getElem_mem hk)
    rw[List.getElem?_eq_getElem hjl]
    simpa[List.getElem?_eq_getElem hjl]using e2
   have hxm:x∈Nf:=List.mem_of_getElem? e1
   have hfree:=hNk x hxm
   have hmem:(x,NameKind.free)∈scope.names:=PySem.mem_of_lookup hfree
   have hkx:=hfr _ hmem rfl
   obtain⟨m,_,hl⟩:=I3.loc
   obtain⟨u,ru,lk⟩:=hl fi[k] x v (by rw[hXN];exact e5) e6 (by rw[hsc];exact .inr hkx)
   refine⟨u,ru,.inr ⟨cm (env:=X.env) hfree,?_⟩⟩
   rcases lk with⟨z,_⟩|⟨_,c,hc1,hc2⟩
   ·
    have z:X.env.scope.names.lookup x=some .local:=z
    rw[hsc]at z
    rcases hkx with q|q
    ·
     rw[z]at q;cases q
    ·
     rw[z]at q;cases q
   ·
    obtain⟨d,hd⟩:=kz (cells:=X.env.cells) scope.names [] x (.inr ⟨hmem,c,hc1⟩)
    have:d=c:=by have:=hsub x d hd;rw[hc1]at this;exact(Option.some.inj this).symm
    subst this
    obtain⟨o,ho,hdd⟩:=hc2
    exact⟨d,hd,o,old4 _ o ho,hdd⟩
  ·
   obtain⟨v,o,ho,hd⟩:=I3.cell x c (hsub x c e)
   exact⟨v,o,old4 c o ho,hd⟩
  ·
   show(List.replicate Nt.length none++aV fi σ).length=(Nt++Nf).length
   simp[aV,hlNf]
 have E4:REnv X.K Pr (upd H2 D (.lst [])) (some (.ref D)::(σ++(List.replicate Nt.length none++aV fi σ))) (.bx (some D) []::(aF fi ρ2++(List.replicate Nt.length .un++bg fi ρ2))):=by
  have a1:REnv X.K Pr (upd H2 D (.lst [])) (σ++[some (.ref D)]) (ρ2++[.bx (some D) []]):=E3.rearr (by simp[hρ2]) [] (by
   rw[List.append_nil,List.zip_append hρ2]
   exact(List.perm_append_comm (l₁:=[(some (V.ref D),L.bx (some D) [])]) (l₂:=σ.zip ρ2)))
  have a2:=a1.takes fi hnd fun j hj=>by have:=hjρ j hj;simp;omega
  rw[kA hjσ,qk hjρ,n5 hjρ]at a2
  have a3:=a2.uns Nt.length
  have hcl:(aV fi σ).length=(bg fi ρ2).length:=by simp[aV,bg]
  have hul:σ.length=(aF fi ρ2).length:=by rw[bM];exact hρ2
  refine a3.rearr (by simp[hul,hcl]) [] ?_
  have l1:(aV fi σ++(σ++[some (V.ref D)])++List.replicate Nt.length none).zip (bg fi ρ2++(aF fi ρ2++[L.bx (some D) []])++List.replicate Nt.length L.un)=((aV fi σ).zip (bg fi ρ2)++(σ.zip (aF fi ρ2)++[(some (V.ref D),L.bx (some D) [])]))++(List.replicate Nt.length none).zip (List.replicate Nt.length L.un):=by
   rw[List.zip_append (by simp only[List.length_append,hcl,hul];rfl),List.zip_append hcl,List.zip_append hul]
   rfl
  have l2:(some (V.ref D)::(σ++(List.replicate Nt.length none++aV fi σ))).zip (L.bx (some D) []::(aF fi ρ2++(List.replicate Nt.length L.un++bg fi ρ2)))=(some (V.ref D),L.bx (some D) [])::(σ.zip (aF fi ρ2)++((List.replicate Nt.length none).zip (List.replicate Nt.length L.un)++(aV fi σ).zip (bg fi ρ2))):=by
   rw[List.zip_cons_cons,List.zip_append hul,List.zip_append (by simp)]
  rw[List.append_nil,l1,l2]
  generalize (aV fi σ).zip (bg fi ρ2)=z1
  generalize σ.zip (aF fi ρ2)=z2
  generalize (List.replicate Nt.length none).zip (List.replicate Nt.length L.un)=z3
  show(z1++(z2++[(some (V.ref D),L.bx (some D) [])])++z3).Perm ((some (V.ref D),L.bx (some D) [])::(z2++(z3++z1)))
  have p1:(z1++(z2++[(some (V.ref D),L.bx (some D) [])])++z3).Perm ((z2++[(some (V.ref D),L.bx (some D) [])])++z3++z1):=by
   rw[List.append_assoc]
   exact List.perm_append_comm
  refine p1.trans ?_
  rw[List.append_assoc,List.append_assoc]
  exact List.perm_middle
 clear E3
 let B:Cx:=b7 X scope (clOf X.env.cells scope.names []) (Nt++Nf) s3 (upd H2 D (.lst [])) fp
 have hul:σ.length=(aF fi ρ2).length:=by rw[bM];exact hρ2
 have stat:∀{H':Hp},(∀b∈fp,H' b=none)→∀b∈fp,FpOk B [] H' b:=fun hn b hb=>by
  refine⟨hn b hb,Nat.ne_of_lt (hfpl b hb),fun hm=>?_,.inl hb,fun x c e=>(f2 b hb).2.2.2.2.1 x c (hsub x c e),fun p hp=>absurd (show p∈([]:List (Addr×Obj))from hp) (by simp)⟩
  rcases List.mem_cons.mp (I3.stkSub b hm)with z|z
  ·
   exact(f2 b hb).2.1 z
  ·
   exact(f2 b hb).2.2.1 z
 have loop:∀s5:Shared,s5={s3 with heap:=h4,toks:=s3.toks+([]:List (Str×Value)).length}→codeAny (model X.prog X.w) X.A (.compLoop (.ListComp elt [⟨tg,iter,ifs,0⟩] scope pos) 0 (.ref it) (.ref D) B.env)
   (compPost (model X.prog X.w) X.A X.xe use Q (.ref D) s3.heap.objs.size) s5:=by
  rintro s5 rfl
  refine tN (fun n s'=>∃i σ' H' ρ' acc,n+i=xs.length∧Inv B [] σ' H' s'∧tn i s'.heap∧(∀b∈fp,H' b=none)∧σ'.drop Nt.length=aV fi σ∧REnv X.K Pr H' (some (.ref D)::(σ++σ')) (.bx (some D) acc::(aF fi ρ2++ρ'))∧acc.length≤i ∧
   kF g ti te (xs.drop i) ρ' acc fun ys ρb=>∀a,post (.bx (some a) ys) (cz fi (ρb.drop Nt.length) (aF fi ρ2))) ?_ xs.length
   ⟨0,_,_,_,[],by omega,I4,T.keep 0 _ _ st2 fun b hb o e=>old4 b o (old3 b o e),fun b hb=>by rw[aB (fpD b hb)];exact(f2 b hb).1,by simp,E4,Nat.le_refl _,by simpa using w0⟩
  rintro n s6 ⟨i,σ6,H6,ρ6,acc,hn,I6,st6,fr6,dr6,E6,hal,w6⟩
  have pr:Pres H2 H6:=fun b o p e=>by
   have ne:b≠D:=fun z=>by rw[z,fD]at e;cases e
   have e':B.H₀ b=some o:=by show upd H2 D (.lst []) b=some o;rw[aB ne];exact e
   cases o with
   |tup ys=>exact I6.base.tups b ys e'
   |frz ob u=>exact I6.base.frzs b ob u e'
   |_=>exact p.elim
  obtain⟨go,stop⟩:=G H6 pr
  have hτ:(some (V.ref D)::σ).length=(L.bx (some D) acc::aF fi ρ2).length:=by simp[hul]
  by_cases hlt:i<xs.length
  ·
   obtain⟨hgo,hy⟩:=go i xs[i] (List.getElem?_eq_getElem hlt)
   rw[List.drop_eq_getElem_cons hlt]at w6
   refine thn (T.item B rfl rfl rfl hc i [] s6 σ6 H6 (fun _ _=>False) I6 (stat fr6) st6 hgo) fun r s7 ⟨u,hr,h7⟩=>?_
   subst hr
   refine thn h7 fun _ s8 ⟨x,H8,I8,r8,y8,st8,fr8⟩=>?_
   obtain⟨gr,rx⟩:=hy x H8 y8
   have I8':=I8.pinned (stat fr8) (T.obj _ _ st8)
   have E8:=E6.grown gr
   have E8a:REnv X.K (a5 H8 ρ6) H8 σ6 ρ6:=(REnv.drop (τ:=some (V.ref D)::σ) (lam:=L.bx (some D) acc::aF fi ρ2) E8 hτ).wide
   obtain⟨gg,hgg,hgs⟩:=hg (clOf X.env.cells scope.names []) s3 (upd H2 D (.lst [])) fp
   refine thn (hgg _ s8 σ6 H8 x u _ I8' r8 (hgs x σ6 H8 _ ρ6 xs[i] _ I8.len E8a rx w6)) fun _ s9 ⟨σ9,H9,I9,e9,dr9,ρ9,E9,q9⟩=>?_
   subst e9
   have F9:REnv X.K Pr H9 (some (V.ref D)::(σ++σ9)) (L.bx (some D) acc::(aF fi ρ2++ρ9)):=REnv.step (τ:=some (V.ref D)::σ) (lam:=L.bx (some D) acc::aF fi ρ2) (w:=[]) (μ:=[]) E8 hτ E9 rfl
   have F9a:REnv X.K (a5 H9 ρ9) H9 σ9 ρ9:=(REnv.drop (τ:=some (V.ref D)::σ) (lam:=L.bx (some D) acc::aF fi ρ2) F9 hτ).wide
   refine thn (hti _ _ _ _ _ s9 σ9 H9 _ ρ9 _ I9 F9a q9) fun ok sA ⟨HA,ρA,IA,EA,qA⟩=>?_
   have FA:REnv X.K Pr HA (some (V.ref D)::(σ++σ9)) (L.bx (some D) acc::(aF fi ρ2++ρA)):=REnv.step (τ:=some (V.ref D)::σ) (lam:=L.bx (some D) acc::aF fi ρ2) (w:=[]) (μ:=[]) F9 hτ EA rfl
   have again:∀{sZ:Shared}{HZ:Hp}{ρZ:Ev}{acc':List L},Inv B ([]++qe fp s8.heap) σ9 HZ sZ→REnv X.K Pr HZ (some (.ref D)::(σ++σ9)) (.bx (some D) acc'::(aF fi ρ2++ρZ))→acc'.length≤i+1 →
     (kF g ti te (xs.drop (i+1)) ρZ acc' fun ys ρb=>∀a,post (.bx (some a) ys) (cz fi (ρb.drop Nt.length) (aF fi ρ2)))→∃m,m<n∧∃i σ' H' ρ' acc,m+i=xs.length∧Inv B [] σ' H' sZ∧tn i sZ.heap∧(∀b∈fp,H' b=none)∧σ'.drop Nt.length=aV fi σ ∧
     REnv X.K Pr H' (some (.ref D)::(σ++σ')) (.bx (some D) acc::(aF fi ρ2++ρ'))∧acc.length≤i∧kF g ti te (xs.drop i) ρ' acc fun ys ρb=>∀a,post (.bx (some a) ys) (cz fi (ρb.drop Nt.length) (aF fi ρ2)):=fun {sZ HZ ρZ acc'} IZ EZ hz qZ=>by
    refine⟨n-1,by omega,i+1,σ9,HZ,ρZ,acc',by omega,IZ.unpinned,T.keep _ _ _ st8 fun b hb o e=>(IZ.pin (b,o) (List.mem_append_right _ (List.mem_append_right _ (dR hb e)))).1,fun b hb=>?_,dr9.trans dr6,EZ,hz,qZ⟩
    obtain⟨o,e,d⟩:=T.obj _ _ st8 b hb
    exact(IZ.pin (b,o) (List.mem_append_right _ (List.mem_append_right _ (dR hb e)))).2.1
   cases ok with
   | false =>
    rw[if_neg Bool.false_ne_true]at qA ⊢
    exact again IA FA (by omega) qA
   | true =>
    rw[if_pos rfl]at qA ⊢
    have FAa:REnv X.K (a5 HA ρA) HA σ9 ρA:=(REnv.drop (τ:=some (V.ref D)::σ) (lam:=L.bx (some D) acc::aF fi ρ2) FA hτ).wide
    refine thn (hte _ _ _ _ _ sA σ9 HA _ ρA _ IA FAa qA) fun ux sB qB=>?_
    obtain⟨vy,HB,y,ρB,IB,rB,EB,qB⟩:=qB
    have FB:REnv X.K Pr HB (some vy::(some (V.ref D)::(σ++σ9))) (y::(L.bx (some D) acc::(aF fi ρ2++ρB))):=REnv.step (τ:=some (V.ref D)::σ) (lam:=L.bx (some D) acc::aF fi ρ2) (w:=[some vy]) (μ:=[y]) FA hτ EB rfl
    obtain⟨vs,hDB,hvl,FC⟩:=FB.bxPush
    refine thn (ko (X:=B) _ sB σ9 HB (.ref D) [vy] (.ref D) [ux] (fun z H'=>H'=upd HB D (.lst (vs++[vy]))) IB rfl (.cons rB .nil) ⟨D,vs,vy,rfl,rfl,hDB,by rw[hvl];omega,rfl⟩) fun _ sC ⟨z,HC,IC,_,eC⟩=>?_
    subst eC
    exact again IC FC (by simp;omega) qB
  ·
   have e:i=xs.length:=by omega
   subst e
   refine thn (T.done B rfl rfl rfl hc xs.length [] s6 σ6 H6 (fun _ _=>False) I6 (stat fr6) st6 stop) fun r s7 ⟨hr,I7⟩=>?_
   subst hr
   rw[List.drop_length]at w6
   obtain⟨m,hm,_⟩:=id I7.loc
   have I8:Inv X pins σ H6 s7:=I3.call' (ch:=fp) I7.os I7.base I7.hok I7.bare fun b hb=>⟨(f2 b hb).2.2.2.1,(f2 b hb).2.1,(f2 b hb).2.2.2.2.1,(f2 b hb).2.2.2.2.2⟩
   have f4:=I3.fpOk (H':=H6) (b:=s3.heap.objs.size) (Nat.le_refl _) I7.free
   ·
    have hlen6:σ6.length=ρ6.length:=(REnv.drop (τ:=some (V.ref D)::σ) (lam:=L.bx (some D) acc::aF fi ρ2) E6 hτ).len
    have a1:REnv X.K Pr H6 (aV fi σ++(σ++[some (V.ref D)])) (ρ6.drop Nt.length++(aF fi ρ2++[L.bx (some D) acc])):=by
     have hcd:(aV fi σ).length=(ρ6.drop Nt.length).length:=by rw[← dr6,List.length_drop,List.length_drop,hlen6]
     refine E6.rearr (by simp[hcd,hul,hlen6]) ((σ6.take Nt.length).zip (ρ6.take Nt.length)) ?_
     have l0:σ6.zip ρ6=(σ6.take Nt.length).zip (ρ6.take Nt.length)++(aV fi σ).zip (ρ6.drop Nt.length):=by
      rw[← dr6,← List.zip_append (by simp[hlen6]),List.take_append_drop,List.take_append_drop]
     have l1:(some (V.ref D)::(σ++σ6)).zip (L.bx (some D) acc::(aF fi ρ2++ρ6))=(some (V.ref D),L.bx (some D) acc)::(σ.zip (aF fi ρ2)++σ6.zip ρ6):=by rw[List.zip_cons_cons,List.zip_append hul]
     have l2:(aV fi σ++(σ++[some (V.ref D)])).zip (ρ6.drop Nt.length++(aF fi ρ2++[L.bx (some D) acc]))=(aV fi σ).zip (ρ6.drop Nt.length)++(σ.zip (aF fi ρ2)++[(some (V.ref D),L.bx (some D) acc)]):=by
      rw[List.zip_append hcd,List.zip_append hul];rfl
     rw[l1,l2,l0]
     generalize (aV fi σ).zip (ρ6.drop Nt.length)=z1
     generalize σ.zip (aF fi ρ2)=z2
     generalize (σ6.take Nt.length).zip (ρ6.take Nt.length)=z3
     have p1:((some (V.ref D),L.bx (some D) acc)::(z2++(z3++z1))).Perm ((z2++[(some (V.ref D),L.bx (some D) acc)])++(z3++z1)):=by
      rw[List.append_assoc]
      exact List.perm_middle.symm
     refine p1.trans ?_
     have p2:((z2++[(some (V.ref D),L.bx (some D) acc)])++(z3++z1)).Perm ((z3++z1)++(z2++[(some (V.ref D),L.bx (some D) acc)])):=List.perm_append_comm
     refine p2.trans ?_
     rw[List.append_assoc]
     exact List.perm_append_comm
    have a2:=REnv.backs (σ:=σ++[some (V.ref D)]) (cs:=ρ6.drop Nt.length) (ρ:=aF fi ρ2++[L.bx (some D) acc]) fi hnd (by rw[List.length_drop,← hlen6,← List.length_drop,dr6];simp[aV]) (fun j hj=>by
     rw[List.getElem?_append_left (by rw[bM];exact hjρ j hj)];exact qW fi ρ2 j hj (hjρ j hj)) (fun j hj=>by have:=hjσ j hj;simp;omega) (by rw[kA hjσ];exact a1)
    rw[lJ fun j hj=>by rw[bM];exact hjρ j hj]at a2
    have hpl:σ.length=(cz fi (ρ6.drop Nt.length) (aF fi ρ2)).length:=by have:=a2.len;simpa using this
    refine hRR D s3.heap.objs.size s7 H6 acc (cz fi (ρ6.drop Nt.length) (aF fi ρ2)) m I8 hm f4.1 f4.2.1 I3.sz f4.2.2.2.2.1 f4.2.2.2.2.2 (a2.rearr (by simp[hpl]) [] ?_) (w6 D)
    rw[List.append_nil,List.zip_append hpl,List.zip_cons_cons]
    exact List.perm_append_comm (l₂:=[(some (V.ref D),L.bx (some D) acc)])
 exact codeAny_compStart_list (loop _ rfl) (T.self _ 0 _ _ _ (T.keep 0 _ _ st2 fun b hb o e=>old4 b o (old3 b o e)) (loop _ rfl))
theorem CC{elt tg iter:Expr}{ifs:List Expr}{scope sc:Scope}{pos:Pos}{N Nt Nf:List Str}{fi:List Nat}{src:W (List D)}{g:Tg}{ti:W Bool}{te:W L}
  (hsc:X.env.scope=sc) (hXN:X.N=N) (hc:X.calm=true) (hi:PIL X tg iter src)
  (hkind:scope.kind=.function) (hnames:∀x∈scope.names,x.2=.local→scope.names.lookup x.1=some .local) (hcell:∀y∈scope.names,y.2≠.cell)
  (hfr:∀x∈scope.names,x.2=.free→sc.names.lookup x.1=some .cell∨sc.names.lookup x.1=some .free)
  (hnd:fi.Nodup) (hNf:Nf.map some=fi.map (fun j=>N[j]?)) (hNk:∀x∈Nf,scope.names.lookup x=some .free) (hfl:∀j∈fi,j<N.length)
  (hg:∀cl s₀ H₀ fp,PTc (b7 X scope cl (Nt++Nf) s₀ H₀ fp) tg Nt.length g) (hti:∀cl s₀ H₀ fp,PIf (b7 X scope cl (Nt++Nf) s₀ H₀ fp) ifs ti) (hte:∀cl s₀ H₀ fp,PL (b7 X scope cl (Nt++Nf) s₀ H₀ fp) elt te)
  (hs:∀x,foldedSetIterable iter X.env x=pure x:=by intro _;rfl):PL X (.ListComp elt [⟨tg,iter,ifs,0⟩] scope pos) (xj Nt.length fi src g ti te):=by
 intro pins s σ H Pr ρ post I E h
 rw[eval_ListComp]
 refine yo (use:=none) hsc hXN hc hi hkind hnames hcell hfr hnd hNf hNk hfl hg hti hte I E h (fun D C s7 H6 acc ρ'' m I7 hm h1 h2 h3 h4 h5 E7 p=>?_) hs
 exact⟨m,hm,fun h' hsb=>⟨.ref D,H6,_,ρ'',I7.turned (t':=s7.toks) (fun b o hb e=>(hsb.2 b hb).trans e) h1 (Ne.symm (Ne.symm h2)) (.inr h3) h4 h5,rfl,E7,p⟩⟩
end
section
variable{X:Cx}{e:Expr}{p pos:Pos}{te:W L}
def Fq(r:L)(ρ:Ev)(post:L→Ev→Prop):Prop:=match r with
 |.bx (some _) ls=>post (.bx none ls) ρ
 |_=>False
def tupL(ls:List L)(ρ:Ev)(post:L→Ev→Prop):Prop:=match ls with
 |[r]=>Fq r ρ post
 |_=>False
def Ag(te:W L):W L:=fun ρ post=>te ρ fun r ρ1=>Fq r ρ1 post
theorem CD(a:Addr)(ls:List L)(ρ:Ev)(post:L→Ev→Prop):Fq (.bx (some a) ls) ρ post=post (.bx none ls) ρ:=(rfl)
theorem CF(he:PL X e te) (hg:Gl X "tuple") (hm:X.mg "tuple"=none) (hse:starEach [e] X.env=(false,eval e X.env)::starEach [] X.env:=by rfl) (hpl:(backTo pos (starEach ([]:List Expr) X.env)).any (·.1)=false:=by rfl):PL X (.Call (.Name "tuple" p) [e] [] pos) (Ag te):=by
 intro pins s σ H Pr ρ post I E h
 have ha:PAL X [e] [none] (aVal te aNil):=af he ah hse
 refine wpAny_Call_Name_kw (gH I hg hm (by decide +kernel:bootBuiltins "tuple"=some (.type "tuple")) ?_ (by decide) (by decide))
 refine PyProof.Rows.callWith_type1 (thn (ha pos pins s σ H Pr ρ (fun ls ρ1=>tupL ls ρ1 post) I E h) fun us s1 ⟨vs,H1,ls0,ρ1,I1,r1,hl,hb,E1,_,q⟩=>?_) hse hpl
 unfold tupL at q
 dsimp only at q
 split at q
 rotate_left
 ·
  exact q.elim
 rename_i r _
 cases r with
 | bx k ls =>
  cases k with
  |none=>exact q.elim
  | some a =>
   cases vs with
   |nil=>cases hl
   |cons v vs =>
   have hvs:vs=[]:=List.length_eq_zero_iff.mp (by simpa using hl)
   subst hvs
   obtain⟨ws,e2,hD,hwl,hn,hp,E2⟩:=REnv.openO (σ:=σ) (ρ:=ρ1) E1
   cases e2
   refine thn (qQ pins s1 σ H1 _ us (fun z H'=>∃l,z=.ref l∧H1 l=none∧H'=upd H1 l (.tup ws)) I1 r1 ⟨a,ws,rfl,.inl ⟨SqL.of hD,fun l hl=>⟨l,rfl,hl,rfl⟩⟩⟩) fun w s2 ⟨z,H2,I2,rz,l,e3,hl3,e4⟩=>?_
   subst e3 e4
   exact⟨.ref l,_,.bx none ls,ρ1,I2,rz,(E2.new hl3).closeT hwl (SqT.of bo),q⟩
 |_=>exact q.elim
end
end L2
namespace L2
open PySem
theorem kG{g:Tg}{b:W Fl}{post:Fl→Ev→Prop}:∀(xs:List D)(I:Nat→Ev→Prop)(ρ:Ev),I 0 ρ →
  (∀j x ρ,xs[j]?=some x→I j ρ→∀Q:Fl→Ev→Prop,(∀ρ',I (j+1) ρ'→Q .nx ρ')→(∀ρ',I (j+1) ρ'→Q .ct ρ')→(∀ρ',post .nx ρ'→Q .bk ρ')→(∀r ρ',post (.rt r) ρ'→Q (.rt r) ρ')→g x ρ fun ρ1=>b ρ1 Q) →
  (∀ρ,I xs.length ρ→post .nx ρ)→dW g b xs ρ post
 |[],I,ρ,h0,_,fin=>fin ρ h0
 | x::xs,I,ρ,h0,step,fin=>by
  unfold dW
  refine step 0 x ρ rfl h0 _ (fun ρ' h=>?_) (fun ρ' h=>?_) (fun ρ' h=>h) (fun r ρ' h=>h)
  ·
   exact kG xs (fun j=>I (j+1)) ρ' h (fun j y ρ e hi=>step (j+1) y ρ e hi) fin
  ·
   exact kG xs (fun j=>I (j+1)) ρ' h (fun j y ρ e hi=>step (j+1) y ρ e hi) fin
theorem fW{α:Type}{enc:α→D}{g:Tg}{b:W Fl}{post:Fl→Ev→Prop}(as:List α)(I:List α→Ev→Prop)(ρ:Ev)(h0:I [] ρ)
  (step:∀pre a suf ρ,as=pre++a::suf→I pre ρ→∀Q:Fl→Ev→Prop,(∀ρ',I (pre++[a]) ρ'→Q .nx ρ')→(∀ρ',I (pre++[a]) ρ'→Q .ct ρ')→(∀ρ',post .nx ρ'→Q .bk ρ')→(∀r ρ',post (.rt r) ρ'→Q (.rt r) ρ')→g (enc a) ρ fun ρ1=>b ρ1 Q)
  (fin:∀ρ,I as ρ→post .nx ρ):dW g b (as.map enc) ρ post:=by
 refine kG _ (fun j ρ=>I (as.take j) ρ) ρ h0 (fun j x ρ e hi Q h1 h2 h3 h4=>?_) fun ρ h=>fin ρ (by simpa using h)
 rw[List.getElem?_map]at e
 cases ea:as[j]? with
 |none=>rw[ea]at e;cases e
 | some a =>
  rw[ea]at e
  cases e
  obtain⟨hj,ea'⟩:=List.getElem?_eq_some_iff.mp ea
  have es:as.take (j+1)=as.take j++[a]:=by rw[List.take_succ,ea];rfl
  have ed:as=as.take j++a::as.drop (j+1):=by
   have:=(List.take_append_drop j as).symm
   rw[List.drop_eq_getElem_cons hj,ea']at this
   exact this
  rw[es]at h1 h2
  exact step _ a _ ρ ed hi Q h1 h2 h3 h4
theorem xk{g:Tg}{ti:W Bool}{te:W L}{k:List D→Ev→Prop}:∀(xs:List D)(I:Nat→Ev→List D→Prop)(ρ:Ev)(acc:List D),I 0 ρ acc →
  (∀j x ρ acc,xs[j]?=some x→I j ρ acc→∀Q:Ev→List D→Prop,(∀ρ' acc',I (j+1) ρ' acc'→Q ρ' acc')→g x ρ fun ρ1=>ti ρ1 fun b ρ2=>if b=true then te ρ2 fun r ρ3=>toD r fun y=>Q ρ3 (acc++[y])else Q ρ2 acc) →
  (∀ρ acc,I xs.length ρ acc→k acc ρ)→dk g ti te xs ρ acc k
 |[],I,ρ,acc,h0,_,fin=>fin ρ acc h0
 | x::xs,I,ρ,acc,h0,step,fin=>by
  unfold dk
  exact step 0 x ρ acc rfl h0 (fun ρ acc=>dk g ti te xs ρ acc k) fun ρ' acc' h=>xk xs (fun j=>I (j+1)) ρ' acc' h (fun j y ρ acc e hi=>step (j+1) y ρ acc e hi) fin
theorem kH{α:Type}{enc:α→D}{h:α→Option D}{caps:Ev}{ti:W Bool}{te:W L}{k:List D→Ev→Prop}:∀(as:List α)(acc:List D)(l:L),
  (∀a∈as,∀Q:Ev→Option D→Prop,Q (.d (enc a)::caps) (h a)→ti (.d (enc a)::caps) fun b ρ2=>if b=true then te ρ2 fun r ρ3=>toD r fun y=>Q ρ3 (some y)else Q ρ2 none) →
  (∀l',k (acc++as.filterMap h) (l'::caps))→dk (aI 0) ti te (as.map enc) (l::caps) acc k
 |[],acc,l,_,fin=>by have:=fin l;simpa[dk]using this
 | a::as,acc,l,step,fin=>by
  show dk (aI 0) ti te (enc a::as.map enc) (l::caps) acc k
  unfold dk
  show ti (.d (enc a)::caps) _
  refine step a List.mem_cons_self (fun ρ o=>match o with|some y=>dk (aI 0) ti te (as.map enc) ρ (acc++[y]) k|none=>dk (aI 0) ti te (as.map enc) ρ acc k) ?_
  cases e:h a with
  |none=>exact kH as acc _ (fun b hb=>step b (List.mem_cons_of_mem _ hb)) (by simpa[List.filterMap_cons,e]using fin)
  |some y=>exact kH as (acc++[y]) _ (fun b hb=>step b (List.mem_cons_of_mem _ hb)) (by simpa[List.filterMap_cons,e]using fin)
theorem a6{α:Type}{enc:α→D}{h:α→D}{caps:Ev}{te:W L}{k:List D→Ev→Prop}(as:List α)(acc:List D)(l:L)
  (step:∀a∈as,∀Q:Ev→D→Prop,Q (.d (enc a)::caps) (h a)→te (.d (enc a)::caps) fun r ρ3=>toD r fun y=>Q ρ3 y)
  (fin:∀l',k (acc++as.map h) (l'::caps)):dk (aI 0) bF te (as.map enc) (l::caps) acc k:=by
 refine kH (h:=fun a=>some (h a)) as acc l (fun a ha Q q=>?_) (by simpa using fin)
 simp only[bF,if_true]
 exact step a ha (fun ρ y=>Q ρ (some y)) q
theorem iP{α:Type}{e1 e2:α→D}{h:α→Option D}{caps:Ev}{ti:W Bool}{te:W L}{k:List D→Ev→Prop}:∀(as:List α)(acc:List D)(l m:L),
  (∀a∈as,∀Q:Ev→Option D→Prop,Q (.d (e1 a)::.d (e2 a)::caps) (h a)→ti (.d (e1 a)::.d (e2 a)::caps) fun b ρ2=>if b=true then te ρ2 fun r ρ3=>toD r fun y=>Q ρ3 (some y)else Q ρ2 none) →
  (∀l' m',k (acc++as.filterMap h) (l'::m'::caps))→dk (dU [0,1]) ti te (as.map fun a=>D.tup [e1 a,e2 a]) (l::m::caps) acc k
 |[],acc,l,m,_,fin=>by have:=fin l m;simpa[dk]using this
 | a::as,acc,l,m,step,fin=>by
  show dk (dU [0,1]) ti te (D.tup [e1 a,e2 a]::as.map fun a=>D.tup [e1 a,e2 a]) (l::m::caps) acc k
  unfold dk
  show ti (.d (e1 a)::.d (e2 a)::caps) _
  refine step a List.mem_cons_self (fun ρ o=>match o with|some y=>dk (dU [0,1]) ti te (as.map fun a=>D.tup [e1 a,e2 a]) ρ (acc++[y]) k|none=>dk (dU [0,1]) ti te (as.map fun a=>D.tup [e1 a,e2 a]) ρ acc k) ?_
  cases e:h a with
  |none=>exact iP as acc _ _ (fun b hb=>step b (List.mem_cons_of_mem _ hb)) (by simpa[List.filterMap_cons,e]using fin)
  |some y=>exact iP as (acc++[y]) _ _ (fun b hb=>step b (List.mem_cons_of_mem _ hb)) (by simpa[List.filterMap_cons,e]using fin)
theorem gZ{α:Type}{e1 e2:α→D}{h:α→D}{caps:Ev}{te:W L}{k:List D→Ev→Prop}(as:List α)(acc:List D)(l m:L)
  (step:∀a∈as,∀Q:Ev→D→Prop,Q (.d (e1 a)::.d (e2 a)::caps) (h a)→te (.d (e1 a)::.d (e2 a)::caps) fun r ρ3=>toD r fun y=>Q ρ3 y)
  (fin:∀l' m',k (acc++as.map h) (l'::m'::caps)):dk (dU [0,1]) bF te (as.map fun a=>D.tup [e1 a,e2 a]) (l::m::caps) acc k:=by
 refine iP (h:=fun a=>some (h a)) as acc l m (fun a ha Q q=>?_) (by simpa using fin)
 simp only[bF,if_true]
 exact step a ha (fun ρ y=>Q ρ (some y)) q
theorem vA{α:Type}{x:α}{xs:List α}:atI (x::xs) 0=some x:=dS (j:=0) rfl
theorem vB{α:Type}{x y:α}{xs:List α}:atI (x::y::xs) 1=some y:=dS (j:=1) rfl
theorem Hw{α:Type}{x y z:α}{xs:List α}:atI (x::y::z::xs) 2=some z:=dS (j:=2) rfl
theorem Hx{α:Type}{x y z w:α}{xs:List α}:atI (x::y::z::w::xs) 3=some w:=dS (j:=3) rfl
theorem IX{α:Type}{x y z w v:α}{xs:List α}:atI (x::y::z::w::v::xs) 4=some v:=dS (j:=4) rfl
theorem D4{α:Type}{xs:List α}{i:Int}{x:α}(h0:0≤i)(h:xs[i.toNat]?=some x):atI xs i=some x:=by
 have:=dS h
 rwa [Int.toNat_of_nonneg h0]at this
theorem cB{α:Type}{f:α→D}{xs:List α}{k:Nat}(h:k<xs.length):atI (xs.map f) (k:Int)=some (f xs[k]):=dS (by rw[List.getElem?_map,List.getElem?_eq_getElem h];rfl)
theorem ix30:ixN 3 0=some 0:=by decide
theorem ix31:ixN 3 1=some 1:=by decide
theorem ix32:ixN 3 2=some 2:=by decide
theorem kI(n:Nat):rngD 0 n=(List.range n).map fun (i:Nat)=>D.int (i:Int):=by
 unfold rngD
 simp
theorem CG{g:Tg}{b:W Fl}{post:Fl→Ev→Prop}(lo:Int)(n:Nat)(I:Nat→Ev→Prop)(ρ:Ev)(h0:I 0 ρ)
  (step:∀j ρ,j<n→I j ρ→∀Q:Fl→Ev→Prop,(∀ρ',I (j+1) ρ'→Q .nx ρ')→(∀ρ',I (j+1) ρ'→Q .ct ρ')→(∀ρ',post .nx ρ'→Q .bk ρ')→(∀r ρ',post (.rt r) ρ'→Q (.rt r) ρ')→g (.int (lo+(j:Int))) ρ fun ρ1=>b ρ1 Q)
  (fin:∀ρ,I n ρ→post .nx ρ):dW g b (rngD lo n) ρ post:=by
 have hl:(rngD lo n).length=n:=by simp[rngD]
 refine kG _ I ρ h0 (fun j x ρ hj hi Q h1 h2 h3 h4=>?_) fun ρ h=>fin ρ (by rwa [hl]at h)
 have hj':j<n:=by rw[← hl];exact(List.getElem?_eq_some_iff.mp hj).1
 have e:x=.int (lo+(j:Int)):=by
  unfold rngD at hj
  rw[List.getElem?_map,List.getElem?_range hj']at hj
  exact(Option.some.inj hj).symm
 subst e
 exact step j ρ hj' hi Q h1 h2 h3 h4
theorem g6{g:Tg}{b:W Fl}{post:Fl→Ev→Prop}(n:Nat)(I:Nat→Ev→Prop)(ρ:Ev)(h0:I 0 ρ)
  (step:∀j ρ,j<n→I j ρ→∀Q:Fl→Ev→Prop,(∀ρ',I (j+1) ρ'→Q .nx ρ')→(∀ρ',I (j+1) ρ'→Q .ct ρ')→(∀ρ',post .nx ρ'→Q .bk ρ')→(∀r ρ',post (.rt r) ρ'→Q (.rt r) ρ')→g (.int (j:Int)) ρ fun ρ1=>b ρ1 Q)
  (fin:∀ρ,I n ρ→post .nx ρ):dW g b (rngD 0 n) ρ post :=
 CG 0 n I ρ h0 (fun j ρ hj hi Q h1 h2 h3 h4=>by rw[Int.zero_add];exact step j ρ hj hi Q h1 h2 h3 h4) fin
theorem bj{i:Int}(h:i.natAbs<2^200):bV i:=Nat.lt_of_lt_of_le h (Nat.pow_le_pow_right (by decide) (by decide))
theorem a8{i:Int}{n:Nat}(h:i.natAbs<2^n)(hn:n≤1000000):bV i:=Nat.lt_of_lt_of_le h (Nat.pow_le_pow_right (by decide) hn)
theorem eI(x:Int){m:Int}(h:0<m):0≤x.fmod m∧x.fmod m<m:=by
 rw[Int.fmod_eq_emod_of_nonneg _ (by omega)]
 exact⟨Int.emod_nonneg _ (by omega),Int.emod_lt_of_pos _ h⟩
theorem vC{i:Int}{n:Nat}(h0:0≤i)(h:i<2^n)(hn:n≤1000000):bV i:=by
 have:i.natAbs<2^n:=by
  have e:((2^n:Nat):Int)=(2:Int)^n:=by simp
  omega
 exact Nat.lt_of_lt_of_le this (Nat.pow_le_pow_right (by decide) hn)
theorem IY:(10:Int)^60<2^200:=by decide
theorem t9{i:Int}(h0:0≤i)(h:i≤10^60):i.natAbs<2^9000:=by
 have:i.natAbs<2^200:=by
  have:=IY
  have e:((2^200:Nat):Int)=(2:Int)^200:=by decide
  omega
 exact Nat.lt_of_lt_of_le this (Nat.pow_le_pow_right (by decide) (by decide))
theorem D5(p q:Rat):Rat.divInt (p.num*q.num) ((p.den:Int)*(q.den:Int))=p*q:=by
 rw[← Rat.divInt_mul_divInt,Rat.num_divInt_den,Rat.num_divInt_den]
theorem RB.of_divInt{t b:Int}{n:Nat}(h:b≠0)(ht:t.natAbs<2^n)(hb:b.natAbs<2^n):RB n (Rat.divInt t b):=⟨Nat.lt_of_le_of_lt (D0 h) ht,Nat.lt_of_le_of_lt (zE h) hb⟩
theorem rm(p q:Rat):((p.den:Int)*(q.den:Int))≠0:=by
 have dp:=den_pos p
 have dq:=den_pos q
 exact Int.mul_ne_zero (by omega) (by omega)
theorem nJ(p q:Rat):((p.den:Int)*(q.den:Int)).natAbs=p.den*q.den:=by rw[Int.natAbs_mul,Int.natAbs_natCast,Int.natAbs_natCast]
theorem RB.mul{m n:Nat}{p q:Rat}(hp:RB m p)(hq:RB n q):RB (m+n) (p*q):=by
 rw[← D5]
 exact RB.of_divInt (rm p q) (by rw[Int.natAbs_mul];exact aZ hp.1 hq.1) (by rw[nJ];exact aZ hp.2 hq.2)
theorem xl{q:Rat}(h:q≠0):q.num≠0:=fun z=>h (Rat.num_eq_zero.mp z)
theorem lM(q:Rat):(q.den:Int)≠0:=by have:=den_pos q;omega
theorem D6(p:Rat){q:Rat}(h:q≠0):Rat.divInt (p.num*(q.den:Int)) ((p.den:Int)*q.num)=p / q:=by
 rw[Rat.div_def,← Rat.divInt_mul_divInt,Rat.num_divInt_den]
 congr 1
 conv=>rhs;rw[← Rat.num_divInt_den q,Rat.inv_divInt]
theorem RB.div{m n:Nat}{p q:Rat}(hp:RB m p)(hq:RB n q)(h:q≠0):RB (m+n) (p / q):=by
 rw[← D6 p h]
 refine RB.of_divInt (Int.mul_ne_zero (lM p) (xl h)) ?_ ?_
 ·
  rw[Int.natAbs_mul];exact aZ hp.1 (by simpa using hq.2)
 ·
  rw[Int.natAbs_mul];exact aZ (by simpa using hp.2) hq.1
theorem RB.zero:RB 1 0:=⟨by decide,by decide⟩
theorem I0(p q:Rat):decide (p.num*(q.den:Int)<q.num*(p.den:Int))=decide (p<q):=by
 rw[decide_eq_decide,Rat.lt_iff]
structure Ask where
 nm:Str
 one:Nat
 other:Nat
 size:Rat
structure Ring where
 rooms:List Rat
 asks:List Ask
def Ring.n(R:Ring):Nat:=R.rooms.length
def askD(a:Ask):D:=.tup [.str a.nm,.int a.one,.int a.other,frD a.size]
def aR(R:Ring):D:=.tup [.lst (R.rooms.map frD),.lst (R.asks.map askD)]
theorem xm(q:Rat):(q.num:Rat)=q*(q.den:Rat):=by
 have h:=Rat.num_divInt_den q
 have hd:(q.den:Rat)≠0:=fun w=>by
  have:=Rat.natCast_pos.mpr q.den_pos
  rw[w]at this
  exact absurd this (by decide)
 rw[Rat.divInt_eq_div]at h
 have e:(((q.den:Nat):Int):Rat)=(q.den:Rat):=rfl
 rw[e]at h
 have e2:q*(q.den:Rat)=(q.num:Rat) / (q.den:Rat)*(q.den:Rat):=by rw[h]
 rw[e2,Rat.div_mul_cancel hd]
theorem ua{q:Rat}{V:Nat}(h0:0≤q)(hv:q<(V:Rat)):q.num.natAbs<V*q.den:=by
 have hd:(0:Rat)<(q.den:Rat):=Rat.natCast_pos.mpr q.den_pos
 have h1:q*(q.den:Rat)<(V:Rat)*(q.den:Rat):=Rat.mul_lt_mul_of_pos_right hv hd
 rw[← xm]at h1
 have h2:((q.num:Int):Rat)<(((V*q.den:Nat):Int):Rat):=by
  have e:(((V*q.den:Nat):Int):Rat)=(V:Rat)*(q.den:Rat):=by
   push_cast
   rfl
  rw[e];exact h1
 have h3:q.num<((V*q.den:Nat):Int):=Rat.intCast_lt_intCast.mp h2
 have h4:0≤q.num:=Rat.num_nonneg.mpr h0
 omega
theorem RB.of_val{q:Rat}{d v:Nat}(h0:0≤q)(hd:q.den<2^d)(hv:q<((2^v:Nat):Rat)):RB (v+d) q:=by
 refine⟨Nat.lt_of_lt_of_le (ua h0 hv) ?_,Nat.lt_of_lt_of_le hd (Nat.pow_le_pow_right (by decide) (by omega))⟩
 rw[Nat.pow_add]
 exact Nat.mul_le_mul_left _ (Nat.le_of_lt hd)
structure pP (n:Nat) (a:Ask):Prop where
 one:a.one<n
 other:a.other<n
 ne:a.one≠a.other
 size:0≤a.size
 lt:a.size<((2^300:Nat):Rat)
 nm:PyData.strOk a.nm=true
structure Ring.Ok (R:Ring):Prop where
 lo:2≤R.n
 hi:R.n≤12
 few:R.asks.length≤20
 room:∀q∈R.rooms,0<q∧RB 60 q
 ask:∀a∈R.asks,pP R.n a
 cd:∃D:Nat,0<D∧D<2^1240∧∀a∈R.asks,a.size.den∣D
theorem Ring.Ok.rb{R:Ring}(h:R.Ok){a:Ask}(ha:a∈R.asks):RB 1540 a.size:=by
 obtain⟨D,d0,d1,hd⟩:=h.cd
 exact RB.of_val (v:=300) (d:=1240) (h.ask a ha).size (Nat.lt_of_le_of_lt (Nat.le_of_dvd d0 (hd a ha)) d1) (h.ask a ha).lt
theorem rn{α:Type}{n:Nat}{f:α→D}:∀xs:List α,(∀x∈xs,okD n (f x)=true)→okDs n (xs.map f)=true
 |[],_=>rfl
 |x::xs,h=>by simp[okDs,h x List.mem_cons_self,rn xs fun y hy=>h y (List.mem_cons_of_mem _ hy)]
theorem D7(n:Nat)(q:Rat):okD (n+1) (frD q)=true:=by cases n<;>simp[frD,okD,okDs]
theorem Fs{n:Nat}{a:Ask}(h:pP n a):okD 2 (askD a)=true:=by simp[askD,okD,okDs,h.nm,D7]
theorem xn{R:Ring}(h:R.Ok):okD 4 (aR R)=true:=by
 simp only[aR,okD,okDs,Bool.and_true,Bool.and_eq_true]
 exact⟨rn _ fun q _=>D7 1 q,rn _ fun a ha=>Fs (h.ask a ha)⟩
theorem qw{R:Ring}(h:R.Ok):cO (aR R):=dH (xn h) (by decide)
theorem Ft{R:Ring}(h:R.Ok):eqD (aR R) (aR R)=true:=Cg (xn h)
def StOk(xs:List D):Prop:=∃(c sd:Int)(t:Bool),xs=[.int c,.int sd,.bl t]∧0≤sd∧sd<2147483647
theorem xq{t b g:Int}(h:b≠0)(e:g=bY t b):D.tup [.int (t.fdiv g),.int (b.fdiv g)]=frD (Rat.divInt t b):=by
 subst e
 rw[zD h,EO h]
 rfl
def denP(qs:List Rat):Nat:=(qs.map (·.den)).foldr (·*·) 1
theorem kJ:∀qs:List Rat,0<denP qs
 |[]=>Nat.one_pos
 |a::t=>Nat.mul_pos (den_pos a) (kJ t)
def sumQ(qs:List Rat):Rat:=qs.foldl (·+·) 0
theorem Ah(qs:List Rat):∀acc:Rat,qs.foldl (·+·) acc=acc+sumQ qs:=by
 unfold sumQ
 induction qs with
 |nil=>intro acc;simp[Rat.add_zero]
 |cons q qs ih=>intro acc;rw[List.foldl_cons,List.foldl_cons,ih,ih (0+q),Rat.zero_add,Rat.add_assoc]
theorem g7(q:Rat)(qs:List Rat):sumQ (q::qs)=q+sumQ qs:=by
 show(q::qs).foldl (·+·) 0=_
 rw[List.foldl_cons,Ah,Rat.zero_add]
theorem CH(as bs:List Rat):sumQ (as++bs)=sumQ as+sumQ bs:=by
 induction as with
 |nil=>rw[List.nil_append];show _=(0:Rat)+_;rw[Rat.zero_add]
 |cons a as ih=>rw[List.cons_append,g7,g7,ih,Rat.add_assoc]
theorem CI{xs:List D}{i:Int}{k:L→Prop}:opIx (.lst xs) (.int i) k=∃v,atI xs i=some v∧k (.d v):=rfl
theorem CJ{xs:List D}{i:Int}{k:L→Prop}:opIx (.tup xs) (.int i) k=∃v,atI xs i=some v∧k (.d v):=rfl
theorem CK{z:Str}{i:Int}{k:L→Prop}:opIx (.str z) (.int i) k=(z.length≤sizeLine∧∃c,atI z.cps.toList i=some c∧k (.d (.str ⟨#[c]⟩))):=rfl
theorem CL{R:Ring}{k:L→Prop}:opIx (aR R) (.int 0) k=k (.d (.lst (R.rooms.map frD))):=by
 show(∃v,atI _ _=some v∧_)=_
 simp only[vA,Option.some.injEq,exists_eq_left']
theorem CM{R:Ring}{k:L→Prop}:opIx (aR R) (.int 1) k=k (.d (.lst (R.asks.map askD))):=by
 show(∃v,atI _ _=some v∧_)=_
 simp only[vB,Option.some.injEq,exists_eq_left']
theorem Fu{a:Ask}{k:L→Prop}:opIx (askD a) (.int 0) k=k (.d (.str a.nm)):=by
 show(∃v,atI _ _=some v∧_)=_
 simp only[vA,Option.some.injEq,exists_eq_left']
theorem Fv{a:Ask}{k:L→Prop}:opIx (askD a) (.int 1) k=k (.d (.int a.one)):=by
 show(∃v,atI _ _=some v∧_)=_
 simp only[vB,Option.some.injEq,exists_eq_left']
theorem Fw{a:Ask}{k:L→Prop}:opIx (askD a) (.int 2) k=k (.d (.int a.other)):=by
 show(∃v,atI _ _=some v∧_)=_
 simp only[Hw,Option.some.injEq,exists_eq_left']
theorem Fx{a:Ask}{k:L→Prop}:opIx (askD a) (.int 3) k=k (.d (frD a.size)):=by
 show(∃v,atI _ _=some v∧_)=_
 simp only[Hx,Option.some.injEq,exists_eq_left']
theorem Hy{q:Rat}{k:L→Prop}:opIx (frD q) (.int 0) k=k (.d (.int q.num)):=by
 show(∃v,atI _ _=some v∧_)=_
 simp only[vA,Option.some.injEq,exists_eq_left']
theorem Hz{q:Rat}{k:L→Prop}:opIx (frD q) (.int 1) k=k (.d (.int (q.den:Int))):=by
 show(∃v,atI _ _=some v∧_)=_
 simp only[vB,Option.some.injEq,exists_eq_left']
theorem Ai(q:Rat):noL (frD q)=true:=by simp[frD,noL,noLs]
theorem eK{α:Type}{f:α→D}:∀(xs:List α),(∀x∈xs,noL (f x)=true)→noLs (xs.map f)=true
 |[],_=>rfl
 |x::xs,h=>by simp[noLs,h x List.mem_cons_self,eK xs fun y hy=>h y (List.mem_cons_of_mem _ hy)]
theorem nK(qs:List Rat):noLs (qs.map frD)=true:=eK _ fun q _=>Ai q
theorem Aj{α:Type}(f:α→Int)(xs:List α):noLs (xs.map fun x=>D.int (f x))=true:=eK _ fun _ _=>rfl
theorem Ak(R:Ring):R.rooms.length=R.n:=rfl
def wayS(w:Bool):Str:=if w then "on" else "back"
theorem xr:cO (.str "on"):=dH (n:=0) (by decide +kernel) (by decide)
theorem qx:cO (.str "back"):=dH (n:=0) (by decide +kernel) (by decide)
theorem ub(w:Bool):cO (.str (wayS w)):=by
 cases w
 ·
  exact qx
 ·
  exact xr
theorem HD(w:Bool):(wayS w="on")=(w=true):=by cases w <;> simp[wayS] <;> decide
theorem CN(w:Bool):(wayS w="back")=(w=false):=by cases w <;> simp[wayS] <;> decide
theorem Al{is:List Nat}{xs:List D}{ρ:Ev}{k:Ev→Prop}:dU is (.tup xs) ρ k=fU is xs ρ k:=rfl
theorem Am{is:List Nat}{a:Ask}{ρ:Ev}{k:Ev→Prop}:dU is (askD a) ρ k=fU is [.str a.nm,.int a.one,.int a.other,frD a.size] ρ k:=rfl
theorem CO{is:List Nat}{q:Rat}{ρ:Ev}{k:Ev→Prop}:dU is (frD q) ρ k=fU is [.int q.num,.int (q.den:Int)] ρ k:=rfl
theorem vD{xs:List D}{k:List D→Prop}:gR (.lst xs) k=k xs:=rfl
theorem vE{xs:List D}{k:List D→Prop}:gR (.tup xs) k=k xs:=rfl
theorem yp{q:Rat}{k:List D→Prop}:gR (frD q) k=k [.int q.num,.int (q.den:Int)]:=rfl
theorem An{xs:List D}{k:L→Prop}:bJ [.lst xs] k=k (.d (.int xs.length)):=rfl
theorem Ao{xs:List D}{k:L→Prop}:bJ [.tup xs] k=k (.d (.int xs.length)):=rfl
theorem Ap{x:Str}{k:L→Prop}:bJ [.str x] k=(x.length≤sizeLine∧k (.d (.int x.length))):=rfl
theorem CP{q:Rat}{k:L→Prop}:bJ [frD q] k=k (.d (.int 2)):=rfl
theorem yq{R:Ring}{k:L→Prop}:bJ [aR R] k=k (.d (.int 2)):=rfl
theorem Aq{a:Ask}{k:L→Prop}:bJ [askD a] k=k (.d (.int 4)):=rfl
theorem vF(q:Rat):isTy "tuple" (frD q)=true:=rfl
theorem vG(q:Rat):isTy "list" (frD q)=false:=rfl
theorem vH(q:Rat):isTy "int" (frD q)=false:=rfl
theorem ud(q:Rat):isTy "bool" (frD q)=false:=rfl
theorem vI(q:Rat):isTy "str" (frD q)=false:=rfl
theorem rp(R:Ring):isTy "tuple" (aR R)=true:=rfl
def frL(n:Nat)(f:Nat→Rat):List D:=(List.range n).map fun (t:Nat)=>frD (f t)
theorem Fy(n:Nat)(f:Nat→Rat):(frL n f).length=n:=by simp[frL]
theorem D8{n:Nat}{f:Nat→Rat}{t:Nat}(h:t<n):atI (frL n f) (t:Int)=some (frD (f t)):=by
 refine dS ?_
 unfold frL
 rw[List.getElem?_map,List.getElem?_range h]
 rfl
theorem Ar(n:Nat)(f:Nat→Rat):frL n f=((List.range n).map f).map frD:=by
 unfold frL
 rw[List.map_map]
 rfl
theorem CQ(n:Nat)(f:Nat→Rat):noLs (frL n f)=true:=by rw[Ar];exact nK _
def cutP(c:Nat×Nat):D:=.tup [.int (c.1:Int),.int (c.2:Int)]
theorem Fz{c:Nat×Nat}{k:L→Prop}:opIx (cutP c) (.int 0) k=k (.d (.int c.1)):=by
 show(∃v,atI _ _=some v∧_)=_
 simp only[vA,Option.some.injEq,exists_eq_left']
theorem FD{c:Nat×Nat}{k:L→Prop}:opIx (cutP c) (.int 1) k=k (.d (.int c.2)):=by
 show(∃v,atI _ _=some v∧_)=_
 simp only[vB,Option.some.injEq,exists_eq_left']
theorem FE(n:Nat)(c:Nat×Nat):okD (n+1) (cutP c)=true:=by cases n<;>simp[cutP,okD,okDs]
theorem As(c:Nat×Nat):noL (cutP c)=true:=by simp[cutP,noL,noLs]
theorem Au(c:Nat×Nat):cO (cutP c):=dH (FE 0 c) (by decide)
theorem FF(c d:Nat×Nat):eqD (cutP c) (cutP d)=decide (c=d):=by
 unfold cutP
 rw[zH,kC,kC,w9,oa,oa,Bool.and_true,← Bool.decide_and,decide_eq_decide]
 constructor
 ·
  rintro⟨h1,h2⟩
  exact Prod.ext (by omega) (by omega)
 ·
  rintro rfl;exact⟨rfl,rfl⟩
def gP(g:Rat×(Nat×Nat)):D:=.tup [frD g.1,cutP g.2]
theorem Ja{g:Rat×(Nat×Nat)}{k:L→Prop}:opIx (gP g) (.int 0) k=k (.d (frD g.1)):=by
 show(∃v,atI _ _=some v∧_)=_
 simp only[vA,Option.some.injEq,exists_eq_left']
theorem Jb{g:Rat×(Nat×Nat)}{k:L→Prop}:opIx (gP g) (.int 1) k=k (.d (cutP g.2)):=by
 show(∃v,atI _ _=some v∧_)=_
 simp only[vB,Option.some.injEq,exists_eq_left']
theorem CS(T:String):isTy T .non=(T == "NoneType"):=rfl
theorem FG(T:String)(b:Bool):isTy T (.bl b)=(T == "bool" ||T == "int"):=rfl
theorem CT(T:String)(i:Int):isTy T (.int i)=(T == "int"):=rfl
theorem CU(T:String)(x:Str):isTy T (.str x)=(T == "str"):=rfl
theorem CV(T:String)(xs:List D):isTy T (.tup xs)=(T == "tuple"):=rfl
theorem CW(T:String)(xs:List D):isTy T (.lst xs)=(T == "list"):=rfl
theorem yr(g:Rat×(Nat×Nat)):isTy "tuple" (gP g)=true:=rfl
theorem ue(c:Nat×Nat):isTy "tuple" (cutP c)=true:=rfl
theorem uf(a:Ask):isTy "tuple" (askD a)=true:=rfl
theorem Av{c:Nat×Nat}{k:L→Prop}:bJ [cutP c] k=k (.d (.int 2)):=rfl
theorem FH{c:Rat×(Nat×Nat)}{k:L→Prop}:bJ [gP c] k=k (.d (.int 2)):=rfl
theorem Aw(cs:List (Nat×Nat)):noLs (cs.map cutP)=true:=eK _ fun c _=>As c
end L2
namespace L2
open PySem PySem.Builtin.Str
theorem FI{x y:Str}(h:x.cps.toList=y.cps.toList):x=y:=by
 cases x;cases y
 exact congrArg Str.mk (Array.toList_inj.mp h)
theorem CY{x:Str}{j:Int}(h0:0≤j)(h2:j≤x.length):(Txt.slice x none (some j)).cps.toList=x.cps.toList.take j.toNat:=by
 have:=eq_of_beq (PyProof.Rows.slice_closes_toL h0 h2)
 rw[this]
 simp
theorem yt{x:Str}{i:Int}(h0:0≤i)(h2:i≤x.length):(Txt.slice x (some i) none).cps.toList=x.cps.toList.drop i.toNat:=by
 rw[PyProof.Rows.slice_from_eq h0 h2 rfl]
 have e:x.cps.toList.length=x.length:=by simp[Str.length]
 rw[List.take_of_length_le]
 rw[List.length_drop,e]
 omega
theorem kK(x y:Str):(x++y).cps.toList=x.cps.toList++y.cps.toList:=by
 show(x.cps++y.cps).toList=_
 simp
theorem iQ(x:Str):x.length=x.cps.toList.length:=by simp[Str.length]
def oo(c:Nat):Prop:=97≤c∧c≤122
structure NmOk (z:Str):Prop where
 lo:1≤z.cps.toList.length
 hi:z.cps.toList.length≤8
 let_:∀c∈z.cps.toList,oo c
theorem NmOk.ok{z:Str}(h:NmOk z):PyData.strOk z=true:=by
 unfold PyData.strOk
 rw[← Array.all_toList,List.all_eq_true]
 intro c hc
 have:=h.let_ c hc
 unfold oo at this
 simp
 omega
def rq:Str:="abcdefghijklmnopqrstuvwxyz"
theorem ug:rq.cps.toList=(List.range 26).map (·+97):=by decide
theorem qy{i:Int}(h0:0≤i)(h1:i<26):atI rq.cps.toList i=some (i.toNat+97):=by
 refine D4 h0 ?_
 rw[ug,List.getElem?_map,List.getElem?_range (by omega)]
 rfl
theorem qz:∀(zs:List Str),(Str.join "" zs).cps.toList=(zs.map fun z=>z.cps.toList).flatten
 |[]=>rfl
 |[x]=>by simp[Str.join]
 | x::y::r=>by
  have ih:=qz (y::r)
  show(x++("" : Str)++Str.join "" (y::r)).cps.toList=_
  rw[kK,kK,ih]
  show x.cps.toList++[]++_=_
  simp
theorem CZ(zs:List Str):(Txt.join "" zs).cps.toList=(zs.map fun z=>z.cps.toList).flatten:=by
 rw[eq_of_beq (PyProof.Rows.join_closes (sep:="") (sep':="") (ys:=zs) rfl),qz]
theorem uh:∀cs:List Nat,(cs.map fun c=>[c]).flatten=cs
 |[]=>rfl
 |c::cs=>by rw[List.map_cons,List.flatten_cons,uh cs];rfl
theorem lN(cs:List Nat):(Txt.join "" (cs.map fun c=>(⟨#[c]⟩:Str))).cps.toList=cs:=by
 rw[CZ,List.map_map]
 exact uh cs
theorem xt:∀cs:List Nat,((cs.map fun c=>(⟨#[c]⟩:Str)).map (·.length)).sum=cs.length
 |[]=>rfl
 | c::cs=>by
  rw[List.map_cons,List.map_cons,List.sum_cons,xt cs,List.length_cons]
  show 1+_=_
  omega
def nameAt(b:Str)(p t k:Nat):Str:=⟨(b.cps.toList.take p++[(t+k) % 26+97]++b.cps.toList.drop (p+1)).toArray⟩
theorem Ax{b:Str}{p t k:Nat}(h:NmOk b)(hp:p<b.cps.toList.length):NmOk (nameAt b p t k):=by
 have e:(nameAt b p t k).cps.toList=b.cps.toList.take p++[(t+k) % 26+97]++b.cps.toList.drop (p+1):=by simp[nameAt]
 have l:(b.cps.toList.take p++[(t+k) % 26+97]++b.cps.toList.drop (p+1)).length=b.cps.toList.length:=by
  rw[List.length_append,List.length_append,List.length_take,List.length_drop,List.length_singleton]
  omega
 refine⟨by rw[e,l];exact h.lo,by rw[e,l];exact h.hi,fun c hc=>?_⟩
 rw[e]at hc
 rcases List.mem_append.mp hc with hc|hc
 ·
  rcases List.mem_append.mp hc with hc|hc
  ·
   exact h.let_ c (List.mem_of_mem_take hc)
  ·
   rw[List.mem_singleton.mp hc]
   unfold oo
   have:=Nat.mod_lt (t+k) (y:=26) (by decide)
   omega
 ·
  exact h.let_ c (List.mem_of_mem_drop hc)
theorem yu{b:Str}{p t j k:Nat}(hp:p<b.cps.toList.length)(hj:j<26)(hk:k<26)(h:nameAt b p t j=nameAt b p t k):j=k:=by
 have e:b.cps.toList.take p++[(t+j) % 26+97]++b.cps.toList.drop (p+1)=b.cps.toList.take p++[(t+k) % 26+97]++b.cps.toList.drop (p+1):=by
  have:=congrArg (fun z:Str=>z.cps.toList) h
  simpa[nameAt]using this
 rw[List.append_assoc,List.append_assoc]at e
 have e2:=List.append_cancel_left e
 have e3:=(List.cons.inj e2).1
 omega
theorem ui{α β:Type}{f:α→β}:∀{xs:List α},xs.Nodup→(∀x∈xs,∀y∈xs,f x=f y→x=y)→(xs.map f).Nodup
 |[],_,_=>List.nodup_nil
 | x::xs,hn,h=>by
  rw[List.map_cons,List.nodup_cons]
  obtain⟨h1,h2⟩:=List.nodup_cons.mp hn
  refine⟨fun hm=>?_,ui h2 fun a ha b hb=>h a (List.mem_cons_of_mem _ ha) b (List.mem_cons_of_mem _ hb)⟩
  obtain⟨y,hy,e⟩:=List.mem_map.mp hm
  have:=h y (List.mem_cons_of_mem _ hy) x List.mem_cons_self e
  rw[this]at hy
  exact h1 hy
theorem C0{q:Rat}(h:RB 60 q):q<((2^300:Nat):Rat):=by
 have h1:=xm q
 have hd:(1:Rat)≤(q.den:Rat):=by
  have:=q.den_pos
  exact_mod_cast this
 have h2:(q.num:Rat)<((2^300:Nat):Rat):=by
  have h3:q.num<((2^300:Nat):Int):=by
   have:=Nat.lt_of_lt_of_le h.1 (Nat.pow_le_pow_right (show 0<2 by decide) (show 60≤300 by decide))
   omega
  exact Rat.intCast_lt_intCast.mpr h3
 have hV:(0:Rat)<((2^300:Nat):Rat):=Rat.natCast_pos.mpr (Nat.pow_pos (by decide))
 generalize ((2^300:Nat):Rat)=V at *
 refine Rat.not_le.mp fun hq=>?_
 have h4:V*1≤q*(q.den:Rat):=Rat.le_trans (Rat.mul_le_mul_of_nonneg_left hd (Rat.le_of_lt hV)) (Rat.mul_le_mul_of_nonneg_right hq (by grind))
 rw[← h1]at h4
 grind
def denL:List Ask→Nat
 |[]=>1
 |a::as=>a.size.den*denL as
theorem xu:∀as,0<denL as
 |[]=>Nat.one_pos
 |a::as=>Nat.mul_pos a.size.den_pos (xu as)
theorem Ay:∀{as:List Ask},(∀a∈as,RB 60 a.size)→denL as≤2^(60*as.length)
 |[],_=>Nat.le_refl 1
 | a::as,h=>by
  have h1:=(h a List.mem_cons_self).2
  have h2:=Ay (as:=as) fun p hp=>h p (List.mem_cons_of_mem _ hp)
  show a.size.den*denL as≤2^(60*(as.length+1))
  rw[Nat.mul_add,Nat.mul_one,Nat.pow_add,Nat.mul_comm (2^_)]
  exact Nat.mul_le_mul (Nat.le_of_lt h1) h2
theorem xv:∀{as:List Ask}{a:Ask},a∈as→a.size.den∣denL as
 | b::as,a,h=>by
  rcases List.mem_cons.mp h with rfl|h
  ·
   exact Nat.dvd_mul_right _ _
  ·
   exact Nat.dvd_trans (xv h) (Nat.dvd_mul_left _ _)
theorem Jc{as:List Ask}(h:∀a∈as,RB 60 a.size)(hl:as.length≤20):∃D:Nat,0<D∧D<2^1240∧∀a∈as,a.size.den∣D:=by
 refine⟨denL as,xu as,Nat.lt_of_le_of_lt (Ay h) (Nat.pow_lt_pow_right (by decide) (by omega)),fun a ha=>xv ha⟩
end L2
namespace L2
open PySem
def onL(n i j:Nat):List Nat:=(List.range ((j+n-i) % n)).map fun s=>(i+s) % n
def FJ(n i j:Nat):List Nat:=(List.range ((i+n-j) % n)).map fun s=>(i+n-1-s) % n
def wayL(n:Nat)(a:Ask)(w:Bool):List Nat:=if w then onL n a.one a.other else FJ n a.one a.other
theorem Az{n i j:Nat}(hi:i<n)(hj:j<n):(((j:Int)-i).fmod n)=(((j+n-i) % n:Nat):Int):=by
 rw[Int.fmod_eq_emod_of_nonneg _ (by omega)]
 have e:((j:Int)-i) % n=((j:Int)-i+n) % n:=(Int.add_emod_right _ _).symm
 rw[e]
 have:(j:Int)-i+n=((j+n-i:Nat):Int):=by omega
 rw[this]
 exact(Int.natCast_emod _ _).symm
theorem C1{n i s:Nat}:(((i:Int)+s).fmod n)=(((i+s) % n:Nat):Int):=by
 rw[Int.fmod_eq_emod_of_nonneg _ (by omega),Int.natCast_emod,Int.natCast_add]
def far(n i j:Nat):Nat:=(j+n-i) % n
theorem kL{x n:Nat}(h:x<2*n):x % n=if x<n then x else x-n:=by
 by_cases hx:x<n
 ·
  rw[if_pos hx,Nat.mod_eq_of_lt hx]
 ·
  rw[if_neg hx,Nat.mod_eq_sub_mod (by omega),Nat.mod_eq_of_lt (by omega)]
theorem oq{n i j:Nat}(hi:i<n)(hj:j<n):far n i j=if i≤j then j-i else j+n-i:=by
 unfold far
 rw[kL (by omega)]
 split<;>split<;>omega
theorem HE(n i j:Nat):(onL n i j).length=far n i j:=by simp[onL,far]
theorem AA{n i j:Nat}(hn:0<n):far n i j<n:=Nat.mod_lt _ hn
theorem xx{n i s:Nat}(hi:i<n)(hs:s<n):far n i ((i+s) % n)=s:=by
 have h1:=Nat.mod_lt (i+s) (y:=n) (by omega)
 rw[oq hi h1,kL (by omega)]
 split<;>split<;>omega
theorem xy{n i t:Nat}(hi:i<n)(ht:t<n):(i+far n i t) % n=t:=by
 have h1:=AA (n:=n) (i:=i) (j:=t) (by omega)
 rw[kL (by omega),oq hi ht]
 split<;>split<;>omega
theorem FK{n i j:Nat}(hi:i<n)(hj:j<n)(h:i≠j):far n i j+far n j i=n:=by
 rw[oq hi hj,oq hj hi]
 split<;>split<;>omega
theorem HF{n i j t:Nat}(hi:i<n):t∈onL n i j↔t<n∧far n i t<far n i j:=by
 constructor
 ·
  intro h
  obtain⟨s,hs,rfl⟩:=List.mem_map.mp h
  have hs:s<far n i j:=List.mem_range.mp hs
  have:=AA (n:=n) (i:=i) (j:=j) (by omega)
  exact⟨Nat.mod_lt _ (by omega),by rw[xx hi (by omega)];exact hs⟩
 ·
  rintro⟨ht,h⟩
  exact List.mem_map.mpr ⟨far n i t,List.mem_range.mpr h,xy hi ht⟩
theorem AB{n i s:Nat}(hi:i<n)(hs:s<n):(i+n-1-s) % n=(i+(n-1-s)) % n:=by
 congr 1
 omega
theorem C2{n i j t:Nat}(hi:i<n)(hj:j<n)(hij:i≠j):t∈FJ n i j↔t<n∧¬far n i t<far n i j:=by
 have hsum:=FK hi hj hij
 constructor
 ·
  intro h
  obtain⟨s,hs,rfl⟩:=List.mem_map.mp h
  have hs:s<far n j i:=List.mem_range.mp hs
  refine⟨Nat.mod_lt _ (by omega),?_⟩
  rw[AB hi (by omega),xx hi (by omega)]
  omega
 ·
  rintro⟨ht,h⟩
  have:=AA (n:=n) (i:=i) (j:=t) (by omega)
  refine List.mem_map.mpr ⟨n-1-far n i t,List.mem_range.mpr (show _<far n j i by omega),?_⟩
  rw[AB hi (by omega)]
  have e:n-1-(n-1-far n i t)=far n i t:=by omega
  rw[e,xy hi ht]
def isOn(n:Nat)(a:Ask)(t:Nat):Bool:=decide (far n a.one t<far n a.one a.other)
theorem FL{n:Nat}{a:Ask}(h:pP n a)(w:Bool){t:Nat}(ht:t<n):t∈wayL n a w↔(isOn n a t == w)=true:=by
 have h1:=h.one
 have h2:=h.other
 cases w
 ·
  show t∈FJ n a.one a.other↔_
  rw[C2 h1 h2 h.ne]
  simp[isOn,ht]
 ·
  show t∈onL n a.one a.other↔_
  rw[HF h1]
  simp[isOn,ht]
theorem xA(t:Nat):∀(T:List Nat),inF (.int (t:Int)) (T.map fun (s:Nat)=>D.int (s:Int))=decide (t∈T)
 |[]=>rfl
 | s::T=>by
  have ih:=xA t T
  unfold inF at ih ⊢
  rw[List.map_cons,List.any_cons,ih]
  show(eqF (.int (s:Int)) (.int (t:Int)) ||_)=_
  have e:eqF (.int (s:Int)) (.int (t:Int))=decide (t=s):=by
   show decide ((s:Int)=(t:Int))=_
   rw[decide_eq_decide];omega
  rw[e]
  simp[Bool.decide_or]
theorem AC(T:List Nat):(T.map fun (s:Nat)=>D.int (s:Int)).all n8=true:=by
 rw[List.all_eq_true]
 intro x hx
 obtain⟨s,_,rfl⟩:=List.mem_map.mp hx
 rfl
theorem RB.sum{b:Nat}:∀(qs:List Rat),(∀q∈qs,RB b q)→RB (1+(b+1)*qs.length) (sumQ qs)
 |[],_=>RB.mono (m:=1) ⟨by decide,by decide⟩ (by omega)
 | q::qs,h=>by
  have ih:=RB.sum qs fun z hz=>h z (List.mem_cons_of_mem _ hz)
  rw[g7]
  refine((h q List.mem_cons_self).add ih).mono ?_
  rw[List.length_cons,Nat.mul_succ]
  omega
theorem vJ{b:Nat}:∀(qs:List Rat),(∀q∈qs,RB b q)→denP qs≤2^(b*qs.length)
 |[],_=>Nat.le_refl 1
 | q::qs,h=>by
  have ih:=vJ qs fun z hz=>h z (List.mem_cons_of_mem _ hz)
  show q.den*denP qs≤_
  refine Nat.le_trans (Nat.mul_le_mul (Nat.le_of_lt (h q List.mem_cons_self).2) ih) ?_
  rw[← Nat.pow_add,List.length_cons,Nat.mul_succ]
  exact Nat.pow_le_pow_right (by decide) (by omega)
theorem rA:sumQ []=0:=rfl
theorem uj(qs:List Rat)(q:Rat):sumQ (qs++[q])=sumQ qs+q:=by
 rw[CH,g7,rA,Rat.add_zero]
def sent(n:Nat)(a:Ask)(p:Rat)(t:Nat):Rat:=if isOn n a t then p else a.size-p
def eF(n:Nat)(as:List Ask)(ps:List Rat)(t:Nat):Rat:=sumQ ((as.zip ps).map fun x=>sent n x.1 x.2 t)
structure Jd (R:Ring) (ps:List Rat) (c:Nat):Prop where
 len:ps.length=R.asks.length
 lo:∀x∈R.asks.zip ps,0≤x.2∧x.2≤x.1.size
 rb:∀p∈ps,RB c p
theorem iR{α β:Type}(as:List α)(bs:List β)(k:Nat):(as.zip bs).take k=(as.take k).zip (bs.take k):=by
 unfold List.zip
 exact List.take_zipWith
theorem C3{α β:Type}{as:List α}{bs:List β}{k:Nat}(h1:k<as.length)(h2:k<bs.length):(as.take (k+1)).zip (bs.take (k+1))=(as.take k).zip (bs.take k)++[(as[k],bs[k])]:=by
 rw[← iR,← iR,List.take_succ,List.getElem?_eq_getElem (by rw[List.length_zip];omega),List.getElem_zip]
 rfl
theorem yv{n:Nat}{as:List Ask}{ps:List Rat}{k:Nat}(h1:k<as.length)(h2:k<ps.length)(t:Nat):eF n (as.take (k+1)) (ps.take (k+1)) t=eF n (as.take k) (ps.take k) t+sent n as[k] ps[k] t:=by
 unfold eF
 rw[C3 h1 h2,List.map_append]
 exact uj _ _
theorem AD{α β:Type}{xs:List α}{f:α→β}(n:Nat)(h:xs.length=n)(g:Nat→β)(hg:∀k (hk:k<xs.length),g k=f xs[k]):(List.range n).map g=xs.map f:=by
 subst h
 refine List.ext_getElem (by simp) fun j h1 h2=>?_
 simp only[List.getElem_map,List.getElem_range]
 exact hg j (by simpa using h2)
def i8(c:Nat×Nat)(p:Nat):Bool:=decide (c.1<p∧p≤c.2)
def apart(c:Nat×Nat)(i j:Nat):Bool:=i8 c i != i8 c j
def FM(as:List Ask)(c:Nat×Nat):Rat:=sumQ ((as.filter fun a=>apart c a.one a.other).map (·.size))
def Ring.room(R:Ring)(t:Nat):Rat:=R.rooms.getD t 0
def HG(R:Ring)(c:Nat×Nat):Rat:=R.room c.1+R.room c.2
def Jz(R:Ring)(c:Nat×Nat):Rat:=FM R.asks c / HG R c
def rC(n:Nat)(c:Nat×Nat):Prop:=c.1≤c.2∧c.2<n
def ng(n:Nat):List (Nat×Nat):=(List.range n).flatMap fun g=>(List.range (n-g)).map fun i=>(g,g+i)
theorem rD{n:Nat}{c:Nat×Nat}:c∈ng n↔rC n c:=by
 unfold ng rC
 rw[List.mem_flatMap]
 constructor
 ·
  rintro⟨g,hg,h⟩
  obtain⟨i,hi,rfl⟩:=List.mem_map.mp h
  have:=List.mem_range.mp hg
  have:=List.mem_range.mp hi
  exact⟨Nat.le_add_right _ _,by show g+i<n;omega⟩
 ·
  rintro⟨h1,h2⟩
  exact⟨c.1,List.mem_range.mpr (by omega),List.mem_map.mpr ⟨c.2-c.1,List.mem_range.mpr (by omega),by ext<;>simp;omega⟩⟩
theorem xB{n:Nat}(h:n≤12):(ng n).length≤200:=by
 have:∀m:Fin 13,(ng m.1).length≤200:=by decide
 exact this ⟨n,by omega⟩
theorem FN{R:Ring}{t:Nat}(h:t<R.n):atI (R.rooms.map frD) (t:Int)=some (frD (R.room t)):=by
 have h':t<R.rooms.length:=h
 rw[cB h']
 unfold Ring.room
 rw[List.getD_eq_getElem?_getD,List.getElem?_eq_getElem h']
 rfl
theorem g8{R:Ring}(hR:R.Ok){t:Nat}(h:t<R.n):0<R.room t∧RB 60 (R.room t):=by
 have h':t<R.rooms.length:=h
 unfold Ring.room
 rw[List.getD_eq_getElem?_getD,List.getElem?_eq_getElem h']
 exact hR.room _ (List.getElem_mem h')
theorem yw{q:Rat}{D:Nat}{z:Int}(h0:0<D)(e:q*(D:Rat)=(z:Rat)):q.den∣D:=by
 have hQ:(D:Rat)≠0:=fun w=>by
  have:=Rat.natCast_pos.mpr h0
  rw[w]at this
  exact absurd this (by decide)
 have e2:q=Rat.divInt z (D:Int):=by
  rw[Rat.divInt_eq_div]
  have:((D:Int):Rat)=(D:Rat):=rfl
  rw[this,← e,Rat.mul_div_cancel hQ]
 rw[e2]
 have:=Rat.den_divInt z (D:Int)
 rw[this,if_neg (by omega),Int.natAbs_natCast]
 exact Nat.div_dvd_of_dvd (Nat.gcd_dvd_left _ _)
theorem qC{q:Rat}{D:Nat}(h:q.den∣D):∃z:Int,q*(D:Rat)=(z:Rat):=by
 obtain⟨m,rfl⟩:=h
 refine⟨q.num*(m:Int),?_⟩
 rw[Rat.intCast_mul,xm]
 have e1:((m:Int):Rat)=(m:Rat):=rfl
 have e2:((q.den*m:Nat):Rat)=(q.den:Rat)*(m:Rat):=Rat.natCast_mul _ _
 rw[e1,e2,Rat.mul_assoc]
theorem FO{p q:Rat}{D:Nat}(h0:0<D)(hp:p.den∣D)(hq:q.den∣D):(p+q).den∣D:=by
 obtain⟨a,ha⟩:=qC hp
 obtain⟨b,hb⟩:=qC hq
 exact yw (z:=a+b) h0 (by rw[Rat.add_mul,ha,hb,Rat.intCast_add])
def HH(qs:List Rat):Prop:=denP qs<2^9000∨∃D:Nat,0<D∧D<2^4400∧∀q∈qs,q.den∣D
def bh(R:Ring)(ps:List Rat)(t:Nat):Rat:=eF R.n R.asks ps t / R.room t
def topI(n:Nat)(f:Nat→Rat):Nat:=(List.range n).foldl (fun b t=>if f b<f t then t else b) 0
theorem xC(f:Nat→Rat):∀(ts:List Nat)(b:Nat),(∀t∈ts,f t≤f (ts.foldl (fun b t=>if f b<f t then t else b) b))∧f b≤f (ts.foldl (fun b t=>if f b<f t then t else b) b)∧(ts.foldl (fun b t=>if f b<f t then t else b) b=b∨ts.foldl (fun b t=>if f b<f t then t else b) b∈ts)
 |[],b=>⟨fun t ht=>by simp at ht,Rat.le_refl,.inl rfl⟩
 | s::ts,b=>by
  obtain⟨h1,h2,h3⟩:=xC f ts (if f b<f s then s else b)
  rw[List.foldl_cons]
  have g:f b≤f (if f b<f s then s else b)∧f s≤f (if f b<f s then s else b):=by
   split
   ·
    rename_i h;exact⟨Rat.le_of_lt h,Rat.le_refl⟩
   ·
    rename_i h;exact⟨Rat.le_refl,Rat.not_lt.mp h⟩
  refine⟨fun t ht=>?_,Rat.le_trans g.1 h2,?_⟩
  ·
   rcases List.mem_cons.mp ht with rfl|ht
   ·
    exact Rat.le_trans g.2 h2
   ·
    exact h1 t ht
  ·
   rcases h3 with h3|h3
   ·
    rw[h3]
    split
    ·
     exact .inr List.mem_cons_self
    ·
     exact .inl rfl
   ·
    exact .inr (List.mem_cons_of_mem _ h3)
theorem vK{n:Nat}(hn:0<n)(f:Nat→Rat):topI n f<n∧∀t,t<n→f t≤f (topI n f):=by
 obtain⟨h1,_,h3⟩:=xC f (List.range n) 0
 refine⟨?_,fun t ht=>h1 t (List.mem_range.mpr ht)⟩
 rcases h3 with h3|h3
 ·
  unfold topI;rw[h3];exact hn
 ·
  exact List.mem_range.mp h3
theorem FP(n:Nat)(f:Nat→Rat):gW (frL n f)=(List.range n).map fun (t:Nat)=>D.tup [.int (t:Int),frD (f t)]:=by
 unfold gW frL
 refine List.ext_getElem (by simp) fun j h1 h2=>?_
 simp
theorem C4(R:Ring):R.rooms.map frD=frL R.n R.room:=by
 rw[Ar]
 congr 1
 refine List.ext_getElem (by simp[Ring.n]) fun j h1 h2=>?_
 simp[Ring.room,h1]
theorem FQ(n:Nat)(f g:Nat→Rat):zipD (frL n f) (frL n g)=(List.range n).map fun (t:Nat)=>D.tup [frD (f t),frD (g t)]:=by
 unfold zipD frL
 refine List.ext_getElem (by simp) fun j h1 h2=>?_
 simp
theorem AE{n : Nat}{a : Ask}(h : pP n a){t : Nat}(ht : t<n) : isOn n a t = ((decide (a.one ≤ t) != decide (a.other ≤ t)) != decide (a.other<a.one)) := by
  have h1 := h.one
  have h2 := h.other
  have hne := h.ne
  unfold isOn
  rw[oq h1 ht, oq h1 h2]
  by_cases a1 : a.one ≤ t<;>by_cases a2 : a.other ≤ t<;>by_cases a3 : a.other<a.one<;>by_cases a4 : a.one ≤ a.other
  all_goals
    simp only[a1, a2, a3, a4, if_true, if_false, decide_true, decide_false]
  all_goals first
    |omega
    | (first
        |(rw[decide_eq_true (by omega)];rfl)
        |(rw[decide_eq_false (by omega)];rfl))
theorem AF{n:Nat}{a:Ask}(h:pP n a){c:Nat×Nat}(hc:rC n c):apart c a.one a.other=(isOn n a c.1 != isOn n a c.2):=by
 have h1:=hc.1
 have h2:=hc.2
 rw[AE h (by omega),AE h h2]
 unfold apart i8
 have e:∀p:Nat,decide (c.1<p∧p≤c.2)=(decide (p≤c.1) != decide (p≤c.2)):=fun p=>by
  by_cases q1:p≤c.1<;>by_cases q2:p≤c.2
  ·
   rw[decide_eq_false (by omega)];simp[q1,q2]
  ·
   omega
  ·
   rw[decide_eq_true (by omega)];simp[q1,q2]
  ·
   rw[decide_eq_false (by omega)];simp[q1,q2]
 rw[e,e]
 cases decide (a.one≤c.1)<;>cases decide (a.one≤c.2)<;>cases decide (a.other≤c.1)<;>cases decide (a.other≤c.2)<;>cases decide (a.other<a.one)<;>rfl
def Ring.sz(R:Ring)(k:Nat):Rat:=(R.asks.map (·.size)).getD k 0
theorem mD(t:Int){b:Int}(hb:0<b):∃m:Int,0<m∧t=(Rat.divInt t b).num*m∧b=((Rat.divInt t b).den:Int)*m:=by
 obtain⟨m,m0,e1,e2⟩:=Rat.divInt_num_den (d:=b) (n:=t) (n':=(Rat.divInt t b).num) (d':=(Rat.divInt t b).den) (z':=(Rat.divInt t b).den_nz) (c:=(Rat.divInt t b).reduced) (by omega) rfl
 refine⟨m,?_,e1,e2⟩
 have hd:=den_pos (Rat.divInt t b)
 have h3:0<((Rat.divInt t b).den:Int)*m:=by rw[← e2];exact hb
 exact Int.pos_of_mul_pos_right h3 (by omega)
theorem rE{t b:Int}{l:Rat}(hb:0<b):Rat.divInt t b<l↔t*(l.den:Int)<l.num*b:=by
 obtain⟨m,hm,e1,e2⟩:=mD t hb
 generalize Rat.divInt t b=p at e1 e2
 rw[Rat.lt_iff,e1,e2]
 have q1:p.num*m*(l.den:Int)=p.num*(l.den:Int)*m:=by rw[Int.mul_assoc,Int.mul_comm m,← Int.mul_assoc]
 have q2:l.num*((p.den:Int)*m)=l.num*(p.den:Int)*m:=by rw[Int.mul_assoc]
 rw[q1,q2]
 exact(Int.mul_lt_mul_right hm).symm
end L2
namespace My
open PySem L2
def bQ(R:Ring)(j:Nat):Ask:=(R.asks[j]?).getD ⟨"",0,0,0⟩
def onA(R:Ring)(j t:Nat):Bool:=isOn R.n (bQ R j) t
def dI(R:Ring)(w:Nat→Int)(k g h:Nat):Int:=((List.range (R.asks.length-k)).map fun i=>if onA R (k+i) g != onA R (k+i) h then w (k+i)else 0).sum
theorem nL{R:Ring}(hR:R.Ok){j:Nat}(h:j<R.asks.length):pP R.n (bQ R j):=by
 unfold bQ
 rw[List.getElem?_eq_getElem h]
 exact hR.ask _ (List.getElem_mem h)
theorem eL{R:Ring}{j:Nat}(h:j<R.asks.length):bQ R j=R.asks[j]:=by
 unfold bQ
 rw[List.getElem?_eq_getElem h]
 rfl
def JA(R:Ring)(w f:Nat→Int)(k:Nat):Prop:=∀g h,g<R.n→h<R.n→dI R w k g h≤f g+f h∧(f g+f h-dI R w k g h) % 2=0
def Je(R:Ring)(w f:Nat→Int)(k:Nat)(p:Int)(t:Nat):Int:=f t-if onA R k t then p else w k-p
def mnI(i j:Int):Int:=if j<i then j else i
def onT(R:Ring)(k:Nat):List Nat:=(PySem.W.sortI ((wayL R.n (bQ R k) true).map fun (t:Nat)=>(t:Int))).map Int.toNat
def valI(R:Ring)(w f:Nat→Int)(k g h:Nat):Int:=f g+f h-dI R w (k+1) g h
def HI(R:Ring)(w f:Nat→Int)(k:Nat)(acc:Int)(g:Nat)(hs:List Nat):Int:=hs.foldl (fun t h=>if decide (g≤h)then mnI t (valI R w f k g h)else t) acc
def HJ(R:Ring)(w f:Nat→Int)(k:Nat)(gs:List Nat):Int:=gs.foldl (fun t g=>HI R w f k t g (onT R k)) (2*w k)
def HK(R:Ring)(w f:Nat→Int)(k:Nat):Int:=(HJ R w f k (onT R k)).fdiv 2
def fAt(R:Ring)(w f:Nat→Int):Nat→Nat→Int
 |0=>f
 |k+1=>Je R w (fAt R w f k) k (HK R w (fAt R w f k) k)
def pAt(R:Ring)(w f:Nat→Int)(k:Nat):Int:=HK R w (fAt R w f k) k
theorem FR{t b:Int}(h:b≠0):(Rat.divInt t b).den∣b.natAbs:=by
 rw[Rat.den_divInt,if_neg h]
 exact Nat.div_dvd_of_dvd (by rw[Int.gcd];exact Nat.gcd_dvd_left _ _)
theorem vL(p q:Rat):(p*q).den∣p.den*q.den:=by
 have e:p*q=Rat.divInt (p.num*q.num) ((p.den:Int)*q.den):=by
  rw[← Rat.divInt_mul_divInt,Rat.num_divInt_den,Rat.num_divInt_den]
 rw[e]
 have:=FR (t:=p.num*q.num) (b:=(p.den:Int)*q.den) (Int.mul_ne_zero (lM _) (lM _))
 rwa [Int.natAbs_mul,Int.natAbs_natCast,Int.natAbs_natCast]at this
theorem C5(q:Rat):(q.num:Rat)=q*(q.den:Rat):=by
 have h:((q.den:Int):Rat)≠0:=fun e=>lM q (by
  have:((q.den:Int):Rat)=((0:Int):Rat):=e
  exact Rat.intCast_inj.mp this)
 have e:q=(q.num:Rat) / ((q.den:Int):Rat):=by
  conv=>lhs;rw[← Rat.num_divInt_den q,Rat.divInt_eq_div]
 have:=Rat.div_mul_cancel (a:=(q.num:Rat)) h
 rw[← e]at this
 exact this.symm
def cbN(qs:List Rat):Nat:=qs.foldl (fun b q=>Nat.lcm b q.den) 1
theorem vM:∀(qs:List Rat)(b:Nat),b∣qs.foldl (fun b q=>Nat.lcm b q.den) b∧(∀q∈qs,q.den∣qs.foldl (fun b q=>Nat.lcm b q.den) b)∧∀P,b∣P→(∀q∈qs,q.den∣P)→qs.foldl (fun b q=>Nat.lcm b q.den) b∣P
 |[],b=>⟨Nat.dvd_refl _,fun q hq=>by simp at hq,fun P h _=>h⟩
 | q::qs,b=>by
  obtain⟨h1,h2,h3⟩:=vM qs (Nat.lcm b q.den)
  rw[List.foldl_cons]
  refine⟨Nat.dvd_trans (Nat.dvd_lcm_left _ _) h1,fun p hp=>?_,fun P hb hP=>h3 P (Nat.lcm_dvd hb (hP q List.mem_cons_self)) fun p hp=>hP p (List.mem_cons_of_mem _ hp)⟩
  rcases List.mem_cons.mp hp with rfl|hp
  ·
   exact Nat.dvd_trans (Nat.dvd_lcm_right _ _) h1
  ·
   exact h2 p hp
theorem xD{qs:List Rat}{q:Rat}(h:q∈qs):q.den∣cbN qs:=(vM qs 1).2.1 q h
theorem C6{qs:List Rat}{P:Nat}(h:∀q∈qs,q.den∣P):cbN qs∣P:=(vM qs 1).2.2 P (Nat.one_dvd _) h
def dn(u:Nat)(q:Rat):Int:=q.num*((u / q.den:Nat):Int)
theorem ou{u:Nat}{q:Rat}(h:q.den∣u):((dn u q:Int):Rat)=q*(u:Rat):=by
 obtain⟨c,rfl⟩:=h
 unfold dn
 rw[Nat.mul_div_cancel_left _ (den_pos q),Rat.intCast_mul,C5,Rat.intCast_natCast,Rat.natCast_mul,Rat.mul_assoc]
theorem vN{u:Nat}{q:Rat}(h:0≤q):0≤dn u q:=Int.mul_nonneg (Rat.num_nonneg.mpr h) (Int.natCast_nonneg _)
def jc(R:Ring):List Rat:=R.asks.map (·.size)
def pQ(R:Ring)(q:Rat):List Rat:=R.rooms.map fun r=>q*r
def cbR(R:Ring)(q:Rat):Nat:=cbN (jc R++pQ R q)
def bq(R:Ring)(q:Rat):Nat:=2*cbR R q
def wI(R:Ring)(q:Rat)(j:Nat):Int:=dn (bq R q) (bQ R j).size
def f0I(R:Ring)(q:Rat)(t:Nat):Int:=dn (bq R q) (q*R.room t)
theorem C7{R:Ring}{j:Nat}(h:j<R.asks.length)(q:Rat):(bQ R j).size.den∣cbR R q:=by
 refine xD (List.mem_append_left _ (List.mem_map.mpr ⟨bQ R j,?_,rfl⟩))
 rw[eL h]
 exact List.getElem_mem h
theorem C8{R:Ring}{t:Nat}(h:t<R.n):R.room t∈R.rooms:=by
 unfold Ring.room
 have h':t<R.rooms.length:=h
 rw[List.getD_eq_getElem?_getD,List.getElem?_eq_getElem h']
 exact List.getElem_mem h'
theorem C9{R:Ring}{t:Nat}(h:t<R.n)(q:Rat):(q*R.room t).den∣cbR R q :=
 xD (List.mem_append_right _ (List.mem_map.mpr ⟨R.room t,C8 h,rfl⟩))
theorem AG{a b:Nat}(h:a∣b):a∣2*b:=Nat.dvd_trans h (Nat.dvd_mul_left _ _)
theorem HL{R:Ring}{q:Rat}{j:Nat}(h:j<R.asks.length):((wI R q j:Int):Rat)=(bQ R j).size*(bq R q:Rat):=ou (AG (C7 h q))
theorem HM{R:Ring}{q:Rat}{t:Nat}(h:t<R.n):((f0I R q t:Int):Rat)=q*R.room t*(bq R q:Rat):=ou (AG (C9 h q))
theorem Da{R:Ring}(hR:R.Ok)(q:Rat):∀j,j<R.asks.length→0≤wI R q j:=fun j h=>vN (nL hR h).size
theorem rF:∀{qs:List Rat}{q:Rat},q∈qs→q.den∣denP qs
 | p::qs,q,h=>by
  show q.den∣p.den*denP qs
  rcases List.mem_cons.mp h with rfl|h
  ·
   exact Nat.dvd_mul_right _ _
  ·
   exact Nat.dvd_trans (rF h) (Nat.dvd_mul_left _ _)
theorem AH:∀{qs:List Rat},(∀q∈qs,RB 60 q)→denP qs≤2^(60*qs.length)
 |[],_=>Nat.le_refl 1
 | q::qs,h=>by
  have h1:=(h q List.mem_cons_self).2
  have h2:=AH fun p hp=>h p (List.mem_cons_of_mem _ hp)
  show q.den*denP qs≤2^(60*(qs.length+1))
  rw[Nat.mul_add,Nat.mul_one,Nat.pow_add,Nat.mul_comm (2^_)]
  exact Nat.mul_le_mul (Nat.le_of_lt h1) h2
theorem AI(R:Ring)(q:Rat):0<cbR R q:=by
 have hd:cbR R q∣denP (jc R++pQ R q):=C6 fun p hp=>rF hp
 exact Nat.pos_of_dvd_of_pos hd (kJ _)
theorem xE{R:Ring}(hR:R.Ok){q:Rat}(hq:RB 1750 q):0<bq R q∧bq R q<2^3750:=by
 obtain⟨D,d0,d1,hD⟩:=hR.cd
 have hd:cbR R q∣D*(q.den*denP R.rooms):=by
  refine C6 fun p hp=>?_
  rcases List.mem_append.mp hp with hp|hp
  ·
   obtain⟨a,ha,rfl⟩:=List.mem_map.mp hp
   exact Nat.dvd_trans (hD a ha) (Nat.dvd_mul_right _ _)
  ·
   obtain⟨r,hr,rfl⟩:=List.mem_map.mp hp
   refine Nat.dvd_trans (vL q r) (Nat.dvd_trans (Nat.mul_dvd_mul_left _ (rF hr)) (Nat.dvd_mul_left _ _))
 have h1:D≤2^1240:=Nat.le_of_lt d1
 have h2:denP R.rooms≤2^720:=by
  refine Nat.le_trans (AH fun p hp=>(hR.room p hp).2) (Nat.pow_le_pow_right (by decide) ?_)
  have:R.rooms.length≤12:=hR.hi
  omega
 have h3:q.den≤2^1750:=Nat.le_of_lt hq.2
 have h4:cbR R q≤D*(q.den*denP R.rooms):=Nat.le_of_dvd (Nat.mul_pos d0 (Nat.mul_pos (den_pos _) (kJ _))) hd
 have h5:D*(q.den*denP R.rooms)≤2^1240*(2^1750*2^720):=Nat.mul_le_mul h1 (Nat.mul_le_mul h3 h2)
 have h6:2^1240*(2^1750*2^720)=2^3710:=by rw[← Nat.pow_add,← Nat.pow_add]
 rw[h6]at h5
 have h0:=AI R q
 have h7:(2:Nat)^3711=2*2^3710:=by rw[Nat.pow_succ,Nat.mul_comm]
 have h8:(2:Nat)^3711<2^3750:=Nat.pow_lt_pow_right (by decide) (by decide)
 unfold bq
 refine⟨by omega,?_⟩
 generalize (2:Nat)^3750=z at *
 generalize (2:Nat)^3710=y at *
 generalize (2:Nat)^3711=x at *
 omega
theorem yx(R:Ring):R.asks=(List.range R.asks.length).map (bQ R):=by
 refine List.ext_getElem (by simp) fun j h1 h2=>?_
 rw[List.getElem_map,List.getElem_range,eL h1]
def pI(R:Ring)(q:Rat)(k:Nat):Int:=pAt R (wI R q) (f0I R q) k
def Jf(R:Ring)(q:Rat)(k:Nat):Rat:=Rat.divInt (pI R q k) (bq R q:Int)
def JB(R:Ring)(q:Rat):List Rat:=(List.range R.asks.length).map (Jf R q)
theorem t5{α β:Type}(f:Nat→α)(g:Nat→β)(m:Nat):((List.range m).map f).zip ((List.range m).map g)=(List.range m).map fun k=>(f k,g k):=by
 rw[List.zip_map']
def intL(n:Nat)(f:Nat→Int):List D:=(List.range n).map fun (t:Nat)=>D.int (f t)
theorem iS(n:Nat)(f:Nat→Int):(intL n f).length=n:=by simp[intL]
theorem fX{n:Nat}{f:Nat→Int}{t:Nat}(h:t<n):atI (intL n f) (t:Int)=some (.int (f t)):=by
 refine dS ?_
 unfold intL
 rw[List.getElem?_map,List.getElem?_range h]
 rfl
theorem AJ{a b:Nat}(h:0<b):((a:Int).fdiv (Int.gcd a b:Int))*(b:Int)=((Nat.lcm a b:Nat):Int):=by
 rw[Int.fdiv_eq_ediv_of_nonneg _ (by omega)]
 show((a:Int) / ((Nat.gcd a b:Nat):Int))*(b:Int)=_
 rw[← Int.natCast_ediv,← Int.natCast_mul,Nat.div_mul_right_comm (Nat.gcd_dvd_left a b)]
 rfl
theorem HN(R:Ring)(q:Rat):(jc R).map (fun p=>D.int (dn (bq R q) p))=intL R.asks.length (wI R q):=by
 unfold jc intL
 conv=>lhs;rw[yx R,List.map_map,List.map_map]
 rfl
theorem vO(R:Ring):R.rooms=(List.range R.n).map R.room:=by
 refine List.ext_getElem (by simp[Ring.n]) fun j h1 h2=>?_
 rw[List.getElem_map,List.getElem_range]
 unfold Ring.room
 rw[List.getD_eq_getElem?_getD,List.getElem?_eq_getElem h1]
 rfl
theorem HP(R:Ring)(q:Rat):(pQ R q).map (fun p=>D.int (dn (bq R q) p))=intL R.n (f0I R q):=by
 unfold pQ intL
 conv=>lhs;rw[vO R,List.map_map,List.map_map]
 rfl
end My
set_option exponentiation.threshold 2000
namespace L2
open PySem
end L2
set_option exponentiation.threshold 5000
namespace My
open PySem L2
structure LB (R:Ring) (ps:List Rat):Prop where
 p:∀p∈ps,RB 4100 p
 ld:∀k t,RB 4100 (eF R.n (R.asks.take k) (ps.take k) t)
 st:∀(k:Nat)(h1:k<R.asks.length)(h2:k<ps.length)(t:Nat),RB 4100 (sent R.n R.asks[k] ps[k] t)
 sm:∀t,HH ((R.asks.zip ps).map fun x=>sent R.n x.1 x.2 t)
theorem LB.all{R:Ring}{ps:List Rat}(h:LB R ps)(hl:ps.length=R.asks.length)(t:Nat):RB 4100 (eF R.n R.asks ps t):=by
 have:=h.ld R.asks.length t
 rwa [List.take_of_length_le (Nat.le_refl _),List.take_of_length_le (by omega)]at this
theorem Jg{R:Ring}(hR:R.Ok){q:Rat}(hq:RB 1750 q){j:Nat}(h:j<R.asks.length):(wI R q j).natAbs<2^4050:=by
 have h1:=(xE hR hq).2
 have h2:=ua (V:=2^300) (nL hR h).size (nL hR h).lt
 unfold wI dn
 rw[Int.natAbs_mul,Int.natAbs_natCast]
 have h3:(bQ R j).size.den*(bq R q / (bQ R j).size.den)≤bq R q:=Nat.mul_div_le _ _
 have e:(2:Nat)^4050=2^300*2^3750:=by rw[← Nat.pow_add]
 have h4:(bQ R j).size.num.natAbs*(bq R q / (bQ R j).size.den)≤2^300*bq R q:=by
  refine Nat.le_trans (Nat.mul_le_mul_right _ (Nat.le_of_lt h2)) ?_
  rw[Nat.mul_assoc]
  exact Nat.mul_le_mul_left _ h3
 rw[e]
 exact Nat.lt_of_le_of_lt h4 (Nat.mul_lt_mul_of_pos_left h1 (Nat.pow_pos (by decide)))
def zI(R:Ring)(q:Rat)(t j:Nat):Int:=if isOn R.n (bQ R j) t then pI R q j else wI R q j-pI R q j
theorem AK{caps:Ev}{te:W L}{k:List D→Ev→Prop}(xs:List D)(acc:List D)(l:L)(step:∀a∈xs,∀Q:Ev→D→Prop,Q (.d a::caps) a→te (.d a::caps) fun r ρ3=>toD r fun y=>Q ρ3 y)(fin:∀l',k (acc++xs) (l'::caps)):dk (aI 0) bF te xs (l::caps) acc k:=by
 have:=a6 (enc:=id) (h:=id) (te:=te) (k:=k) (caps:=caps) xs acc l step (by simpa using fin)
 simpa using this
mutual
def widD:D→Nat
 |.tup xs=>max xs.length (pR xs)
 |.lst xs=>max xs.length (pR xs)
 |_=>0
def pR:List D→Nat
 |[]=>0
 |x::xs=>max (widD x) (pR xs)
end
theorem oy{x:D}:∀{xs:List D},x∈xs→widD x≤pR xs
 | y::ys,h=>by
  simp only[pR]
  rcases List.mem_cons.mp h with rfl|h
  ·
   omega
  ·
   have:=oy h;omega
theorem rG{n:Nat}:∀{xs:List D},(∀x∈xs,widD x≤n)→pR xs≤n
 |[],_=>Nat.zero_le _
 | y::ys,h=>by
  simp only[pR]
  have:=h y List.mem_cons_self
  have:=rG (xs:=ys) fun x hx=>h x (List.mem_cons_of_mem _ hx)
  omega
theorem xF{n:Nat}(h:n≤99):n≤sizeLine:=Nat.le_trans h (by decide)
theorem AL(q:Rat):widD (frD q)=2:=by simp[frD,widD,pR]
theorem Dc(a:Ask):widD (askD a)=4:=by
 have:=AL a.size
 simp[askD,widD,pR,this]
theorem Dd{qs:List Rat}{n:Nat}(h:qs.length≤n)(h2:2≤n):widD (.lst (qs.map frD))≤n:=by
 simp only[widD,List.length_map]
 have:=rG (n:=2) (xs:=qs.map frD) fun x hx=>by
  obtain⟨q,_,rfl⟩:=List.mem_map.mp hx
  rw[AL]
  exact Nat.le_refl _
 omega
theorem AM{as:List Ask}{n:Nat}(h:as.length≤n)(h2:4≤n):widD (.lst (as.map askD))≤n:=by
 simp only[widD,List.length_map]
 have:=rG (n:=4) (xs:=as.map askD) fun x hx=>by
  obtain⟨q,_,rfl⟩:=List.mem_map.mp hx
  rw[Dc]
  exact Nat.le_refl _
 omega
theorem AN{R:Ring}(h1:R.n≤99)(h2:R.asks.length≤99):widD (aR R)≤99:=by
 have h1:=Dd (qs:=R.rooms) (n:=99) h1 (by decide)
 have h2:=AM (as:=R.asks) (n:=99) h2 (by decide)
 simp only[aR,widD,pR,List.length_cons,List.length_nil]at h1 h2 ⊢
 omega
structure SmD (n:Nat) (d:D):Prop where
 dep:depD d<n
 wid:widD d≤99
theorem SmD.mono{n m:Nat}{d:D}(h:SmD n d)(hm:n≤m):SmD m d:=⟨Nat.lt_of_lt_of_le h.dep hm,h.wid⟩
theorem SmD.lst{n:Nat}{xs:List D}(h:SmD (n+1) (.lst xs)):xs.length≤sizeLine∧∀x∈xs,SmD n x:=by
 obtain⟨h1,h2⟩:=h
 simp only[depD,widD]at h1 h2
 exact⟨xF (by omega),fun x hx=>⟨by have:=om hx;omega,by have:=oy hx;omega⟩⟩
theorem SmD.tup{n:Nat}{xs:List D}(h:SmD (n+1) (.tup xs)):xs.length≤sizeLine∧∀x∈xs,SmD n x:=by
 obtain⟨h1,h2⟩:=h
 simp only[depD,widD]at h1 h2
 exact⟨xF (by omega),fun x hx=>⟨by have:=om hx;omega,by have:=oy hx;omega⟩⟩
theorem AO(q:Rat):depD (frD q)=1:=by simp[frD,depD,pO]
theorem De(a:Ask):depD (askD a)=2:=by
 have:=AO a.size
 simp[askD,depD,pO,this]
theorem xG{xs:List D}{n:Nat}(h:∀x∈xs,depD x≤n):depD (.lst xs)≤n+1:=by
 simp only[depD]
 have:=xg h
 omega
theorem Df(qs:List Rat):depD (.lst (qs.map frD))≤2:=xG fun x hx=>by
 obtain⟨q,_,rfl⟩:=List.mem_map.mp hx
 rw[AO]
 exact Nat.le_refl _
theorem AQ(as:List Ask):depD (.lst (as.map askD))≤3:=xG fun x hx=>by
 obtain⟨q,_,rfl⟩:=List.mem_map.mp hx
 rw[De]
 exact Nat.le_refl _
theorem AR(R:Ring):depD (aR R)≤4:=by
 have h1:=Df R.rooms
 have h2:=AQ R.asks
 simp only[aR,depD,pO]at h1 h2 ⊢
 omega
theorem FT(a:Ask):noL (askD a)=true:=by simp[askD,noL,noLs,Ai]
theorem uk(as:List Ask):noLs (as.map askD)=true:=eK _ fun a _=>FT a
theorem SmD.ring{R:Ring}(h1:R.n≤99)(h2:R.asks.length≤99):SmD 5 (aR R):=⟨by have:=AR R;omega,AN h1 h2⟩
end My
set_option exponentiation.threshold 5000
namespace My
open PySem L2
def optW:Option Bool→D
 |none=>.non
 |some w=>.str (wayS w)
structure Wish where
 top:Rat
 strict:Bool
 elder:List (Option Bool)
 most:Nat
def elD(el:List (Option Bool)):D:=.lst (el.map optW)
def e8(ws:List Bool):D:=.lst (ws.map fun w=>D.str (wayS w))
theorem Dg(ws:List Bool):e8 ws=elD (ws.map some):=by
 unfold e8 elD
 rw[List.map_map]
 rfl
def dY(w:Wish):D:=.tup [frD w.top,.bl w.strict,elD w.elder,.int (w.most:Int)]
def cC(x:Option Bool×Option Bool):Bool:=match x.1 with
 |none=>false
 |some a=>x.2 == some (!a)
def fC(el ws:List (Option Bool)):List Nat:=((el.zip ws).zipIdx.filter fun x=>cC x.1).map (·.2)
theorem yy(o:Option Bool):cO (optW o):=by
 cases o with
 |none=>exact ql
 |some w=>exact ub w
theorem FU(o:Option Bool)(b:Bool):eqD (optW o) (.str (wayS b))=(o == some b):=by
 cases o with
 |none=>rfl
 | some a =>
  show eqD (.str (wayS a)) (.str (wayS b))=_
  rw[zF]
  cases a<;>cases b<;>rfl
def eG(st:Bool)(load bound:Int):Bool:=decide (bound<load) ||(st && decide (load=bound))
def AS(w:Wish)(x:Rat):Bool:=decide (w.top<x) ||(w.strict && decide (x=w.top))
def wsum(n:Nat)(as:List Ask)(zs:List Int)(ws:List Bool)(t:Nat):Int:=((as.zip (zs.zip ws)).map fun x=>if isOn n x.1 t == x.2.2 then x.2.1 else 0).sum
theorem AU{as:List Ask}{zs:List Int}{ws:List Bool}{k:Nat}(h1:k<as.length)(h2:k<zs.length)(h3:k<ws.length):(as.take (k+1)).zip ((zs.take (k+1)).zip (ws.take (k+1)))=(as.take k).zip ((zs.take k).zip (ws.take k))++[(as[k],zs[k],ws[k])]:=by
 have hz:k<(zs.zip ws).length:=by rw[List.length_zip];omega
 rw[← iR,← iR,← iR,← iR,List.take_succ,List.getElem?_eq_getElem (by rw[List.length_zip];omega),List.getElem_zip,List.getElem_zip]
 rfl
theorem AV{n:Nat}{as:List Ask}{zs:List Int}{ws:List Bool}{k:Nat}(h1:k<as.length)(h2:k<zs.length)(h3:k<ws.length)(t:Nat):wsum n (as.take (k+1)) (zs.take (k+1)) (ws.take (k+1)) t=wsum n (as.take k) (zs.take k) (ws.take k) t+if isOn n as[k] t == ws[k]then zs[k]else 0:=by
 unfold wsum
 rw[AU h1 h2 h3,List.map_append,List.sum_append]
 simp
def wprt(as:List Ask)(ws:List Bool):List Rat:=(as.zip ws).map fun x=>if x.2 then x.1.size else 0
theorem um(n u:Nat)(t:Nat):∀(as:List Ask)(ws:List Bool),ws.length=as.length→(∀a∈as,a.size.den∣u)→((wsum n as ((as.map (·.size)).map (dn u)) ws t:Int):Rat)=eF n as (wprt as ws) t*(u:Rat)
 |[],[],_,_=>by simp[wsum,eF,rA]
 | a::as,w::ws,h,hd=>by
  have ih:=um n u t as ws (by simpa using h) fun b hb=>hd b (List.mem_cons_of_mem _ hb)
  have e1:wsum n (a::as) (((a::as).map (·.size)).map (dn u)) (w::ws) t=(if isOn n a t == w then dn u a.size else 0)+wsum n as ((as.map (·.size)).map (dn u)) ws t:=rfl
  have e2:eF n (a::as) (wprt (a::as) (w::ws)) t=sent n a (if w then a.size else 0) t+eF n as (wprt as ws) t:=by
   unfold eF
   show sumQ (_::_)=_
   rw[g7]
   rfl
  have uc:=ou (hd a List.mem_cons_self)
  rw[e1,e2,Rat.intCast_add,ih,Rat.add_mul]
  congr 1
  unfold sent
  cases isOn n a t<;>cases w<;>simp[uc]<;>grind
 |[],_::_,h,_=>by simp at h
 |_::_,[],h,_=>by simp at h
theorem Dh{n:Nat}{f:Nat→Int}{t:Nat}(v:Int):(intL n f).set t (.int v)=intL n fun s=>if s=t then v else f s:=by
 refine List.ext_getElem (by simp[intL]) fun j h1 h2=>?_
 have e1:∀(g:Nat→Int)(h:j<(intL n g).length),(intL n g)[j]=.int (g j):=fun g h=>by simp[intL]
 rw[List.getElem_set,e1 _ h2]
 by_cases hj:t=j
 ·
  subst hj;simp
 ·
  rw[if_neg hj,if_neg (Ne.symm hj)]
  exact e1 _ _
theorem AW{n:Nat}{f:Nat→Int}{t:Nat}(h:t<n):ixN (intL n f).length (t:Int)=some t:=by
 rw[iS]
 unfold ixN
 rw[if_pos (by omega),if_pos (by omega),Int.toNat_natCast]
theorem lO{n:Nat}{f g:Nat→Int}(h:∀t,t<n→f t=g t):intL n f=intL n g:=by
 unfold intL
 refine List.map_congr_left fun t ht=>?_
 rw[h t (List.mem_range.mp ht)]
theorem kM{qs:List Rat}(hl:qs.length≤20)(hb:∀q∈qs,RB 60 q):0<cbN qs∧cbN qs≤2^1200:=by
 have d:cbN qs∣denP qs:=C6 fun q hq=>by
  clear hl hb
  induction qs with
  |nil=>simp at hq
  | cons a t ih =>
   show q.den∣a.den*denP t
   rcases List.mem_cons.mp hq with rfl|hq
   ·
    exact Nat.dvd_mul_right _ _
   ·
    exact Nat.dvd_trans (ih hq) (Nat.dvd_mul_left _ _)
 have p:=kJ qs
 refine⟨Nat.pos_of_dvd_of_pos d p,Nat.le_trans (Nat.le_of_dvd p d) (Nat.le_trans (vJ qs hb) (Nat.pow_le_pow_right (by decide) (by omega)))⟩
theorem xH(n:Nat)(t:Nat){M:Nat}:∀(as:List Ask)(zs:List Int)(ws:List Bool),(∀z∈zs,z.natAbs≤M)→(wsum n as zs ws t).natAbs≤as.length*M
 |[],_,_,_=>by simp[wsum]
 |a::as,[],_,_=>by simp[wsum]
 |a::as,z::zs,[],_=>by simp[wsum]
 | a::as,z::zs,w::ws,h=>by
  have ih:=xH n t as zs ws fun y hy=>h y (List.mem_cons_of_mem _ hy)
  have e1:wsum n (a::as) (z::zs) (w::ws) t=(if isOn n a t == w then z else 0)+wsum n as zs ws t:=rfl
  have hz:=h z List.mem_cons_self
  rw[e1,List.length_cons,Nat.succ_mul]
  split<;>omega
theorem AX{u:Nat}{q:Rat}(hq:RB 60 q)(hu:u≤2^1200):(dn u q).natAbs≤2^1260:=by
 unfold dn
 rw[Int.natAbs_mul,Int.natAbs_natCast]
 have h1:u / q.den≤2^1200:=Nat.le_trans (Nat.div_le_self _ _) hu
 have e:(2:Nat)^1260=2^60*2^1200:=by rw[← Nat.pow_add]
 rw[e]
 exact Nat.mul_le_mul (Nat.le_of_lt hq.1) h1
theorem oz{R:Ring}(hR:R.Ok)(hT:∀a∈R.asks,RB 60 a.size)(ws:List Bool)(t:Nat):(wsum R.n R.asks ((R.asks.map (·.size)).map (dn (cbN (R.asks.map (·.size))))) ws t).natAbs<2^1265:=by
 have few:=hR.few
 have hb:∀q∈R.asks.map (·.size),RB 60 q:=fun q hq=>by
  obtain⟨a,ha,rfl⟩:=List.mem_map.mp hq
  exact hT a ha
 obtain⟨c0,c1⟩:=kM (qs:=R.asks.map (·.size)) (by rw[List.length_map];exact few) hb
 have:=xH R.n t (M:=2^1260) R.asks ((R.asks.map (·.size)).map (dn (cbN (R.asks.map (·.size))))) ws fun z hz=>by
  obtain⟨q,hq,rfl⟩:=List.mem_map.mp hz
  exact AX (hb q hq) c1
 have e:(2:Nat)^1265=32*2^1260:=by rw[show(1265:Nat)=5+1260 by rfl,Nat.pow_add]
 rw[e]
 refine Nat.lt_of_le_of_lt this ?_
 have p:0<(2:Nat)^1260:=Nat.pow_pos (by decide)
 refine Nat.lt_of_le_of_lt (Nat.mul_le_mul_right _ few) ?_
 omega
theorem Di{R:Ring}(hR:R.Ok)(hT:∀a∈R.asks,RB 60 a.size){ws:List Bool}(hl:ws.length=R.asks.length)(t:Nat):bh R (wprt R.asks ws) t=((wsum R.n R.asks ((R.asks.map (·.size)).map (dn (cbN (R.asks.map (·.size))))) ws t:Int):Rat) / ((cbN (R.asks.map (·.size)):Nat):Rat) / R.room t:=by
 have hb:∀q∈R.asks.map (·.size),RB 60 q:=fun q hq=>by
  obtain⟨a,ha,rfl⟩:=List.mem_map.mp hq
  exact hT a ha
 obtain⟨c0,c1⟩:=kM (qs:=R.asks.map (·.size)) (by rw[List.length_map];exact hR.few) hb
 have w:=um R.n (cbN (R.asks.map (·.size))) t R.asks ws hl fun a ha=>xD (List.mem_map.mpr ⟨a,ha,rfl⟩)
 have p:((cbN (R.asks.map (·.size)):Nat):Rat)≠0:=fun z=>by have:=Rat.natCast_pos.mpr c0;grind
 rw[w,Rat.mul_div_cancel p]
 rfl
end My
set_option exponentiation.threshold 5000
namespace My
open PySem L2
def sumN:Nat→(Nat→Int)→Int
 |0,_=>0
 |n+1,f=>sumN n f+f n
theorem iT{n:Nat}{f g:Nat→Int}(h:∀i,i<n→f i=g i):sumN n f=sumN n g:=by
 induction n with
 |zero=>rfl
 |succ n ih=>rw[sumN,sumN,ih fun i hi=>h i (by omega),h n (by omega)]
theorem FV{n:Nat}{f g:Nat→Int}(h:∀i,i<n→f i≤g i):sumN n f≤sumN n g:=by
 induction n with
 |zero=>exact Int.le_refl _
 | succ n ih =>
  have h1:=ih fun i hi=>h i (by omega)
  have h2:=h n (by omega)
  rw[sumN,sumN];omega
theorem xI(n:Nat)(f g:Nat→Int):sumN n (fun i=>f i+g i)=sumN n f+sumN n g:=by
 induction n with
 |zero=>rfl
 |succ n ih=>rw[sumN,sumN,sumN,ih];omega
theorem uo{n k:Nat}(h:k≤n)(f:Nat→Int):sumN n f=sumN k f+sumN n fun i=>if i<k then 0 else f i:=by
 induction n with
 | zero =>
  have:k=0:=by omega
  subst this
  rfl
 | succ n ih =>
  rcases Nat.lt_or_ge n k with g|g
  ·
   have:k=n+1:=by omega
   subst this
   have e:sumN (n+1) (fun i=>if i<n+1 then 0 else f i)=sumN (n+1) fun _=>0:=iT fun i hi=>if_pos hi
   have z:∀m,sumN m (fun _=>(0:Int))=0:=fun m=>by induction m with
    |zero=>rfl
    |succ m ihm=>rw[sumN,ihm];rfl
   rw[e,z];omega
  ·
   rw[sumN,ih g,sumN,if_neg (by omega)];omega
def ldZ(R:Ring)(q:Rat)(ws:List Bool)(t:Nat):Int:=sumN ws.length fun i=>if onA R i t == ws.getD i false then wI R q i else 0
theorem HQ(R:Ring)(q:Rat)(ws:List Bool)(b:Bool)(t:Nat):ldZ R q (ws++[b]) t=ldZ R q ws t+if onA R ws.length t == b then wI R q ws.length else 0:=by
 unfold ldZ
 rw[List.length_append,List.length_singleton,sumN]
 congr 1
 ·
  refine iT fun i hi=>?_
  rw[List.getD_eq_getElem?_getD,List.getD_eq_getElem?_getD,List.getElem?_append_left hi]
 ·
  simp
theorem FW{R:Ring}{q:Rat}{ws:List Bool}(hw:ws.length=R.asks.length)(t:Nat):((ldZ R q ws t:Int):Rat)=eF R.n R.asks (wprt R.asks ws) t*(bq R q:Rat):=by
 have hp:(wprt R.asks ws).length=R.asks.length:=by simp[wprt,hw]
 have key:∀k,k≤R.asks.length→((sumN k (fun i=>if onA R i t == ws.getD i false then wI R q i else 0):Int):Rat)=eF R.n (R.asks.take k) ((wprt R.asks ws).take k) t*(bq R q:Rat):=by
  intro k
  induction k with
  |zero=>intro _;simp[sumN,eF,rA]
  | succ k ih =>
   intro hk
   have h1:k<R.asks.length:=by omega
   have h2:k<(wprt R.asks ws).length:=by omega
   rw[yv h1 h2,sumN,Rat.intCast_add,ih (by omega),Rat.add_mul]
   congr 1
   have e1:(wprt R.asks ws)[k]=if ws[k]'(by omega)then R.asks[k].size else 0:=by simp[wprt]
   have e2:ws.getD k false=ws[k]'(by omega):=by rw[List.getD_eq_getElem?_getD,List.getElem?_eq_getElem (by omega)];rfl
   have wc:=HL (R:=R) (q:=q) h1
   rw[eL h1]at wc
   unfold sent onA
   rw[e1,e2,eL h1]
   cases isOn R.n R.asks[k] t<;>cases ws[k]'(by omega)<;>simp[wc]<;>grind
 have:=key R.asks.length (Nat.le_refl _)
 rw[List.take_of_length_le (Nat.le_refl _),List.take_of_length_le (by omega)]at this
 unfold ldZ
 rw[hw]
 exact this
theorem lP{R:Ring}(hR:R.Ok){w:Wish}{ws:List Bool}(hw:ws.length=R.asks.length){t:Nat}(ht:t<R.n):eG w.strict (ldZ R w.top ws t) (f0I R w.top t)=AS w (bh R (wprt R.asks ws) t):=by
 obtain⟨r1,r2⟩:=g8 hR ht
 have u0:0<bq R w.top:=by have:=AI R w.top;unfold bq;omega
 have uq:(0:Rat)<(bq R w.top:Rat):=Rat.natCast_pos.mpr u0
 have e1:=FW (q:=w.top) hw t
 have e2:=HM (q:=w.top) ht
 unfold eG AS bh
 have i1:f0I R w.top t<ldZ R w.top ws t↔w.top<eF R.n R.asks (wprt R.asks ws) t / R.room t:=by
  rw[← Rat.intCast_lt_intCast,e1,e2,Rat.lt_div_iff r1]
  exact⟨fun h=>(Rat.mul_lt_mul_right uq).mp h,fun h=>(Rat.mul_lt_mul_right uq).mpr h⟩
 have i2:ldZ R w.top ws t=f0I R w.top t↔eF R.n R.asks (wprt R.asks ws) t / R.room t=w.top:=by
  rw[← Rat.intCast_inj,e1,e2]
  have r0:R.room t≠0:=by grind
  have un:(bq R w.top:Rat)≠0:=by grind
  constructor
  ·
   intro h
   have:eF R.n R.asks (wprt R.asks ws) t=w.top*R.room t:=by grind
   rw[this,Rat.mul_div_cancel r0]
  ·
   intro h
   have:eF R.n R.asks (wprt R.asks ws) t=w.top*R.room t:=by rw[← h,Rat.div_mul_cancel r0]
   rw[this]
 rw[decide_eq_decide.mpr i1,decide_eq_decide.mpr i2]
inductive Tr where
 |turned
 |cut (c:Nat×Nat)
 |split (k:Nat) (a b:Tr)
def trD:Tr→D
 |.turned=>.tup [.str "turned"]
 |.cut c=>.tup [.str "cut",.int (c.1:Int),.int (c.2:Int)]
 |.split k a b=>.tup [.str "split",.int (k:Int),trD a,trD b]
def tov(R:Ring)(fixed:List (Option Bool))(c:Nat×Nat)(i:Nat):Int:=match fixed.getD i none with
 |none=>if apart c (bQ R i).one (bQ R i).other then 1 else 0
 |some b=>(if onA R i c.1 == b then 1 else 0)+if onA R i c.2 == b then 1 else 0
def vP(R:Ring)(q:Rat)(fixed:List (Option Bool))(c:Nat×Nat):Int:=sumN R.asks.length fun i=>wI R q i*tov R fixed c i
def Tr.Ok(R:Ring)(w:Wish):List (Option Bool)→Tr→Prop
 |fixed,.turned=>w.most<(fC w.elder fixed).length
 |fixed,.cut c=>rC R.n c∧eG w.strict (vP R w.top fixed c) (f0I R w.top c.1+f0I R w.top c.2)=true
 |fixed,.split k a b=>k<fixed.length∧fixed.getD k none=none∧Tr.Ok R w (fixed.set k (some true)) a∧Tr.Ok R w (fixed.set k (some false)) b
def mE(R:Ring)(w:Wish)(ws:List Bool):Prop:=(∀t,t<R.n→AS w (bh R (wprt R.asks ws) t)=false)∧(fC w.elder (ws.map some)).length≤w.most
def Comp(fixed:List (Option Bool))(ws:List Bool):Prop:=ws.length=fixed.length∧∀i b,fixed.getD i none=some b→ws.getD i false=b
theorem AY{el fixed:List (Option Bool)}{ws:List Bool}(h:Comp fixed ws):(fC el fixed).length≤(fC el (ws.map some)).length:=by
 unfold fC
 rw[List.length_map,List.length_map]
 obtain⟨hl,hc⟩:=h
 have:∀(n:Nat)(el fixed:List (Option Bool))(ws:List Bool),ws.length=fixed.length→(∀i b,fixed.getD i none=some b→ws.getD i false=b)→((el.zip fixed).zipIdx n |>.filter fun x=>cC x.1).length≤((el.zip (ws.map some)).zipIdx n |>.filter fun x=>cC x.1).length:=by
  intro n el
  induction el generalizing n with
  |nil=>intro fixed ws _ _;simp
  | cons e el ih =>
   intro fixed ws hl hc
   match fixed,ws,hl with
   |[],[],_=>simp
   | f::fixed,b::ws,hl =>
    have i1:=ih (n+1) fixed ws (by simpa using hl) fun i b' hb=>by
     have:=hc (i+1) b' (by simpa using hb)
     simpa using this
    rw[List.map_cons,List.zip_cons_cons,List.zip_cons_cons,List.zipIdx_cons,List.zipIdx_cons,List.filter_cons,List.filter_cons]
    have imp:cC (e,f)=true→cC (e,some b)=true:=fun h=>by
     cases f with
     |none=>cases e<;>simp[cC]at h
     | some g =>
      have:=hc 0 g rfl
      have:b=g:=by simpa using this
      subst this
      exact h
    cases h1:cC (e,f)<;>cases h2:cC (e,some b)
    ·
     simpa[h1,h2]using i1
    ·
     simp[h1,h2];omega
    ·
     rw[imp h1]at h2;cases h2
    ·
     simpa[h1,h2]using i1
 exact this 0 el fixed ws hl hc
theorem FY{R:Ring}(hR:R.Ok){q:Rat}{fixed:List (Option Bool)}{ws:List Bool}(hf:fixed.length=R.asks.length)(h:Comp fixed ws){c:Nat×Nat}(hc:rC R.n c):vP R q fixed c≤ldZ R q ws c.1+ldZ R q ws c.2:=by
 unfold ldZ vP
 rw[h.1,hf,← xI]
 refine FV fun i hi=>?_
 have ha:=nL hR hi
 have hz:=Da hR q i hi
 have ap:=AF ha hc
 unfold tov
 cases e:fixed.getD i none with
 | none =>
  dsimp only
  rw[ap]
  unfold onA
  cases isOn R.n (bQ R i) c.1<;>cases isOn R.n (bQ R i) c.2<;>cases ws.getD i false<;>simp<;>omega
 | some b =>
  dsimp only
  rw[h.2 i b e]
  unfold onA
  cases isOn R.n (bQ R i) c.1<;>cases isOn R.n (bQ R i) c.2<;>cases b<;>simp<;>omega
theorem Dj{fixed:List (Option Bool)}{ws:List Bool}(h:Comp fixed ws){k:Nat}(hk:k<fixed.length):Comp (fixed.set k (some (ws.getD k false))) ws:=by
 refine⟨by simpa using h.1,fun i b e=>?_⟩
 rw[List.getD_eq_getElem?_getD,List.getElem?_set]at e
 split at e
 ·
  rename_i hki
  subst hki
  simp[hk]at e
  rw[← e,List.getD_eq_getElem?_getD]
 ·
  exact h.2 i b (by rw[List.getD_eq_getElem?_getD];exact e)
theorem Dk{st:Bool}{x y a b:Int}(h:eG st (x+y) (a+b)=true)(h1:eG st x a=false)(h2:eG st y b=false):False:=by
 unfold eG at h h1 h2
 simp only[Bool.or_eq_false_iff,Bool.or_eq_true,decide_eq_false_iff_not,decide_eq_true_eq,Bool.and_eq_true,Bool.and_eq_false_iff]at h h1 h2
 cases st
 ·
  simp at h h1 h2;omega
 ·
  simp at h h1 h2;omega
theorem FZ{st:Bool}{x y a:Int}(h:eG st x a=true)(hl:x≤y):eG st y a=true:=by
 unfold eG at h ⊢
 simp only[Bool.or_eq_true,decide_eq_true_eq,Bool.and_eq_true]at h ⊢
 rcases h with h|⟨h1,h2⟩
 ·
  left;omega
 ·
  by_cases e:a<y
  ·
   exact .inl e
  ·
   exact .inr ⟨h1,by omega⟩
theorem oA{R:Ring}(hR:R.Ok){w:Wish}:∀(T:Tr)(fixed:List (Option Bool))(ws:List Bool),fixed.length=R.asks.length→T.Ok R w fixed→Comp fixed ws→¬mE R w ws
 | .turned,fixed,ws,hf,ht,hc,hk=>by
  have:=AY (el:=w.elder) hc
  have h1:w.most<(fC w.elder fixed).length:=ht
  have:=hk.2
  omega
 | .cut c,fixed,ws,hf,ht,hc,hk=>by
  obtain⟨ic,hm⟩:=ht
  have hw:ws.length=R.asks.length:=by rw[hc.1,hf]
  have h1:=hk.1 c.1 (by have:=ic.1;have:=ic.2;omega)
  have h2:=hk.1 c.2 ic.2
  rw[← lP hR hw (by have:=ic.1;have:=ic.2;omega)]at h1
  rw[← lP hR hw ic.2]at h2
  exact Dk (FZ hm (FY hR hf hc ic)) h1 h2
 | .split k a b,fixed,ws,hf,ht,hc,hk=>by
  obtain⟨h1,h2,h3,h4⟩:=ht
  have cs:=Dj hc h1
  cases e:ws.getD k false
  ·
   rw[e]at cs
   exact oA hR b _ ws (by simpa using hf) h4 cs hk
  ·
   rw[e]at cs
   exact oA hR a _ ws (by simpa using hf) h3 cs hk
end My
set_option exponentiation.threshold 5000
namespace My
open PySem L2
def Tr.kind:Tr→Nat
 |.turned=>0
 |.cut _=>1
 |.split _ _ _=>2
def Tr.size:Tr→Nat
 |.turned=>1
 |.cut _=>1
 |.split _ a b=>a.size+b.size+1
theorem Tr.size_pos(T:Tr):0<T.size:=by cases T<;>simp[Tr.size]
def gN(n:Nat)(ws:List Bool):List (Option Bool):=ws.map some++List.replicate (n-ws.length) none
theorem rH{n:Nat}{ws:List Bool}(h:ws.length≤n):(gN n ws).length=n:=by simp[gN];omega
theorem rJ{n:Nat}{ws:List Bool}{i:Nat}:(gN n ws).getD i none=if h:i<ws.length then some ws[i]else none:=by
 unfold gN
 rw[List.getD_eq_getElem?_getD]
 split
 ·
  rename_i h
  rw[List.getElem?_append_left (by simpa using h),List.getElem?_map,List.getElem?_eq_getElem h]
  rfl
 ·
  rename_i h
  rw[List.getElem?_append_right (by simp;omega),List.getElem?_replicate]
  split<;>rfl
theorem xJ{n:Nat}{ws:List Bool}(h:ws.length<n)(b:Bool):(gN n ws).set ws.length (some b)=gN n (ws++[b]):=by
 unfold gN
 rw[List.set_append_right _ _ (by simp),List.length_map,Nat.sub_self,List.map_append,List.append_assoc]
 congr 1
 obtain⟨m,hm⟩:∃m,n-ws.length=m+1:=⟨n-ws.length-1,by omega⟩
 rw[hm,List.replicate_succ,List.set_cons_zero,List.length_append,List.length_singleton,show n-(ws.length+1)=m by omega]
 rfl
theorem AZ(el:List (Option Bool))(n:Nat)(ws:List Bool):(fC el (gN n ws)).length=(fC el (ws.map some)).length:=by
 unfold fC gN
 rw[List.length_map,List.length_map]
 generalize n-ws.length=m
 clear n
 have:∀(j:Nat)(el:List (Option Bool))(ws:List Bool),((el.zip (ws.map some++List.replicate m none)).zipIdx j |>.filter fun x=>cC x.1).length=((el.zip (ws.map some)).zipIdx j |>.filter fun x=>cC x.1).length:=by
  intro j el
  induction el generalizing j with
  |nil=>intro ws;simp
  | cons e el ih =>
   intro ws
   cases ws with
   | nil =>
    rw[List.map_nil,List.nil_append,List.zip_nil_right]
    have z:∀(j m:Nat)(el:List (Option Bool)),((el.zip (List.replicate m none)).zipIdx j |>.filter fun x=>cC x.1)=[]:=by
     intro j m el
     refine List.filter_eq_nil_iff.mpr fun x hx=>?_
     have h1:=(List.mem_zipIdx hx).2.2
     have h2:x.1∈el.zip (List.replicate m none):=by rw[h1];exact List.getElem_mem _
     obtain⟨_,h3⟩:=List.of_mem_zip (a:=x.1.1) (b:=x.1.2) h2
     have h4:=List.eq_of_mem_replicate h3
     unfold cC
     rw[h4]
     cases x.1.1<;>simp
    rw[z]
    rfl
   | cons b ws =>
    rw[List.map_cons,List.cons_append,List.zip_cons_cons,List.zip_cons_cons,List.zipIdx_cons,List.zipIdx_cons,List.filter_cons,List.filter_cons]
    have i1:=ih (j+1) ws
    cases cC (e,some b)
    ·
     simpa using i1
    ·
     simpa using i1
 exact this 0 el ws
def gA(R:Ring)(q:Rat)(c:Nat×Nat)(i:Nat):Int:=if apart c (bQ R i).one (bQ R i).other then wI R q i else 0
def bndZ(R:Ring)(q:Rat)(k:Nat)(c:Nat×Nat):Int:=f0I R q c.1+f0I R q c.2-(sumN R.asks.length (gA R q c)-sumN k (gA R q c))
theorem Dl{R:Ring}{q:Rat}{k:Nat}(c:Nat×Nat):bndZ R q (k+1) c-gA R q c k=bndZ R q k c:=by
 unfold bndZ
 rw[sumN]
 omega
theorem A0{R:Ring}{q:Rat}{ws:List Bool}(hw:ws.length≤R.asks.length)(c:Nat×Nat):vP R q (gN R.asks.length ws) c=ldZ R q ws c.1+ldZ R q ws c.2+(sumN R.asks.length (gA R q c)-sumN ws.length (gA R q c)):=by
 unfold vP ldZ
 rw[uo hw,← xI]
 have e1:sumN ws.length (fun i=>wI R q i*tov R (gN R.asks.length ws) c i)=sumN ws.length fun i=>(if onA R i c.1 == ws.getD i false then wI R q i else 0)+if onA R i c.2 == ws.getD i false then wI R q i else 0:=iT fun i hi=>by
  have e2:ws.getD i false=ws[i]:=by rw[List.getD_eq_getElem?_getD,List.getElem?_eq_getElem hi];rfl
  unfold tov
  rw[rJ,dif_pos hi,e2]
  dsimp only
  cases onA R i c.1<;>cases onA R i c.2<;>cases ws[i]<;>simp<;>omega
 have e3:=uo hw (gA R q c)
 have e4:sumN R.asks.length (fun i=>if i<ws.length then 0 else wI R q i*tov R (gN R.asks.length ws) c i)=sumN R.asks.length fun i=>if i<ws.length then 0 else gA R q c i:=iT fun i hi=>by
  by_cases h:i<ws.length
  ·
   rw[if_pos h,if_pos h]
  ·
   rw[if_neg h,if_neg h]
   unfold tov gA
   rw[rJ,dif_neg h]
   dsimp only
   split<;>simp
 rw[e1,e4]
 omega
theorem yz(st:Bool)(x y d:Int):eG st x (y-d)=eG st (x+d) y:=by
 unfold eG
 have e1:decide (y-d<x)=decide (y<x+d):=by rw[decide_eq_decide];omega
 have e2:decide (x=y-d)=decide (x+d=y):=by rw[decide_eq_decide];omega
 rw[e1,e2]
theorem A1{R:Ring}{w:Wish}{ws:List Bool}(hw:ws.length≤R.asks.length)(c:Nat×Nat):eG w.strict (ldZ R w.top ws c.1+ldZ R w.top ws c.2) (bndZ R w.top ws.length c)=eG w.strict (vP R w.top (gN R.asks.length ws) c) (f0I R w.top c.1+f0I R w.top c.2):=by
 rw[A0 hw]
 unfold bndZ
 exact yz _ _ _ _
def rowD(R:Ring)(q:Rat)(k:Nat):D:=.lst ((ng R.n).map fun c=>D.tup [cutP c,.int (bndZ R q k c)])
def rK(R:Ring)(q:Rat):List D:=(List.range (R.asks.length+1)).map fun j=>rowD R q (R.asks.length-j)
def HR(R:Ring)(w:Wish)(ws:List Bool):Prop:=(∀c,rC R.n c→eG w.strict (ldZ R w.top ws c.1+ldZ R w.top ws c.2) (bndZ R w.top ws.length c)=false)∧(fC w.elder (ws.map some)).length≤w.most
theorem yA{R:Ring}(hR:R.Ok){w:Wish}{ws:List Bool}(hw:ws.length=R.asks.length)(h:HR R w ws):mE R w ws:=by
 refine⟨fun t ht=>?_,h.2⟩
 rw[← lP hR hw ht]
 have h1:=h.1 (t,t) ⟨Nat.le_refl _,ht⟩
 unfold bndZ at h1
 rw[hw,Int.sub_self,Int.sub_zero]at h1
 unfold eG at h1 ⊢
 simp only[Bool.or_eq_false_iff,decide_eq_false_iff_not,Bool.and_eq_false_iff]at h1 ⊢
 refine⟨by omega,?_⟩
 rcases h1.2 with h2|h2
 ·
  exact .inl h2
 ·
  exact .inr (by omega)
theorem xB{n:Nat}(h:n≤12):(ng n).length≤144:=by
 unfold ng
 rw[List.length_flatMap]
 have:∀(l:List Nat),(l.map fun g=>((List.range (n-g)).map fun i=>(g,g+i)).length).sum≤l.length*12:=by
  intro l
  induction l with
  |nil=>simp
  | cons a l ih =>
   rw[List.map_cons,List.sum_cons,List.length_cons,Nat.succ_mul]
   simp only[List.length_map,List.length_range]at ih ⊢
   omega
 have h1:=this (List.range n)
 rw[List.length_range]at h1
 omega
end My
set_option exponentiation.threshold 5000
namespace My
open PySem L2
def topV(n:Nat)(f:Nat→Rat):Rat:=(List.range n).foldl (fun b t=>if b<f t then f t else b) 0
theorem oB(n:Nat)(f:Nat→Rat):topV (n+1) f=if topV n f<f n then f n else topV n f:=by
 unfold topV
 rw[List.range_succ,List.foldl_append]
 rfl
theorem A2{f:Nat→Rat}:∀{n t:Nat},t<n→f t≤topV n f
 | n+1,t,h=>by
  rw[oB]
  rcases Nat.lt_or_ge t n with g|g
  ·
   have:=A2 (f:=f) g
   split<;>grind
  ·
   have:t=n:=by omega
   subst this
   split<;>grind
theorem A3{f:Nat→Rat}:∀{n:Nat},topV n f=0∨∃t,t<n∧topV n f=f t
 |0=>.inl rfl
 | n+1=>by
  rw[oB]
  split
  ·
   exact .inr ⟨n,by omega,rfl⟩
  ·
   rcases A3 (f:=f) (n:=n)with h|⟨t,ht,h⟩
   ·
    exact .inl h
   ·
    exact .inr ⟨t,by omega,h⟩
theorem Dm{n:Nat}(hn:0<n){f:Nat→Rat}(h0:∀t,t<n→0≤f t):topV n f=f (topI n f):=by
 obtain⟨i1,i2⟩:=vK hn f
 have h1:=A2 (f:=f) i1
 have h2:topV n f≤f (topI n f):=by
  rcases A3 (f:=f) (n:=n)with h|⟨t,ht,h⟩
  ·
   rw[h];exact h0 _ i1
  ·
   rw[h];exact i2 t ht
 exact Rat.le_antisymm h2 h1
theorem yB{a b c d:Int}(hb:0<b)(hd:0<d):Rat.divInt a b<Rat.divInt c d↔a*d<c*b:=by
 rw[rE hb]
 obtain⟨m,hm,e1,e2⟩:=mD c hd
 generalize Rat.divInt c d=p at e1 e2
 rw[e1,e2]
 have q1:a*((p.den:Int)*m)=a*(p.den:Int)*m:=by rw[Int.mul_assoc]
 have q2:p.num*m*b=p.num*b*m:=by rw[Int.mul_assoc,Int.mul_comm m,← Int.mul_assoc]
 rw[q1,q2]
 constructor
 ·
  exact fun h=>Int.mul_lt_mul_of_pos_right h hm
 ·
  exact fun h=>Int.lt_of_mul_lt_mul_right h (Int.le_of_lt hm)
theorem vQ{r:Rat}(hr:0<r):0<r.num:=by
 have h1:=Rat.num_nonneg.mpr (Rat.le_of_lt hr)
 have h2:=xl (q:=r) (by grind)
 omega
theorem vR{f:Int}{b:Nat}{r:Rat}(hb:0<b)(hr:0<r):(f:Rat) / (b:Rat) / r=Rat.divInt (f*(r.den:Int)) ((b:Int)*r.num):=by
 rw[Rat.divInt_eq_div,Rat.intCast_mul,Rat.intCast_mul,xm r]
 have h1:((b:Nat):Rat)≠0:=fun z=>by have:=Rat.natCast_pos.mpr hb;grind
 have h2:((r.den:Nat):Rat)≠0:=fun z=>by have:=Rat.natCast_pos.mpr r.den_pos;grind
 have e1:(((r.den:Nat):Int):Rat)=((r.den:Nat):Rat):=rfl
 have e2:(((b:Nat):Int):Rat)=((b:Nat):Rat):=rfl
 rw[e1,e2]
 have h3:r≠0:=by grind
 grind
def szL(R:Ring):List Rat:=R.asks.map (·.size)
def unsL(R:Ring):List Int:=(szL R).map (dn (cbN (szL R)))
def onsW(R:Ring):D:=.lst (R.asks.map fun a=>D.lst ((onL R.n a.one a.other).map fun (t:Nat)=>D.int (t:Int)))
def whlW(R:Ring):D:=.tup [.lst ((unsL R).map .int),.int (cbN (szL R):Int)]
theorem A4{R:Ring}(hR:R.Ok)(hT:∀a∈R.asks,RB 60 a.size):0<cbN (szL R)∧cbN (szL R)≤2^1200 :=
 kM (by unfold szL;rw[List.length_map];exact hR.few) fun q hq=>by
  obtain⟨a,ha,rfl⟩:=List.mem_map.mp hq
  exact hT a ha
theorem A5(n t:Nat):∀(as:List Ask)(zs:List Int)(ws:List Bool),(∀z∈zs,0≤z)→0≤wsum n as zs ws t
 |[],zs,ws,h=>by simp[wsum]
 |a::as,[],ws,h=>by simp[wsum]
 |a::as,z::zs,[],h=>by simp[wsum]
 | a::as,z::zs,w::ws,h=>by
  have h1:=A5 n t as zs ws fun y hy=>h y (List.mem_cons_of_mem _ hy)
  have h2:=h z List.mem_cons_self
  unfold wsum at h1 ⊢
  rw[List.zip_cons_cons,List.zip_cons_cons,List.map_cons,List.sum_cons]
  dsimp only
  split<;>omega
theorem HS{R:Ring}(hR:R.Ok):∀z∈unsL R,0≤z:=fun z hz=>by
 obtain⟨q,hq,rfl⟩:=List.mem_map.mp hz
 obtain⟨a,ha,rfl⟩:=List.mem_map.mp hq
 have h0:=Rat.num_nonneg.mpr (hR.ask a ha).size
 unfold dn
 exact Int.mul_nonneg h0 (Int.natCast_nonneg _)
abbrev strW(R:Ring)(ws:List Bool):Nat→Rat:=bh R (wprt R.asks ws)
theorem rL{R:Ring}(hR:R.Ok)(hT:∀a∈R.asks,RB 60 a.size){ws:List Bool}(hl:ws.length=R.asks.length)(t:Nat):strW R ws t=((wsum R.n R.asks (unsL R) ws t:Int):Rat) / ((cbN (szL R):Nat):Rat) / R.room t:=Di hR hT hl t
theorem F0{R:Ring}(hR:R.Ok)(hT:∀a∈R.asks,RB 60 a.size){ws:List Bool}(hl:ws.length=R.asks.length){t:Nat}(ht:t<R.n):0≤strW R ws t:=by
 obtain⟨c0,c1⟩:=A4 hR hT
 obtain⟨r1,r2⟩:=g8 hR ht
 rw[rL hR hT hl,vR c0 r1]
 exact Rat.divInt_nonneg (Int.mul_nonneg (A5 _ _ _ _ _ (HS hR)) (by omega)) (Int.mul_nonneg (by omega) (Int.le_of_lt (vQ r1)))
theorem F4{R:Ring}(hR:R.Ok)(hT:∀a∈R.asks,RB 60 a.size){ws:List Bool}(hl:ws.length=R.asks.length){t:Nat}(ht:t<R.n):RB 1325 (strW R ws t):=by
 obtain⟨c0,c1⟩:=A4 hR hT
 obtain⟨r1,r2⟩:=g8 hR ht
 rw[rL hR hT hl,vR c0 r1]
 have n1:=vQ r1
 refine RB.of_divInt (by have:=Int.mul_pos (show(0:Int)<(cbN (szL R):Int) by omega) n1;omega) ?_ ?_
 ·
  rw[Int.natAbs_mul]
  have d1:((R.room t).den:Int).natAbs<2^60:=by simpa using r2.2
  exact aZ (m:=1265) (n:=60) (oz hR hT ws t) d1
 ·
  rw[Int.natAbs_mul,Int.natAbs_natCast]
  refine Nat.lt_of_lt_of_le (aZ (m:=1201) (n:=60) (Nat.lt_of_le_of_lt c1 (Nat.pow_lt_pow_right (by decide) (by decide))) r2.1) (Nat.pow_le_pow_right (by decide) (by decide))
def topW(R:Ring)(ws:List Bool):Rat:=strW R ws (topI R.n (strW R ws))
theorem F5{R:Ring}(hR:R.Ok)(ws:List Bool){t:Nat}(ht:t<R.n):strW R ws t≤topW R ws:=(vK (by have:=hR.lo;omega) (strW R ws)).2 t ht
theorem vS{R:Ring}(hR:R.Ok)(ws:List Bool):topI R.n (strW R ws)<R.n:=(vK (by have:=hR.lo;omega) (strW R ws)).1
theorem A6{R:Ring}(hR:R.Ok)(hT:∀a∈R.asks,RB 60 a.size){ws:List Bool}(hl:ws.length=R.asks.length):RB 1325 (topW R ws):=F4 hR hT hl (vS hR ws)
theorem D9{R:Ring}(hR:R.Ok)(hT:∀a∈R.asks,RB 60 a.size){ws:List Bool}(hl:ws.length=R.asks.length):topV R.n (strW R ws)=topW R ws:=Dm (by have:=hR.lo;omega) fun t ht=>F0 hR hT hl ht
theorem oC{w:Wish}(h:w.strict=true){x:Rat}:AS w x=false↔x<w.top:=by
 unfold AS
 rw[h]
 simp only[Bool.true_and,Bool.or_eq_false_iff,decide_eq_false_iff_not]
 constructor<;>intro g
 ·
  grind
 ·
  constructor<;>grind
theorem yC{R:Ring}(hR:R.Ok){w:Wish}(h:w.strict=true){ws:List Bool}(hk:mE R w ws):topW R ws<w.top:=(oC h).mp (hk.1 _ (vS hR ws))
theorem yD{R:Ring}(hR:R.Ok){w:Wish}(h:w.strict=true){ws:List Bool}(hk:topW R ws<w.top)(hm:(fC w.elder (ws.map some)).length≤w.most):mE R w ws :=
 ⟨fun t ht=>(oC h).mpr (by have h1:=F5 hR ws ht;have e:strW R ws t=bh R (wprt R.asks ws) t:=rfl;rw[e]at h1;grind),hm⟩
def allW:Nat→List (List Bool)
 |0=>[[]]
 |n+1=>(allW n).map (·++[true])++(allW n).map (·++[false])
theorem rM(n:Nat):(allW n).length=2^n:=by
 induction n with
 |zero=>rfl
 |succ n ih=>rw[allW,List.length_append,List.length_map,List.length_map,ih,Nat.pow_succ];omega
theorem nM{n:Nat}{ws:List Bool}:ws∈allW n↔ws.length=n:=by
 induction n generalizing ws with
 |zero=>simp[allW]
 | succ n ih =>
  rw[allW,List.mem_append,List.mem_map,List.mem_map]
  constructor
  ·
   rintro (⟨v,hv,rfl⟩|⟨v,hv,rfl⟩)<;>simp[ih.mp hv]
  ·
   intro h
   have hn:ws≠[]:=fun z=>by rw[z]at h;simp at h
   have e:=List.dropLast_concat_getLast hn
   have hd:ws.dropLast∈allW n:=ih.mpr (by rw[List.length_dropLast,h];rfl)
   cases eb:ws.getLast hn
   ·
    exact .inr ⟨_,hd,by rw[eb]at e;exact e⟩
   ·
    exact .inl ⟨_,hd,by rw[eb]at e;exact e⟩
end My
set_option exponentiation.threshold 5000
namespace My
open PySem L2
def S61(R:Ring):Prop:=∀a∈R.asks,RB 61 a.size
theorem A7{as:List Ask}{ws:List Bool}{x:Ask×Rat}(h:x∈as.zip (wprt as ws)):x.1∈as∧(x.2=x.1.size∨x.2=0):=by
 obtain⟨k,hk,rfl⟩:=List.mem_iff_getElem.mp h
 have h1:k<as.length:=by simp at hk;omega
 refine⟨by simp,?_⟩
 simp only[List.getElem_zip,wprt,List.getElem_map]
 split
 ·
  exact .inl rfl
 ·
  exact .inr rfl
theorem rN{n:Nat}{x:Ask×Rat}{b:Nat}(hs:RB b x.1.size)(hx:x.2=x.1.size∨x.2=0)(hb:1≤b)(t:Nat):RB b (sent n x.1 x.2 t):=by
 have z:RB b (0:Rat):=RB.zero.mono hb
 unfold sent
 rcases hx with h|h<;>rw[h]<;>split
 ·
  exact hs
 ·
  rw[Rat.sub_self];exact z
 ·
  exact z
 ·
  rw[show x.1.size-0=x.1.size by grind];exact hs
theorem Dn(as:List Ask)(ws:List Bool)(k:Nat):(wprt as ws).take k=wprt (as.take k) (ws.take k):=by
 unfold wprt
 rw[← List.map_take,List.zip,List.take_zipWith]
theorem xK{n:Nat}{as:List Ask}(ha:∀a∈as,RB 61 a.size)(hl:as.length≤20)(ws:List Bool)(t:Nat):RB 1241 (eF n as (wprt as ws) t):=by
 refine(RB.sum (b:=61) _ fun q hq=>?_).mono ?_
 ·
  obtain⟨x,hx,rfl⟩:=List.mem_map.mp hq
  obtain⟨h1,h2⟩:=A7 hx
  exact rN (ha _ h1) h2 (by decide) t
 ·
  rw[List.length_map,List.length_zip]
  have:min as.length (wprt as ws).length≤20:=by omega
  omega
theorem LB.ways{R:Ring}(hR:R.Ok)(hT:S61 R)(ws:List Bool):LB R (wprt R.asks ws):=by
 have few:=hR.few
 refine⟨fun p hp=>?_,fun k t=>?_,fun k h1 h2 t=>?_,fun t=>.inl ?_⟩
 ·
  obtain⟨x,hx,rfl⟩:=List.mem_map.mp hp
  obtain⟨h1,_⟩:=List.of_mem_zip (a:=x.1) (b:=x.2) hx
  split
  ·
   exact(hT _ h1).mono (by decide)
  ·
   exact RB.zero.mono (by decide)
 ·
  rw[Dn]
  exact(xK (fun a ha=>hT a (List.mem_of_mem_take ha)) (by rw[List.length_take];omega) _ t).mono (by decide)
 ·
  have hm:(R.asks[k],(wprt R.asks ws)[k])∈R.asks.zip (wprt R.asks ws):=List.mem_iff_getElem.mpr ⟨k,by rw[List.length_zip];omega,by rw[List.getElem_zip]⟩
  obtain⟨g1,g2⟩:=A7 hm
  exact(rN (x:=(R.asks[k],(wprt R.asks ws)[k])) (hT _ g1) g2 (by decide) t).mono (by decide)
 ·
  refine Nat.lt_of_le_of_lt (vJ (b:=61) _ fun q hq=>?_) (Nat.pow_lt_pow_right (by decide) ?_)
  ·
   obtain⟨x,hx,rfl⟩:=List.mem_map.mp hq
   obtain⟨h1,h2⟩:=A7 hx
   exact rN (hT _ h1) h2 (by decide) t
  ·
   rw[List.length_map,List.length_zip]
   have:min R.asks.length (wprt R.asks ws).length≤20:=by omega
   omega
theorem A8{R:Ring}(hR:R.Ok)(hT:S61 R)(ws:List Bool):RB 1301 (topW R ws):=by
 have ht:=vS hR ws
 obtain⟨r1,r2⟩:=g8 hR ht
 unfold topW strW bh
 exact((xK hT hR.few ws _).div r2 (by grind)).mono (by decide)
theorem Do{as:List Ask}{ws:List Bool}(h:ws.length=as.length):(wprt as ws).length=as.length:=by simp[wprt,h]
theorem oD{α:Type}{p q:α→Bool}:∀{l:List α},(∀a,p a=true→q a=true)→(∃a∈l,q a=true∧p a=false)→(l.filter p).length<(l.filter q).length
 |[],_,h=>by obtain⟨a,ha,_⟩:=h;cases ha
 | x::l,hpq,h=>by
  have le:(l.filter p).length≤(l.filter q).length:=by
   clear h
   induction l with
   |nil=>simp
   | cons y l ih =>
    rw[List.filter_cons,List.filter_cons]
    cases ep:p y
    ·
     cases q y
     ·
      simpa using ih
     ·
      simp;omega
    ·
     rw[hpq y ep]
     simpa using ih
  rw[List.filter_cons,List.filter_cons]
  cases ep:p x
  ·
   cases eq:q x
   ·
    have:=oD (l:=l) hpq (by
     obtain⟨a,ha,h1,h2⟩:=h
     rcases List.mem_cons.mp ha with rfl|ha
     ·
      rw[eq]at h1;cases h1
     ·
      exact⟨a,ha,h1,h2⟩)
    simpa using this
   ·
    simp;omega
  ·
   rw[hpq x ep]
   have:=oD (l:=l) hpq (by
     obtain⟨a,ha,h1,h2⟩:=h
     rcases List.mem_cons.mp ha with rfl|ha
     ·
      rw[ep]at h2;cases h2
     ·
      exact⟨a,ha,h1,h2⟩)
   simpa using this
def F6(R:Ring)(ws:List Bool):Nat:=((allW R.asks.length).filter fun vs=>decide (topW R vs<topW R ws)).length
theorem F7{R:Ring}{ws vs:List Bool}(hv:vs.length=R.asks.length)(h:topW R vs<topW R ws):F6 R vs<F6 R ws :=
 oD (fun us h1=>by have:=of_decide_eq_true h1;exact decide_eq_true (by grind)) ⟨vs,nM.mpr hv,decide_eq_true h,decide_eq_false (by grind)⟩
theorem A9(n:Nat)(ws:List (Option Bool)):(fC (List.replicate n none) ws).length=0:=by
 unfold fC
 rw[List.length_map,List.length_eq_zero_iff]
 refine List.filter_eq_nil_iff.mpr fun x hx=>?_
 have h1:=(List.mem_zipIdx hx).2.2
 have h2:x.1∈(List.replicate n none).zip ws:=by rw[h1];exact List.getElem_mem _
 obtain⟨h3,_⟩:=List.of_mem_zip (a:=x.1.1) (b:=x.1.2) h2
 have h4:=List.eq_of_mem_replicate h3
 unfold cC
 rw[h4]
 simp
def dJ(R:Ring)(q:Rat):Wish:=⟨q,true,List.replicate R.asks.length none,0⟩
def Jh(R:Ring)(ws:List Bool):Prop:=ws.length=R.asks.length∧∀vs:List Bool,vs.length=R.asks.length→topW R ws≤topW R vs
end My
set_option exponentiation.threshold 5000
namespace My
open PySem L2
def tagN:Nat→Str
 |0=>"turned"
 |1=>"cut"
 |_=>"split"
def lenN:Nat→Nat
 |0=>1
 |1=>3
 |_=>4
def tovO(R:Ring)(o:Option Bool)(c:Nat×Nat)(i:Nat):Int:=match o with
 |none=>if apart c (bQ R i).one (bQ R i).other then 1 else 0
 |some b=>(if onA R i c.1 == b then 1 else 0)+if onA R i c.2 == b then 1 else 0
theorem HU(R:Ring)(fixed:List (Option Bool))(c:Nat×Nat)(i:Nat):tov R fixed c i=tovO R (fixed.getD i none) c i:=rfl
theorem Dp(R:Ring)(o:Option Bool)(c:Nat×Nat)(i:Nat):(tovO R o c i).natAbs<2^60:=by
 unfold tovO
 split
 ·
  split<;>decide
 ·
  split<;>split<;>decide
theorem Ba(n:Nat)(f:Nat→Int):((List.range n).map f).sum=sumN n f:=by
 induction n with
 |zero=>rfl
 |succ n ih=>rw[List.range_succ,List.map_append,List.sum_append,ih,sumN];simp
theorem HV{el:List (Option Bool)}{k:Nat}(h:k<el.length):atI (el.map optW) (k:Int)=some (optW (el.getD k none)):=by
 rw[cB h]
 congr 2
 rw[List.getD_eq_getElem?_getD,List.getElem?_eq_getElem h]
 rfl
structure Wait where
 tr:Tr
 fixed:List (Option Bool)
 ways:List Bool
def rO(x:Wait):D:=.tup [trD x.tr,elD x.fixed,e8 x.ways]
def nh(xs:List Wait):Nat:=(xs.map fun x=>x.tr.size).sum
theorem Bb(n:Nat)(f:Nat→Int):gW (intL n f)=(List.range n).map fun (t:Nat)=>D.tup [.int (t:Int),.int (f t)]:=by
 unfold gW intL
 refine List.ext_getElem (by simp) fun j h1 h2=>?_
 simp
end My
set_option exponentiation.threshold 5000
namespace My
open PySem L2
def cutB(n:Nat):D→Bool
 |.tup [.int i,.int j]=>decide (0≤i∧i≤j∧j<(n:Int))
 |_=>false
theorem F8{n:Nat}{d:D}(h:∀i j,d≠.tup [.int i,.int j]):cutB n d=false:=by
 unfold cutB
 split
 ·
  exact absurd rfl (h _ _)
 ·
  rfl
end My
set_option exponentiation.threshold 5000
namespace My
open PySem L2
structure Ji where
 k:Nat
 kw:Bool
 l:Nat
 lw:Bool
 am:Rat
def nsQ(R:Ring)(ps:List Rat)(k:Nat)(w:Bool):Rat:=if w then R.sz k-ps.getD k 0 else ps.getD k 0
def msQ(R:Ring)(ps:List Rat)(k:Nat)(kw:Bool)(l:Nat)(lw:Bool):Rat:=if nsQ R ps l lw<nsQ R ps k kw then nsQ R ps l lw else nsQ R ps k kw
def Jj(n:Nat)(a:Ask)(aw:Bool)(b:Ask)(bw:Bool):Bool:=!((wayL n a aw).any fun t=>decide (t∈wayL n b bw))
structure SlOk (R:Ring) (ps:List Rat):Prop where
 ok:R.Ok
 len:ps.length=R.asks.length
 lo:∀k,k<ps.length→0≤ps.getD k 0∧ps.getD k 0≤R.sz k
 cd:∃D:Nat,0<D∧D<2^1500∧(∀a∈R.asks,a.size.den∣D)∧∀p∈ps,p.den∣D
end My
set_option exponentiation.threshold 5000
namespace My
open PySem L2
end My
set_option exponentiation.threshold 5000
namespace My
open PySem L2
def slB(R:Ring)(ps:List Rat)(s:Ji):Bool:=!decide (s.k=s.l) && (Jj R.n (bQ R s.k) s.kw (bQ R s.l) s.lw && (decide (0<s.am) && !decide (msQ R ps s.k s.kw s.l s.lw<s.am)))
end My
set_option exponentiation.threshold 5000
namespace My
open PySem L2
end My
set_option exponentiation.threshold 5000
namespace My
open PySem L2
def wayB:D→Bool
 |.str z=>decide (z=Str.ofString "on") ||decide (z=Str.ofString "back")
 |_=>false
theorem Ga(z:Str):inF (.str z) [.str (Str.ofString "on"),.str (Str.ofString "back")]=wayB (.str z):=by
 have e1:(Str.ofString "on" == z)=decide (z=Str.ofString "on"):=by rw[Bool.eq_iff_iff,beq_iff_eq,decide_eq_true_iff]; exact eq_comm
 have e2:(Str.ofString "back" == z)=decide (z=Str.ofString "back"):=by rw[Bool.eq_iff_iff,beq_iff_eq,decide_eq_true_iff]; exact eq_comm
 show(Str.ofString "on" == z ||(Str.ofString "back" == z ||false))=_
 rw[e1,e2,Bool.or_false]
 rfl
theorem Dq(w:Bool):wayB (.str (wayS w))=true:=by cases w<;>decide +kernel
structure Pt (n:Nat) (d:D):Prop where
 dep:depD d≤n
 wid:widD d≤99
 same:Ad (20+n) d=true
theorem Pt.int(i:Int):Pt 0 (.int i):=⟨by simp[depD],by simp[widD],by simp[Ad]⟩
end My
set_option exponentiation.threshold 5000
namespace My
open PySem L2
def JC:D→Option Nat
 |.int i=>if 0≤i then some i.toNat else none
 |_=>none
def Dr(d:D)(n:Int):Bool:=match d with
 |.int i=>decide (0≤i∧i<n)
 |_=>false
def atD:D→Bool
 |.tup _=>false
 |.lst _=>false
 |_=>true
mutual
def cpOk:D→Bool
 |.lst xs=>noLs xs
 |.tup xs=>uu xs
 |_=>true
def uu:List D→Bool
 |[]=>true
 |x::xs=>cpOk x && uu xs
end
mutual
inductive Cp:L→D→Prop where
 |d {x:D} (h:atD x=true):Cp (.d x) x
 |tup {ls:List L} {ds:List D} (h:Cps ls ds):Cp (.bx none ls) (.tup ds)
 |lst {a:Addr} {xs:List D} (h:noLs xs=true):Cp (.own a xs) (.lst xs)
inductive Cps:List L→List D→Prop where
 |nil:Cps [] []
 |cons {l:L} {d:D} {ls:List L} {ds:List D} (h:Cp l d) (t:Cps ls ds):Cps (l::ls) (d::ds)
end
mutual
theorem Ea:∀{l:L}{x:D},Cp l x→∀{k:D→Prop},k x→toD l k
 |_,_,.d _,_,h=>h
 | _,_,.tup t,_,h=>by
  show toDB none _ _
  rw[DV]
  exact Bc t h
 |_,_,.lst _,_,h=>h
theorem Bc:∀{ls:List L}{xs:List D},Cps ls xs→∀{k:List D→Prop},k xs→eraK ls k
 |_,_,.nil,_,h=>by rw[wQ];exact h
 | _,_,.cons c t,_,h=>by
  rw[tI]
  exact Ea c (Bc t h)
end
theorem xM{caps:Ev}{te:W L}{k:List L→Ev→Prop}:∀(xs:List D)(acc:List L)(l:L),
  (∀x∈xs,∀Q:Ev→L→Prop,(∀l,Cp l x→Q (.d x::caps) l)→te (.d x::caps) fun r ρ3=>Q ρ3 r) →
  (∀l' ls,Cps ls xs→k (acc++ls) (l'::caps))→kF (aI 0) bF te xs (l::caps) acc k
 | [],acc,l,_,fin=>by
  have:=fin l [] .nil
  rw[List.append_nil]at this
  exact this
 | x::xs,acc,l,step,fin=>by
  unfold kF
  show te (.d x::caps) _
  refine step x List.mem_cons_self (fun ρ r=>kF (aI 0) bF te xs ρ (acc++[r]) k) fun l1 c1=>?_
  refine xM xs (acc++[l1]) _ (fun y hy=>step y (List.mem_cons_of_mem _ hy)) fun l' ls cs=>?_
  rw[List.append_assoc]
  exact fin l' (l1::ls) (.cons c1 cs)
mutual
theorem Bd:∀d:D,noL d=true→cpOk d=true
 |.lst xs,h=>by simp[noL]at h
 | .tup xs,h=>by
  simp only[cpOk]
  exact xN xs (by simpa only[noL]using h)
 |.non,_=>rfl
 |.bl _,_=>rfl
 |.int _,_=>rfl
 |.str _,_=>rfl
 |.dct _,_=>rfl
 |.exc _ _ _,_=>rfl
theorem xN:∀ds:List D,noLs ds=true→uu ds=true
 |[],_=>rfl
 | d::ds,h=>by
  simp only[noLs,Bool.and_eq_true]at h
  simp only[uu,Bd d h.1,xN ds h.2,Bool.and_self]
end
theorem uv{x:D}:∀{xs:List D},uu xs=true→x∈xs→cpOk x=true
 | _::_,h,hm=>by
  simp only[uu,Bool.and_eq_true]at h
  rcases List.mem_cons.mp hm with rfl|hm
  ·
   exact h.1
  ·
   exact uv h.2 hm
theorem uw{x:D}:∀{xs:List D},noLs xs=true→x∈xs→noL x=true
 | _::_,h,hm=>by
  simp only[noLs,Bool.and_eq_true]at h
  rcases List.mem_cons.mp hm with rfl|hm
  ·
   exact h.1
  ·
   exact uw h.2 hm
theorem HW{l:L}{xs ys:List D}(h:Cp l (.tup [.lst xs,.lst ys])):∃a b,l=.bx none [.own a xs,.own b ys]:=by
 cases h with
 |d h=>cases h
 | tup h =>
  cases h with
  | cons h1 t =>
   cases t with
   | cons h2 t =>
    cases t
    cases h1 with
    |d h=>cases h
    | lst _ =>
     cases h2 with
     |d h=>cases h
     |lst _=>exact⟨_,_,rfl⟩
end My
set_option exponentiation.threshold 1000
namespace Hd
open PySem PySem.W PyProof.Rows
abbrev pr:Program:=PySem.Challenge.pw_ringloads_k50_best_ways_told
def top(i:Nat):Stmt:=pr.main.body.getD i (.Pass ⟨0,0,0,0⟩)
def Ds(st:Stmt)(j:Nat):Stmt:=match st with
 |.ClassDef _ _ _ b ..=>b.getD j (.Pass ⟨0,0,0,0⟩)
 |_=>.Pass ⟨0,0,0,0⟩
def Be(s:Stmt):Str:=match s with
 |.FunctionDef n ..=>n
 |_=>""
def HX(s:Stmt):Arguments:=match s with
 |.FunctionDef _ a _ _ _ _ _ _ _ _=>a
 |_=>{posonlyargs:=[],args:=[],vararg:=none,kwonlyargs:=[],kw_defaults:=[],kwarg:=none,defaults:=[] }
def Jk(s:Stmt):List Stmt:=match s with
 |.FunctionDef _ _ b _ _ _ _ _ _ _=>b
 |_=>[]
def HY(s:Stmt):Scope:=match s with
 |.FunctionDef _ _ _ _ _ _ sc _ _ _=>sc
 |_=>{kind:=.function,names:=[],isGenerator:=false,isCoroutine:=false}
def dPos(s:Stmt):Pos:=match s with
 |.FunctionDef _ _ _ _ _ _ _ _ _ p=>p
 |_=>⟨0,0,0,0⟩
def fdOf (st:Stmt) (q:Str) (g:Addr) (md cd:Value):FuncData:={ name:=Be st,qualname:=q,params:=HX st,body:=.stmts (Jk st),scope:=HY st,globals:=g,closure:=[],defaults:=.none,kwdefaults:=.none,doc:=.none,pyModule:=md,annotations:=none,code:=cd,closureTuple:=.none,builtins:=0 }
noncomputable def kh(P:Params)(x:Str):Int:=PySem.PyData.keyHash P x
def tupO(vs:List Value):Obj:=⟨.type "tuple",none,.seq vs.toArray 0,#[]⟩
def fldO(vs:List Value):Obj:=⟨.none,none,.fields vs.toArray,#[]⟩
def numb:Nat→List Str→List Value
 |_,[]=>[]
 |t,x::r=>.str x t::numb (t+1) r
def Ib(st:Stmt)(a t:Nat)(v1 v2:Value)(tm u:Nat):Obj:=⟨.type "code",none,.fields #[.str (Be st) t,.str (Be st) (t+1),.str "/claim/cut.py" (t+2),.int (dPos st).line 0,.int (HX st).args.length 0,.int 0 0,.int 0 0,.int 3 0,.ref a,.bool true,.int 181 0,.ref (a+1),.none,v1,v2,.ref tm,.int u 0,.int (dPos st).line 0,.str "/claim/cut.py" (u+1)],#[]⟩
def fnO(st:Stmt)(md:Value)(cd:Nat):Obj:=⟨.type "function",none,.func (fdOf st (Be st) 3 md (.ref cd)),#[]⟩
def tmO(st:Stmt):Obj:=⟨.none,none,.func (fdOf st (Be st) 0 .none .none),#[]⟩
def bD(st:Stmt)(a t:Nat)(vs:List Str)(md:Value):List Obj:=[tupO [],fldO [],tupO (numb (t+3) vs),tupO [],tmO st,Ib st a t (.ref (a+2)) (.ref (a+3)) (a+4) (t+3+vs.length),fnO st md (a+5)]
def dM(st:Stmt)(a t:Nat)(md:Value):List Obj:=[tupO [],fldO [],tmO st,Ib st a t .none .none (a+2) (t+3),fnO st md (a+3)]
noncomputable def pS (P:Params) (nm:Value) (es:List DictEntry) (n:Nat):Obj:=⟨.type "dict",none,.dict (([⟨kh P "__name__",.str "__name__" 165,nm⟩,⟨kh P "__doc__",.str "__doc__" 166,.none⟩,⟨kh P "__package__",.str "__package__" 167,.none⟩,⟨kh P "__loader__",.str "__loader__" 168,.builtin "__main__.__loader__#opaque"⟩,⟨kh P "__spec__",.str "__spec__" 169,.none⟩,⟨kh P "__annotations__",.str "__annotations__" 170,.ref 6⟩,⟨kh P "__builtins__",.str "__builtins__" 171,.ref 4⟩,⟨kh P "__file__",.str "__file__" 173,.str "/claim/cut.py" 172⟩,⟨kh P "__cached__",.str "__cached__" 174,.none⟩]:List DictEntry)++es).toArray n,#[]⟩
def modO:Obj:=⟨.type "code",none,.fields #[.str "<module>" 182,.str "<module>" 183,.str "/claim/cut.py" 184,.int 1 0,.int 0 0,.int 0 0,.int 0 0,.int 0 0,.ref 11,.bool false,.int 181 0,.ref 12,.none,.none,.none,.none,.int 185 0,.int 1 0,.str "/claim/cut.py" 186],#[]⟩
def frmO:Obj:=⟨.type "frame",none,.plain,#[some (.ref 13),some (.ref 3),some (.ref 3),none,some (.str "__main__" 164),none,some (.ref 0)]⟩
noncomputable def Gb(P:Params):List Obj:=[boot_o_0 P,boot_o_1 P,boot_o_2 P,boot_o_3 P,boot_o_4 P,boot_o_5 P,boot_o_6 P,boot_o_7 P,boot_o_8 P,boot_o_9 P,boot_o_10 P,tupO [],fldO [],modO,frmO]
def kN:Life:=⟨[],[],[],0,[],[],false,#[],[],0,false,false,false,0,[2000,10,10],false,0,true,[],[],0,false⟩
noncomputable def Jl(l:List (Nat×Obj))(b:Nat):Option Obj:=@List.rec (Nat×Obj) (fun _=>Option Obj) none (fun x _ ih=>bif Nat.beq x.1 b then some x.2 else ih) l
noncomputable def Ic(P:Params)(ob:Params→Nat→Obj)(b:Nat):Obj:=bif b.blt 15 then(Gb P).getD b default else ob P b
noncomputable def memN(l:List Nat)(b:Nat):Bool:=@List.rec Nat (fun _=>Bool) false (fun x _ ih=>@Bool.rec (fun _=>Bool) ih true (Nat.beq x b)) l
noncomputable def obAt(ks:List Nat)(P:Params)(ov:List (Nat×Obj))(ob:Params→Nat→Obj)(b j:Nat):Obj:=@Bool.rec (fun _=>Obj) (Ic P ob b) ((Jl ov b).getD default) (memN ks b)
noncomputable def L0(n:Nat)(f:Nat→Obj)(a b j:Nat):BT:=.nil
noncomputable def L1(n:Nat)(f:Nat→Obj)(a b j:Nat):BT:=@Bool.rec (fun _=>BT) .nil (.node (f b) (L0 n f (2*a) (a+b) j) (L0 n f (2*a) (2*a+b) j)) (b.blt n)
noncomputable def L2(n:Nat)(f:Nat→Obj)(a b j:Nat):BT:=@Bool.rec (fun _=>BT) .nil (.node (f b) (L1 n f (2*a) (a+b) j) (L1 n f (2*a) (2*a+b) j)) (b.blt n)
noncomputable def L3(n:Nat)(f:Nat→Obj)(a b j:Nat):BT:=@Bool.rec (fun _=>BT) .nil (.node (f b) (L2 n f (2*a) (a+b) j) (L2 n f (2*a) (2*a+b) j)) (b.blt n)
noncomputable def L4(n:Nat)(f:Nat→Obj)(a b j:Nat):BT:=@Bool.rec (fun _=>BT) .nil (.node (f b) (L3 n f (2*a) (a+b) j) (L3 n f (2*a) (2*a+b) j)) (b.blt n)
noncomputable def L5(n:Nat)(f:Nat→Obj)(a b j:Nat):BT:=@Bool.rec (fun _=>BT) .nil (.node (f b) (L4 n f (2*a) (a+b) j) (L4 n f (2*a) (2*a+b) j)) (b.blt n)
noncomputable def L6(n:Nat)(f:Nat→Obj)(a b j:Nat):BT:=@Bool.rec (fun _=>BT) .nil (.node (f b) (L5 n f (2*a) (a+b) j) (L5 n f (2*a) (2*a+b) j)) (b.blt n)
noncomputable def L7(n:Nat)(f:Nat→Obj)(a b j:Nat):BT:=@Bool.rec (fun _=>BT) .nil (.node (f b) (L6 n f (2*a) (a+b) j) (L6 n f (2*a) (2*a+b) j)) (b.blt n)
noncomputable def L8(n:Nat)(f:Nat→Obj)(a b j:Nat):BT:=@Bool.rec (fun _=>BT) .nil (.node (f b) (L7 n f (2*a) (a+b) j) (L7 n f (2*a) (2*a+b) j)) (b.blt n)
noncomputable def L9(n:Nat)(f:Nat→Obj)(a b j:Nat):BT:=@Bool.rec (fun _=>BT) .nil (.node (f b) (L8 n f (2*a) (a+b) j) (L8 n f (2*a) (2*a+b) j)) (b.blt n)
noncomputable def L10(n:Nat)(f:Nat→Obj)(a b j:Nat):BT:=@Bool.rec (fun _=>BT) .nil (.node (f b) (L9 n f (2*a) (a+b) j) (L9 n f (2*a) (2*a+b) j)) (b.blt n)
noncomputable def L11(n:Nat)(f:Nat→Obj)(a b j:Nat):BT:=@Bool.rec (fun _=>BT) .nil (.node (f b) (L10 n f (2*a) (a+b) j) (L10 n f (2*a) (2*a+b) j)) (b.blt n)
noncomputable def L12(n:Nat)(f:Nat→Obj)(a b j:Nat):BT:=@Bool.rec (fun _=>BT) .nil (.node (f b) (L11 n f (2*a) (a+b) j) (L11 n f (2*a) (2*a+b) j)) (b.blt n)
theorem jd{p:Program}{w:World}{m:Nat}{ann:Option Value}{b n:Nat}{s:SharedT}{t:Thread}{r:Option (Flow×SharedT×Code×Pos)}(h:Fast.tw10110043849684766642 Fast.tw14364793385576792824 p w m ann b n s t=r):segRunT treeTable p w m ann b n s t=r:=by
 rw[Fast.te10110043849684766642,Fast.te14364793385576792824];exact h
theorem Ie{p:Program}{w:World}{m:Nat}{ann:Option Value}{n:Nat}{s:Shared}{t:Thread}{r:Option Shared}(h:Fast.tw14082659384304107361 Fast.tw14364793385576792824 p w m ann n s t=r):topRun treeTable p w m ann n s t=r:=by
 rw[Fast.te14082659384304107361,Fast.te14364793385576792824];exact h
theorem Ig:denote treeTable=Fast.tw11892475500146522536 Fast.tw14364793385576792824:=by rw[← Fast.te11892475500146522536,← Fast.te14364793385576792824]
theorem Jm{p:Program}{w:World}{m:Nat}{ann:Option Value}{n:Nat}{s:Shared}{t:Thread}{r:Option (Shared×Thread)}(h:Fast.tw15667345088766844465 Fast.tw14364793385576792824 p w m ann n s t=r):topGo treeTable p w m ann n s t=r:=by
 rw[Fast.te15667345088766844465,Fast.te14364793385576792824];exact h
theorem Gc{b b':List Stmt}(e:b=b'){tb:String→Option Builtin}{p:Program}{w:World}{m:Nat}{ann:Option Value}{n:Nat}{s:Shared}{env:Env}{c:Code}{ps:Pos}{B:List Frame}{r:Option Shared}(h:topRun tb p w m ann n s (restOf b' env c ps B)=r):topRun tb p w m ann n s (restOf b env c ps B)=r:=by rw[e];exact h
noncomputable def f1(P:Params):List Obj:=bD (top 1) 15 189 ["one","other","rest"] (.str "ringloads.divisors" 187)
noncomputable def f2(P:Params):List Obj:=bD (top 2) 22 198 ["one","other"] (.str "ringloads.divisors" 187)
noncomputable def f4(P:Params):List Obj:=bD (top 4) 29 208 ["thing"] (.str "ringloads.names" 206)
noncomputable def f5(P:Params):List Obj:=bD (top 5) 36 215 ["thing","many"] (.str "ringloads.names" 206)
noncomputable def f6(P:Params):List Obj:=bD (top 6) 43 223 ["thing"] (.str "ringloads.names" 206)
noncomputable def f7(P:Params):List Obj:=bD (top 7) 50 230 ["thing","word","length"] (.str "ringloads.names" 206)
noncomputable def f9(P:Params):List Obj:=[(Obj.mk (.type "tuple") none (.seq #[(.type "ValueError")] 0) #[]),
 (Obj.mk (.type "builtin_function_or_method") none (.fields #[(.builtin "type.__prepare__"),(.type "type")]) #[]),
 (Obj.mk (.type "dict") none (.dict #[(DictEntry.mk (kh P "__module__") (.str "__module__" 248) (.str "ringloads.errors" 239)),(DictEntry.mk (kh P "__qualname__") (.str "__qualname__" 250) (.str "LoadError" 249)),(DictEntry.mk (kh P "__firstlineno__") (.str "__firstlineno__" 252) (.int 22 251)),(DictEntry.mk (kh P "__init__") (.str "__init__" 260) (.ref 70)),(DictEntry.mk (kh P "__static_attributes__") (.str "__static_attributes__" 261) (.ref 71))] 5) #[]),
 (Obj.mk (.type "tuple") none (.seq #[] 0) #[]),
 (Obj.mk .none none (.fields #[(.int 24 0),(.int 4 0),(.ref 69)]) #[]),
 (Obj.mk (.type "code") none (.fields #[(.str "LoadError" 243),(.str "LoadError" 244),(.str "/claim/cut.py" 245),(.int 22 0),(.int 0 0),(.int 0 0),(.int 0 0),(.int 0 0),(.ref 60),(.bool false),(.int 181 0),(.ref 61),.none,.none,.none,.none,(.int 246 0),(.int 22 0),(.str "/claim/cut.py" 247)]) #[]),
 (Obj.mk (.type "frame") none .plain #[(some (.ref 62)),(some (.ref 3)),(some (.ref 59)),none,(some (.str "ringloads.errors" 239)),none,(some (.ref 0))]),
 (Obj.mk (.type "tuple") none (.seq #[] 0) #[]),
 (Obj.mk .none none (.fields #[]) #[]),
 (Obj.mk (.type "tuple") none (.seq #[(.str "self" 256),(.str "text" 257)] 0) #[]),
 (Obj.mk (.type "tuple") none (.seq #[] 0) #[]),
 (Obj.mk .none none (.func (fdOf (Ds (top 9) 0) "LoadError.__init__" 0 .none .none)) #[]),
 (Obj.mk (.type "code") none (.fields #[(.str "__init__" 253),(.str "LoadError.__init__" 254),(.str "/claim/cut.py" 255),(.int 24 0),(.int 2 0),(.int 0 0),(.int 0 0),(.int 3 0),(.ref 64),(.bool true),(.int 181 0),(.ref 65),.none,(.ref 66),(.ref 67),(.ref 68),(.int 258 0),(.int 24 0),(.str "/claim/cut.py" 259)]) #[]),
 (Obj.mk (.type "function") none (.func (fdOf (Ds (top 9) 0) "LoadError.__init__" 3 (.str "ringloads.errors" 239) (.ref 69))) #[]),
 (Obj.mk (.type "tuple") none (.seq #[] 0) #[]),
 (Obj.mk (.type "dict") none (.dict #[(DictEntry.mk (kh P "__module__") (.str "__module__" 248) (.str "ringloads.errors" 239)),(DictEntry.mk (kh P "__firstlineno__") (.str "__firstlineno__" 252) (.int 22 251)),(DictEntry.mk (kh P "__init__") (.str "__init__" 260) (.ref 70)),(DictEntry.mk (kh P "__static_attributes__") (.str "__static_attributes__" 261) (.ref 71)),(DictEntry.mk (kh P "__weakref__") (.str "__weakref__" 263) (.ref 74)),(DictEntry.mk (kh P "__doc__") (.str "__doc__" 264) .none)] 3) #[]),
 (Obj.mk (.type "type") none (.cls (PySem.ClassData.mk "LoadError" [(.type "ValueError")] [(.ref 73),(.type "ValueError"),(.type "Exception"),(.type "BaseException"),(.type "object")] 72 "LoadError" true [] [(.ref 86),(.ref 105),(.ref 117)] false none false)) #[(some (.ref 57)),none,(some (.str "LoadError" 241)),(some (.str "LoadError" 249)),(some (.builtin "ValueError.__new__")),(some (.bool true))]),
 (Obj.mk (.type "getset_descriptor") none (.fields #[(.str "__weakref__" 262),(.ref 73),(.builtin "ExceptionGroup.__weakref__"),.none]) #[]),
 (Obj.mk (.type "super") none (.fields #[(.ref 73),(.ref 73),(.ref 73)]) #[]),
 (Obj.mk (.type "builtin_function_or_method") none (.fields #[(.builtin "object.__init_subclass__"),(.ref 73)]) #[])]
noncomputable def f10(P:Params):List Obj:=[(Obj.mk (.type "tuple") none (.seq #[(.ref 73)] 0) #[]),
 (Obj.mk (.type "builtin_function_or_method") none (.fields #[(.builtin "type.__prepare__"),(.type "type")]) #[]),
 (Obj.mk (.type "dict") none (.dict #[(DictEntry.mk (kh P "__module__") (.str "__module__" 274) (.str "ringloads.errors" 239)),(DictEntry.mk (kh P "__qualname__") (.str "__qualname__" 276) (.str "NoNumber" 275)),(DictEntry.mk (kh P "__firstlineno__") (.str "__firstlineno__" 278) (.int 26 277)),(DictEntry.mk (kh P "__static_attributes__") (.str "__static_attributes__" 279) (.ref 84))] 4) #[]),
 (Obj.mk (.type "tuple") none (.seq #[] 0) #[]),
 (Obj.mk .none none (.fields #[]) #[]),
 (Obj.mk (.type "code") none (.fields #[(.str "NoNumber" 269),(.str "NoNumber" 270),(.str "/claim/cut.py" 271),(.int 26 0),(.int 0 0),(.int 0 0),(.int 0 0),(.int 0 0),(.ref 80),(.bool false),(.int 181 0),(.ref 81),.none,.none,.none,.none,(.int 272 0),(.int 26 0),(.str "/claim/cut.py" 273)]) #[]),
 (Obj.mk (.type "frame") none .plain #[(some (.ref 82)),(some (.ref 3)),(some (.ref 79)),none,(some (.str "ringloads.errors" 239)),none,(some (.ref 0))]),
 (Obj.mk (.type "tuple") none (.seq #[] 0) #[]),
 (Obj.mk (.type "dict") none (.dict #[(DictEntry.mk (kh P "__module__") (.str "__module__" 274) (.str "ringloads.errors" 239)),(DictEntry.mk (kh P "__firstlineno__") (.str "__firstlineno__" 278) (.int 26 277)),(DictEntry.mk (kh P "__static_attributes__") (.str "__static_attributes__" 279) (.ref 84)),(DictEntry.mk (kh P "__doc__") (.str "__doc__" 280) .none)] 2) #[]),
 (Obj.mk (.type "type") none (.cls (PySem.ClassData.mk "NoNumber" [(.ref 73)] [(.ref 86),(.ref 73),(.type "ValueError"),(.type "Exception"),(.type "BaseException"),(.type "object")] 85 "NoNumber" true [] [] false none false)) #[(some (.ref 77)),none,(some (.str "NoNumber" 267)),(some (.str "NoNumber" 275)),(some (.builtin "ValueError.__new__")),(some (.bool true))]),
 (Obj.mk (.type "super") none (.fields #[(.ref 86),(.ref 86),(.ref 86)]) #[]),
 (Obj.mk (.type "builtin_function_or_method") none (.fields #[(.builtin "object.__init_subclass__"),(.ref 86)]) #[])]
noncomputable def f11(P:Params):List Obj:=[(Obj.mk (.type "tuple") none (.seq #[(.ref 73)] 0) #[]),
 (Obj.mk (.type "builtin_function_or_method") none (.fields #[(.builtin "type.__prepare__"),(.type "type")]) #[]),
 (Obj.mk (.type "dict") none (.dict #[(DictEntry.mk (kh P "__module__") (.str "__module__" 290) (.str "ringloads.errors" 239)),(DictEntry.mk (kh P "__qualname__") (.str "__qualname__" 292) (.str "NoTree" 291)),(DictEntry.mk (kh P "__firstlineno__") (.str "__firstlineno__" 294) (.int 28 293)),(DictEntry.mk (kh P "__init__") (.str "__init__" 302) (.ref 102)),(DictEntry.mk (kh P "__static_attributes__") (.str "__static_attributes__" 304) (.ref 103))] 5) #[]),
 (Obj.mk (.type "tuple") none (.seq #[] 0) #[]),
 (Obj.mk .none none (.fields #[(.int 30 0),(.int 4 0),(.ref 101)]) #[]),
 (Obj.mk (.type "code") none (.fields #[(.str "NoTree" 285),(.str "NoTree" 286),(.str "/claim/cut.py" 287),(.int 28 0),(.int 0 0),(.int 0 0),(.int 0 0),(.int 0 0),(.ref 92),(.bool false),(.int 181 0),(.ref 93),.none,.none,.none,.none,(.int 288 0),(.int 28 0),(.str "/claim/cut.py" 289)]) #[]),
 (Obj.mk (.type "frame") none .plain #[(some (.ref 94)),(some (.ref 3)),(some (.ref 91)),none,(some (.str "ringloads.errors" 239)),none,(some (.ref 0))]),
 (Obj.mk (.type "tuple") none (.seq #[] 0) #[]),
 (Obj.mk .none none (.fields #[]) #[]),
 (Obj.mk (.type "tuple") none (.seq #[(.str "self" 298),(.str "way" 299)] 0) #[]),
 (Obj.mk (.type "tuple") none (.seq #[] 0) #[]),
 (Obj.mk .none none (.func (fdOf (Ds (top 11) 0) "NoTree.__init__" 0 .none .none)) #[]),
 (Obj.mk (.type "code") none (.fields #[(.str "__init__" 295),(.str "NoTree.__init__" 296),(.str "/claim/cut.py" 297),(.int 30 0),(.int 2 0),(.int 0 0),(.int 0 0),(.int 3 0),(.ref 96),(.bool true),(.int 181 0),(.ref 97),.none,(.ref 98),(.ref 99),(.ref 100),(.int 300 0),(.int 30 0),(.str "/claim/cut.py" 301)]) #[]),
 (Obj.mk (.type "function") none (.func (fdOf (Ds (top 11) 0) "NoTree.__init__" 3 (.str "ringloads.errors" 239) (.ref 101))) #[]),
 (Obj.mk (.type "tuple") none (.seq #[(.str "way" 303)] 0) #[]),
 (Obj.mk (.type "dict") none (.dict #[(DictEntry.mk (kh P "__module__") (.str "__module__" 290) (.str "ringloads.errors" 239)),(DictEntry.mk (kh P "__firstlineno__") (.str "__firstlineno__" 294) (.int 28 293)),(DictEntry.mk (kh P "__init__") (.str "__init__" 302) (.ref 102)),(DictEntry.mk (kh P "__static_attributes__") (.str "__static_attributes__" 304) (.ref 103)),(DictEntry.mk (kh P "__doc__") (.str "__doc__" 305) .none)] 2) #[]),
 (Obj.mk (.type "type") none (.cls (PySem.ClassData.mk "NoTree" [(.ref 73)] [(.ref 105),(.ref 73),(.type "ValueError"),(.type "Exception"),(.type "BaseException"),(.type "object")] 104 "NoTree" true [] [] false none false)) #[(some (.ref 89)),none,(some (.str "NoTree" 283)),(some (.str "NoTree" 291)),(some (.builtin "ValueError.__new__")),(some (.bool true))]),
 (Obj.mk (.type "super") none (.fields #[(.ref 105),(.ref 105),(.ref 105)]) #[]),
 (Obj.mk (.type "builtin_function_or_method") none (.fields #[(.builtin "object.__init_subclass__"),(.ref 105)]) #[])]
noncomputable def f12(P:Params):List Obj:=[(Obj.mk (.type "tuple") none (.seq #[(.ref 73)] 0) #[]),
 (Obj.mk (.type "builtin_function_or_method") none (.fields #[(.builtin "type.__prepare__"),(.type "type")]) #[]),
 (Obj.mk (.type "dict") none (.dict #[(DictEntry.mk (kh P "__module__") (.str "__module__" 315) (.str "ringloads.errors" 239)),(DictEntry.mk (kh P "__qualname__") (.str "__qualname__" 317) (.str "TooMany" 316)),(DictEntry.mk (kh P "__firstlineno__") (.str "__firstlineno__" 319) (.int 33 318)),(DictEntry.mk (kh P "__static_attributes__") (.str "__static_attributes__" 320) (.ref 115))] 4) #[]),
 (Obj.mk (.type "tuple") none (.seq #[] 0) #[]),
 (Obj.mk .none none (.fields #[]) #[]),
 (Obj.mk (.type "code") none (.fields #[(.str "TooMany" 310),(.str "TooMany" 311),(.str "/claim/cut.py" 312),(.int 33 0),(.int 0 0),(.int 0 0),(.int 0 0),(.int 0 0),(.ref 111),(.bool false),(.int 181 0),(.ref 112),.none,.none,.none,.none,(.int 313 0),(.int 33 0),(.str "/claim/cut.py" 314)]) #[]),
 (Obj.mk (.type "frame") none .plain #[(some (.ref 113)),(some (.ref 3)),(some (.ref 110)),none,(some (.str "ringloads.errors" 239)),none,(some (.ref 0))]),
 (Obj.mk (.type "tuple") none (.seq #[] 0) #[]),
 (Obj.mk (.type "dict") none (.dict #[(DictEntry.mk (kh P "__module__") (.str "__module__" 315) (.str "ringloads.errors" 239)),(DictEntry.mk (kh P "__firstlineno__") (.str "__firstlineno__" 319) (.int 33 318)),(DictEntry.mk (kh P "__static_attributes__") (.str "__static_attributes__" 320) (.ref 115)),(DictEntry.mk (kh P "__doc__") (.str "__doc__" 321) .none)] 2) #[]),
 (Obj.mk (.type "type") none (.cls (PySem.ClassData.mk "TooMany" [(.ref 73)] [(.ref 117),(.ref 73),(.type "ValueError"),(.type "Exception"),(.type "BaseException"),(.type "object")] 116 "TooMany" true [] [] false none false)) #[(some (.ref 108)),none,(some (.str "TooMany" 308)),(some (.str "TooMany" 316)),(some (.builtin "ValueError.__new__")),(some (.bool true))]),
 (Obj.mk (.type "super") none (.fields #[(.ref 117),(.ref 117),(.ref 117)]) #[]),
 (Obj.mk (.type "builtin_function_or_method") none (.fields #[(.builtin "object.__init_subclass__"),(.ref 117)]) #[])]
noncomputable def f14(P:Params):List Obj:=[(Obj.mk (.type "tuple") none (.seq #[(.int 0 326),(.int 1 327)] 0) #[])]
noncomputable def f15(P:Params):List Obj:=bD (top 15) 121 329 ["top","bottom","shared"] (.str "ringloads.ratios" 324)
noncomputable def f16(P:Params):List Obj:=bD (top 16) 128 338 ["one","other"] (.str "ringloads.ratios" 324)
noncomputable def f17(P:Params):List Obj:=bD (top 17) 135 346 ["one","other"] (.str "ringloads.ratios" 324)
noncomputable def f18(P:Params):List Obj:=bD (top 18) 142 354 ["one","other"] (.str "ringloads.ratios" 324)
noncomputable def f19(P:Params):List Obj:=bD (top 19) 149 362 ["one","other"] (.str "ringloads.ratios" 324)
noncomputable def f20(P:Params):List Obj:=bD (top 20) 156 370 ["one","other"] (.str "ringloads.ratios" 324)
noncomputable def f21(P:Params):List Obj:=bD (top 21) 163 378 ["some","whole","one"] (.str "ringloads.ratios" 324)
noncomputable def f23(P:Params):List Obj:=bD (top 23) 170 389 ["ring","thing"] (.str "ringloads.cuts" 387)
noncomputable def f24(P:Params):List Obj:=bD (top 24) 177 397 ["cut","place"] (.str "ringloads.cuts" 387)
noncomputable def f25(P:Params):List Obj:=bD (top 25) 184 405 ["cut","one","other"] (.str "ringloads.cuts" 387)
noncomputable def f26(P:Params):List Obj:=dM (top 26) 191 414 (.str "ringloads.cuts" 387)
noncomputable def f28(P:Params):List Obj:=dM (top 28) 196 422 (.str "ringloads.units" 420)
noncomputable def f29(P:Params):List Obj:=bD (top 29) 201 428 ["some","bottom","one"] (.str "ringloads.units" 420)
noncomputable def f30(P:Params):List Obj:=dM (top 30) 208 437 (.str "ringloads.units" 420)
noncomputable def f34(P:Params):List Obj:=bD (top 34) 213 449 ["way"] (.str "ringloads.ways" 443)
noncomputable def f35(P:Params):List Obj:=bD (top 35) 220 456 ["ring","k","way","tie","places","one","other","lies_on"] (.str "ringloads.ways" 443)
noncomputable def f37(P:Params):List Obj:=bD (top 37) 227 472 ["ring","sending","k","tie"] (.str "ringloads.loads" 470)
noncomputable def f38(P:Params):List Obj:=dM (top 38) 234 482 (.str "ringloads.loads" 470)
noncomputable def f39(P:Params):List Obj:=dM (top 39) 239 488 (.str "ringloads.loads" 470)
noncomputable def f40(P:Params):List Obj:=dM (top 40) 244 494 (.str "ringloads.loads" 470)
noncomputable def f41(P:Params):List Obj:=bD (top 41) 249 500 ["ring","sending","strains","top","tie","strain"] (.str "ringloads.loads" 470)
noncomputable def f43(P:Params):List Obj:=dM (top 43) 256 514 (.str "ringloads.sendings" 512)
noncomputable def f44(P:Params):List Obj:=bD (top 44) 261 520 ["ring","ways"] (.str "ringloads.sendings" 512)
noncomputable def f46(P:Params):List Obj:=dM (top 46) 268 530 (.str "ringloads.wishes" 528)
noncomputable def f47(P:Params):List Obj:=bD (top 47) 273 536 ["wish","load","bound"] (.str "ringloads.wishes" 528)
noncomputable def f48(P:Params):List Obj:=bD (top 48) 280 545 ["wish","ways"] (.str "ringloads.wishes" 528)
noncomputable def f54(P:Params):List Obj:=bD (top 54) 287 563 ["thing"] (.str "ringloads.trees" 553)
noncomputable def f55(P:Params):List Obj:=dM (top 55) 294 570 (.str "ringloads.trees" 553)
noncomputable def f56(P:Params):List Obj:=bD (top 56) 299 576 ["here","way","tree","fixed"] (.str "ringloads.trees" 553)
noncomputable def f57(P:Params):List Obj:=bD (top 57) 306 586 ["ring","wish","scale","fixed","thing"] (.str "ringloads.trees" 553)
noncomputable def f58(P:Params):List Obj:=dM (top 58) 313 597 (.str "ringloads.trees" 553)
noncomputable def f59(P:Params):List Obj:=dM (top 59) 318 603 (.str "ringloads.trees" 553)
noncomputable def f62(P:Params):List Obj:=dM (top 62) 323 613 (.str "ringloads.search" 609)
noncomputable def f63(P:Params):List Obj:=dM (top 63) 328 619 (.str "ringloads.search" 609)
noncomputable def f64(P:Params):List Obj:=dM (top 64) 333 625 (.str "ringloads.search" 609)
noncomputable def f65(P:Params):List Obj:=bD (top 65) 338 631 ["wish","bounds","fixed","loads","cut","bound"] (.str "ringloads.search" 609)
noncomputable def f67(P:Params):List Obj:=dM (top 67) 345 645 (.str "ringloads.best" 643)
noncomputable def f68(P:Params):List Obj:=dM (top 68) 350 651 (.str "ringloads.best" 643)
noncomputable def f70(P:Params):List Obj:=bD (top 70) 355 659 ["_law_script","_law_k","_law_cell"] (.str "law_ringloads_k50_best_ways_told" 657)
noncomputable def f71(P:Params):List Obj:=bD (top 71) 362 668 ["_law_state","_law_many","_law_digit","_law_drawn","_law_turn"] (.str "law_ringloads_k50_best_ways_told" 657)
noncomputable def f72(P:Params):List Obj:=bD (top 72) 369 679 ["_law_top_here","_law_bottom","_law_one","_law_share"] (.str "law_ringloads_k50_best_ways_told" 657)
noncomputable def f73(P:Params):List Obj:=bD (top 73) 376 689 ["_law_state","_law_least_here","_law_kind","_law_bottom","_law_top_here"] (.str "law_ringloads_k50_best_ways_told" 657)
noncomputable def f74(P:Params):List Obj:=dM (top 74) 383 700 (.str "law_ringloads_k50_best_ways_told" 657)
noncomputable def f75(P:Params):List Obj:=bD (top 75) 388 706 ["_law_state","_law_ties","_law_kind","_law_alike","_law_one","_law_rooms_here","_law_more"] (.str "law_ringloads_k50_best_ways_told" 657)
noncomputable def f76(P:Params):List Obj:=bD (top 76) 395 719 ["_law_state","_law_shape","_law_places","_law_k","_law_one","_law_other"] (.str "law_ringloads_k50_best_ways_told" 657)
noncomputable def f77(P:Params):List Obj:=bD (top 77) 402 731 ["_law_script","_law_at","_law_most","_law_count","_law_state","_law_places","_law_many","_law_kinds","_law_shape","_law_names_here","_law_rooms_here","_law_asks","_law_k","_law_one","_law_other"] (.str "law_ringloads_k50_best_ways_told" 657)
noncomputable def f78(P:Params):List Obj:=dM (top 78) 409 752 (.str "law_ringloads_k50_best_ways_told" 657)
noncomputable def f79(P:Params):List Obj:=bD (top 79) 414 758 ["_law_ring_here","_law_found","_law_name","_law_one","_law_other","_law_size","_law_ties","_law_place"] (.str "law_ringloads_k50_best_ways_told" 657)
noncomputable def f80(P:Params):List Obj:=dM (top 80) 421 772 (.str "law_ringloads_k50_best_ways_told" 657)
noncomputable def f81(P:Params):List Obj:=bD (top 81) 426 778 ["_law_ring_here","_law_loads_here","_law_bottom","_law_best","_law_tie","_law_room","_law_strain"] (.str "law_ringloads_k50_best_ways_told" 657)
noncomputable def f82(P:Params):List Obj:=dM (top 82) 433 791 (.str "law_ringloads_k50_best_ways_told" 657)
noncomputable def f83(P:Params):List Obj:=bD (top 83) 438 797 ["_law_ring_here","_law_on_here","_law_wholes_here","_law_least_here","_law_ways","_law_top_here"] (.str "law_ringloads_k50_best_ways_told" 657)
noncomputable def f84(P:Params):List Obj:=bD (top 84) 445 809 ["_law_ring_here","_law_wish","_law_tree"] (.str "law_ringloads_k50_best_ways_told" 657)
noncomputable def f85(P:Params):List Obj:=dM (top 85) 452 818 (.str "law_ringloads_k50_best_ways_told" 657)
noncomputable def f86(P:Params):List Obj:=dM (top 86) 457 824 (.str "law_ringloads_k50_best_ways_told" 657)
noncomputable def f87(P:Params):List Obj:=dM (top 87) 462 830 (.str "law_ringloads_k50_best_ways_told" 657)
noncomputable def f88(P:Params):List Obj:=dM (top 88) 467 836 (.str "law_ringloads_k50_best_ways_told" 657)
noncomputable def Jn(P:Params)(b:Nat):Obj:=(bif b.blt 43 then(bif b.blt 29 then(bif b.blt 22 then(f1 P).getD (b-15) default else(f2 P).getD (b-22) default)else(bif b.blt 36 then(f4 P).getD (b-29) default else(f5 P).getD (b-36) default))else(bif b.blt 57 then(bif b.blt 50 then(f6 P).getD (b-43) default else(f7 P).getD (b-50) default)else(bif b.blt 77 then(f9 P).getD (b-57) default else(f10 P).getD (b-77) default)))
noncomputable def Jo(P:Params)(b:Nat):Obj:=(bif b.blt 128 then(bif b.blt 120 then(bif b.blt 108 then(f11 P).getD (b-89) default else(f12 P).getD (b-108) default)else(bif b.blt 121 then(f14 P).getD (b-120) default else(f15 P).getD (b-121) default))else(bif b.blt 142 then(bif b.blt 135 then(f16 P).getD (b-128) default else(f17 P).getD (b-135) default)else(bif b.blt 149 then(f18 P).getD (b-142) default else(bif b.blt 156 then(f19 P).getD (b-149) default else(f20 P).getD (b-156) default))))
noncomputable def obll(P:Params)(b:Nat):Obj:=bif b.blt 89 then Jn P b else Jo P b
noncomputable def Jp(P:Params)(b:Nat):Obj:=(bif b.blt 191 then(bif b.blt 177 then(bif b.blt 170 then(f21 P).getD (b-163) default else(f23 P).getD (b-170) default)else(bif b.blt 184 then(f24 P).getD (b-177) default else(f25 P).getD (b-184) default))else(bif b.blt 201 then(bif b.blt 196 then(f26 P).getD (b-191) default else(f28 P).getD (b-196) default)else(bif b.blt 208 then(f29 P).getD (b-201) default else(f30 P).getD (b-208) default)))
noncomputable def Jq(P:Params)(b:Nat):Obj:=(bif b.blt 239 then(bif b.blt 227 then(bif b.blt 220 then(f34 P).getD (b-213) default else(f35 P).getD (b-220) default)else(bif b.blt 234 then(f37 P).getD (b-227) default else(f38 P).getD (b-234) default))else(bif b.blt 249 then(bif b.blt 244 then(f39 P).getD (b-239) default else(f40 P).getD (b-244) default)else(bif b.blt 256 then(f41 P).getD (b-249) default else(bif b.blt 261 then(f43 P).getD (b-256) default else(f44 P).getD (b-261) default))))
noncomputable def oblr(P:Params)(b:Nat):Obj:=bif b.blt 213 then Jp P b else Jq P b
noncomputable def obl(P:Params)(b:Nat):Obj:=bif b.blt 163 then obll P b else oblr P b
noncomputable def Jr(P:Params)(b:Nat):Obj:=(bif b.blt 294 then(bif b.blt 280 then(bif b.blt 273 then(f46 P).getD (b-268) default else(f47 P).getD (b-273) default)else(bif b.blt 287 then(f48 P).getD (b-280) default else(f54 P).getD (b-287) default))else(bif b.blt 306 then(bif b.blt 299 then(f55 P).getD (b-294) default else(f56 P).getD (b-299) default)else(bif b.blt 313 then(f57 P).getD (b-306) default else(f58 P).getD (b-313) default)))
noncomputable def Js(P:Params)(b:Nat):Obj:=(bif b.blt 338 then(bif b.blt 328 then(bif b.blt 323 then(f59 P).getD (b-318) default else(f62 P).getD (b-323) default)else(bif b.blt 333 then(f63 P).getD (b-328) default else(f64 P).getD (b-333) default))else(bif b.blt 350 then(bif b.blt 345 then(f65 P).getD (b-338) default else(f67 P).getD (b-345) default)else(bif b.blt 355 then(f68 P).getD (b-350) default else(bif b.blt 362 then(f70 P).getD (b-355) default else(f71 P).getD (b-362) default))))
noncomputable def obrl(P:Params)(b:Nat):Obj:=bif b.blt 318 then Jr P b else Js P b
noncomputable def Jt(P:Params)(b:Nat):Obj:=(bif b.blt 395 then(bif b.blt 383 then(bif b.blt 376 then(f72 P).getD (b-369) default else(f73 P).getD (b-376) default)else(bif b.blt 388 then(f74 P).getD (b-383) default else(f75 P).getD (b-388) default))else(bif b.blt 409 then(bif b.blt 402 then(f76 P).getD (b-395) default else(f77 P).getD (b-402) default)else(bif b.blt 414 then(f78 P).getD (b-409) default else(f79 P).getD (b-414) default)))
noncomputable def Ju(P:Params)(b:Nat):Obj:=(bif b.blt 445 then(bif b.blt 433 then(bif b.blt 426 then(f80 P).getD (b-421) default else(f81 P).getD (b-426) default)else(bif b.blt 438 then(f82 P).getD (b-433) default else(f83 P).getD (b-438) default))else(bif b.blt 457 then(bif b.blt 452 then(f84 P).getD (b-445) default else(f85 P).getD (b-452) default)else(bif b.blt 462 then(f86 P).getD (b-457) default else(bif b.blt 467 then(f87 P).getD (b-462) default else(f88 P).getD (b-467) default))))
noncomputable def obrr(P:Params)(b:Nat):Obj:=bif b.blt 421 then Jt P b else Ju P b
noncomputable def obr(P:Params)(b:Nat):Obj:=bif b.blt 369 then obrl P b else obrr P b
noncomputable def ob(P:Params)(b:Nat):Obj:=bif b.blt 268 then obl P b else obr P b
noncomputable def ents(P:Params):List DictEntry:=[(DictEntry.mk (kh P "greatest_shared") (.str "greatest_shared" 197) (.ref 21)),
 (DictEntry.mk (kh P "least_common") (.str "least_common" 205) (.ref 28)),
 (DictEntry.mk (kh P "is_whole") (.str "is_whole" 214) (.ref 35)),
 (DictEntry.mk (kh P "is_number_below") (.str "is_number_below" 222) (.ref 42)),
 (DictEntry.mk (kh P "are_two_wholes") (.str "are_two_wholes" 229) (.ref 49)),
 (DictEntry.mk (kh P "is_told_as") (.str "is_told_as" 238) (.ref 56)),
 (DictEntry.mk (kh P "LoadError") (.str "LoadError" 266) (.ref 73)),
 (DictEntry.mk (kh P "NoNumber") (.str "NoNumber" 282) (.ref 86)),
 (DictEntry.mk (kh P "NoTree") (.str "NoTree" 307) (.ref 105)),
 (DictEntry.mk (kh P "TooMany") (.str "TooMany" 323) (.ref 117)),
 (DictEntry.mk (kh P "NOUGHT") (.str "NOUGHT" 328) (.ref 120)),
 (DictEntry.mk (kh P "lowest") (.str "lowest" 337) (.ref 127)),
 (DictEntry.mk (kh P "plus") (.str "plus" 345) (.ref 134)),
 (DictEntry.mk (kh P "minus") (.str "minus" 353) (.ref 141)),
 (DictEntry.mk (kh P "times") (.str "times" 361) (.ref 148)),
 (DictEntry.mk (kh P "over") (.str "over" 369) (.ref 155)),
 (DictEntry.mk (kh P "under") (.str "under" 377) (.ref 162)),
 (DictEntry.mk (kh P "sum_of") (.str "sum_of" 386) (.ref 169)),
 (DictEntry.mk (kh P "is_cut") (.str "is_cut" 396) (.ref 176)),
 (DictEntry.mk (kh P "is_within") (.str "is_within" 404) (.ref 183)),
 (DictEntry.mk (kh P "parts_places") (.str "parts_places" 413) (.ref 190)),
 (DictEntry.mk (kh P "all_cuts") (.str "all_cuts" 419) (.ref 195)),
 (DictEntry.mk (kh P "weighed") (.str "weighed" 427) (.ref 200)),
 (DictEntry.mk (kh P "common_bottom") (.str "common_bottom" 436) (.ref 207)),
 (DictEntry.mk (kh P "in_units") (.str "in_units" 442) (.ref 212)),
 (DictEntry.mk (kh P "ON") (.str "ON" 446) (.str "on" 445)),
 (DictEntry.mk (kh P "BACK") (.str "BACK" 448) (.str "back" 447)),
 (DictEntry.mk (kh P "other_way") (.str "other_way" 455) (.ref 219)),
 (DictEntry.mk (kh P "is_over") (.str "is_over" 469) (.ref 226)),
 (DictEntry.mk (kh P "sent_over") (.str "sent_over" 481) (.ref 233)),
 (DictEntry.mk (kh P "load_of") (.str "load_of" 487) (.ref 238)),
 (DictEntry.mk (kh P "loads_of") (.str "loads_of" 493) (.ref 243)),
 (DictEntry.mk (kh P "strains_of") (.str "strains_of" 499) (.ref 248)),
 (DictEntry.mk (kh P "top_of") (.str "top_of" 511) (.ref 255)),
 (DictEntry.mk (kh P "sent_by") (.str "sent_by" 519) (.ref 260)),
 (DictEntry.mk (kh P "top_by") (.str "top_by" 527) (.ref 267)),
 (DictEntry.mk (kh P "turned_by") (.str "turned_by" 535) (.ref 272)),
 (DictEntry.mk (kh P "is_too_much") (.str "is_too_much" 544) (.ref 279)),
 (DictEntry.mk (kh P "are_too_many") (.str "are_too_many" 552) (.ref 286)),
 (DictEntry.mk (kh P "CUT") (.str "CUT" 556) (.str "cut" 555)),
 (DictEntry.mk (kh P "TURNED") (.str "TURNED" 558) (.str "turned" 557)),
 (DictEntry.mk (kh P "SPLIT") (.str "SPLIT" 560) (.str "split" 559)),
 (DictEntry.mk (kh P "MOST_WALKED") (.str "MOST_WALKED" 562) (.int 300 561)),
 (DictEntry.mk (kh P "is_split") (.str "is_split" 569) (.ref 293)),
 (DictEntry.mk (kh P "look_at_tree") (.str "look_at_tree" 575) (.ref 298)),
 (DictEntry.mk (kh P "branch_of") (.str "branch_of" 585) (.ref 305)),
 (DictEntry.mk (kh P "can_stand") (.str "can_stand" 596) (.ref 312)),
 (DictEntry.mk (kh P "is_too_full") (.str "is_too_full" 602) (.ref 317)),
 (DictEntry.mk (kh P "times_over") (.str "times_over" 608) (.ref 322)),
 (DictEntry.mk (kh P "MOST_SEARCHED") (.str "MOST_SEARCHED" 612) (.int 7 611)),
 (DictEntry.mk (kh P "ways_for") (.str "ways_for" 618) (.ref 327)),
 (DictEntry.mk (kh P "bounds_of") (.str "bounds_of" 624) (.ref 332)),
 (DictEntry.mk (kh P "searched") (.str "searched" 630) (.ref 337)),
 (DictEntry.mk (kh P "reason_against") (.str "reason_against" 642) (.ref 344)),
 (DictEntry.mk (kh P "wish_for_less") (.str "wish_for_less" 650) (.ref 349)),
 (DictEntry.mk (kh P "best_ways") (.str "best_ways" 656) (.ref 354)),
 (DictEntry.mk (kh P "_law_begun") (.str "_law_begun" 667) (.ref 361)),
 (DictEntry.mk (kh P "_law_take") (.str "_law_take" 678) (.ref 368)),
 (DictEntry.mk (kh P "_law_low") (.str "_law_low" 688) (.ref 375)),
 (DictEntry.mk (kh P "_law_amount") (.str "_law_amount" 699) (.ref 382)),
 (DictEntry.mk (kh P "_law_names") (.str "_law_names" 705) (.ref 387)),
 (DictEntry.mk (kh P "_law_rooms") (.str "_law_rooms" 718) (.ref 394)),
 (DictEntry.mk (kh P "_law_ends") (.str "_law_ends" 730) (.ref 401)),
 (DictEntry.mk (kh P "_law_ring") (.str "_law_ring" 751) (.ref 408)),
 (DictEntry.mk (kh P "_law_wholes") (.str "_law_wholes" 757) (.ref 413)),
 (DictEntry.mk (kh P "_law_on") (.str "_law_on" 771) (.ref 420)),
 (DictEntry.mk (kh P "_law_loads") (.str "_law_loads" 777) (.ref 425)),
 (DictEntry.mk (kh P "_law_top") (.str "_law_top" 790) (.ref 432)),
 (DictEntry.mk (kh P "_law_all_ways") (.str "_law_all_ways" 796) (.ref 437)),
 (DictEntry.mk (kh P "_law_least") (.str "_law_least" 808) (.ref 444)),
 (DictEntry.mk (kh P "_law_lets") (.str "_law_lets" 817) (.ref 451)),
 (DictEntry.mk (kh P "_law_are_ways") (.str "_law_are_ways" 823) (.ref 456)),
 (DictEntry.mk (kh P "_law_copy") (.str "_law_copy" 829) (.ref 461)),
 (DictEntry.mk (kh P "_law_good") (.str "_law_good" 835) (.ref 466)),
 (DictEntry.mk (kh P "law") (.str "law" 841) (.ref 471))]
def plc:List Value:=[(.int 2 0),(.int 0 0),(.ref 20),(.int 8 0),(.int 0 0),(.ref 27),(.int 11 0),(.int 0 0),(.ref 34),(.int 13 0),(.int 0 0),(.ref 41),(.int 15 0),(.int 0 0),(.ref 48),(.int 17 0),(.int 0 0),(.ref 55),(.int 22 0),(.int 0 0),(.ref 62),(.int 26 0),(.int 0 0),(.ref 82),(.int 28 0),(.int 0 0),(.ref 94),(.int 33 0),(.int 0 0),(.ref 113),(.int 37 0),(.int 0 0),(.ref 126),(.int 42 0),(.int 0 0),(.ref 133),(.int 44 0),(.int 0 0),(.ref 140),(.int 46 0),(.int 0 0),(.ref 147),(.int 48 0),(.int 0 0),(.ref 154),(.int 52 0),(.int 0 0),(.ref 161),(.int 54 0),(.int 0 0),(.ref 168),(.int 60 0),(.int 0 0),(.ref 175),(.int 62 0),(.int 0 0),(.ref 182),(.int 64 0),(.int 0 0),(.ref 189),(.int 66 0),(.int 0 0),(.ref 194),(.int 72 0),(.int 0 0),(.ref 199),(.int 77 0),(.int 0 0),(.ref 206),(.int 82 0),(.int 0 0),(.ref 211),(.int 87 0),(.int 0 0),(.ref 218),(.int 89 0),(.int 0 0),(.ref 225),(.int 96 0),(.int 0 0),(.ref 232),(.int 100 0),(.int 0 0),(.ref 237),(.int 102 0),(.int 0 0),(.ref 242),(.int 104 0),(.int 0 0),(.ref 247),(.int 106 0),(.int 0 0),(.ref 254),(.int 114 0),(.int 0 0),(.ref 259),(.int 116 0),(.int 0 0),(.ref 266),(.int 119 0),(.int 0 0),(.ref 271),(.int 122 0),(.int 0 0),(.ref 278),(.int 124 0),(.int 0 0),(.ref 285),(.int 131 0),(.int 0 0),(.ref 292),(.int 133 0),(.int 0 0),(.ref 297),(.int 145 0),(.int 0 0),(.ref 304),(.int 150 0),(.int 0 0),(.ref 311),(.int 156 0),(.int 0 0),(.ref 316),(.int 160 0),(.int 0 0),(.ref 321),(.int 166 0),(.int 0 0),(.ref 326),(.int 171 0),(.int 0 0),(.ref 331),(.int 177 0),(.int 0 0),(.ref 336),(.int 192 0),(.int 0 0),(.ref 343),(.int 200 0),(.int 0 0),(.ref 348),(.int 202 0),(.int 0 0),(.ref 353),(.int 211 0),(.int 0 0),(.ref 360),(.int 216 0),(.int 0 0),(.ref 367),(.int 227 0),(.int 0 0),(.ref 374),(.int 235 0),(.int 0 0),(.ref 381),(.int 239 0),(.int 0 0),(.ref 386),(.int 245 0),(.int 0 0),(.ref 393),(.int 255 0),(.int 0 0),(.ref 400),(.int 265 0),(.int 0 0),(.ref 407),(.int 279 0),(.int 0 0),(.ref 412),(.int 288 0),(.int 0 0),(.ref 419),(.int 298 0),(.int 0 0),(.ref 424),(.int 305 0),(.int 0 0),(.ref 431),(.int 313 0),(.int 0 0),(.ref 436),(.int 318 0),(.int 0 0),(.ref 443),(.int 325 0),(.int 0 0),(.ref 450),(.int 331 0),(.int 0 0),(.ref 455),(.int 335 0),(.int 0 0),(.ref 460),(.int 341 0),(.int 0 0),(.ref 465),(.int 349 0),(.int 0 0),(.ref 470)]
noncomputable def ov0(P:Params):List (Nat×Obj):=[(12,fldO (plc.take 0))]
noncomputable def T0(P:Params):BT:=L12 15 (fun b=>obAt [12] P (ov0 P) ob b 0) 1 0 0
noncomputable abbrev S0(w:World)(os:OsState):SharedT:=⟨T0 w.params,15,kN,#[],⟨0,0,0,0⟩,187,os⟩
noncomputable def ov1(P:Params):List (Nat×Obj):=[(3,pS P (.str "ringloads.errors" 239) ((ents P).take 6) 15),(12,fldO (plc.take 18))]
noncomputable def T1(P:Params):BT:=L12 57 (fun b=>obAt [3,12] P (ov1 P) ob b 1) 1 0 1
noncomputable abbrev S1(w:World)(os:OsState):SharedT:=⟨T1 w.params,57,kN,#[],⟨0,0,0,0⟩,241,os⟩
noncomputable def ov2(P:Params):List (Nat×Obj):=[(3,pS P (.str "ringloads.errors" 239) ((ents P).take 7) 16),(12,fldO (plc.take 21)),(73,(Obj.mk (.type "type") none (.cls (PySem.ClassData.mk "LoadError" [(.type "ValueError")] [(.ref 73),(.type "ValueError"),(.type "Exception"),(.type "BaseException"),(.type "object")] 72 "LoadError" true [] [] false none false)) #[(some (.ref 57)),none,(some (.str "LoadError" 241)),(some (.str "LoadError" 249)),(some (.builtin "ValueError.__new__")),(some (.bool true))]))]
noncomputable def T2(P:Params):BT:=L12 77 (fun b=>obAt [3,12,73] P (ov2 P) ob b 2) 1 0 2
noncomputable abbrev S2(w:World)(os:OsState):SharedT:=⟨T2 w.params,77,kN,#[],⟨0,0,0,0⟩,267,os⟩
noncomputable def ov3(P:Params):List (Nat×Obj):=[(3,pS P (.str "ringloads.errors" 239) ((ents P).take 8) 17),(12,fldO (plc.take 24)),(73,(Obj.mk (.type "type") none (.cls (PySem.ClassData.mk "LoadError" [(.type "ValueError")] [(.ref 73),(.type "ValueError"),(.type "Exception"),(.type "BaseException"),(.type "object")] 72 "LoadError" true [] [(.ref 86)] false none false)) #[(some (.ref 57)),none,(some (.str "LoadError" 241)),(some (.str "LoadError" 249)),(some (.builtin "ValueError.__new__")),(some (.bool true))]))]
noncomputable def T3(P:Params):BT:=L12 89 (fun b=>obAt [3,12,73] P (ov3 P) ob b 3) 1 0 3
noncomputable abbrev S3(w:World)(os:OsState):SharedT:=⟨T3 w.params,89,kN,#[],⟨0,0,0,0⟩,283,os⟩
noncomputable def ov4(P:Params):List (Nat×Obj):=[(3,pS P (.str "ringloads.errors" 239) ((ents P).take 9) 18),(12,fldO (plc.take 27)),(73,(Obj.mk (.type "type") none (.cls (PySem.ClassData.mk "LoadError" [(.type "ValueError")] [(.ref 73),(.type "ValueError"),(.type "Exception"),(.type "BaseException"),(.type "object")] 72 "LoadError" true [] [(.ref 86),(.ref 105)] false none false)) #[(some (.ref 57)),none,(some (.str "LoadError" 241)),(some (.str "LoadError" 249)),(some (.builtin "ValueError.__new__")),(some (.bool true))]))]
noncomputable def T4(P:Params):BT:=L12 108 (fun b=>obAt [3,12,73] P (ov4 P) ob b 4) 1 0 4
noncomputable abbrev S4(w:World)(os:OsState):SharedT:=⟨T4 w.params,108,kN,#[],⟨0,0,0,0⟩,308,os⟩
noncomputable def ov5(P:Params):List (Nat×Obj):=[(3,pS P (.str "ringloads.ratios" 324) ((ents P).take 16) 25),(12,fldO (plc.take 45))]
noncomputable def T5(P:Params):BT:=L12 156 (fun b=>obAt [3,12] P (ov5 P) ob b 5) 1 0 5
noncomputable abbrev S5(w:World)(os:OsState):SharedT:=⟨T5 w.params,156,kN,#[],⟨0,0,0,0⟩,370,os⟩
noncomputable def ov6(P:Params):List (Nat×Obj):=[(3,pS P (.str "ringloads.loads" 470) ((ents P).take 29) 38),(12,fldO (plc.take 78))]
noncomputable def T6(P:Params):BT:=L12 227 (fun b=>obAt [3,12] P (ov6 P) ob b 6) 1 0 6
noncomputable abbrev S6(w:World)(os:OsState):SharedT:=⟨T6 w.params,227,kN,#[],⟨0,0,0,0⟩,472,os⟩
noncomputable def ov7(P:Params):List (Nat×Obj):=[(3,pS P (.str "ringloads.trees" 553) ((ents P).take 44) 53),(12,fldO (plc.take 111))]
noncomputable def T7(P:Params):BT:=L12 294 (fun b=>obAt [3,12] P (ov7 P) ob b 7) 1 0 7
noncomputable abbrev S7(w:World)(os:OsState):SharedT:=⟨T7 w.params,294,kN,#[],⟨0,0,0,0⟩,570,os⟩
noncomputable def ov8(P:Params):List (Nat×Obj):=[(3,pS P (.str "law_ringloads_k50_best_ways_told" 657) ((ents P).take 57) 66),(12,fldO (plc.take 147))]
noncomputable def T8(P:Params):BT:=L12 362 (fun b=>obAt [3,12] P (ov8 P) ob b 8) 1 0 8
noncomputable abbrev S8(w:World)(os:OsState):SharedT:=⟨T8 w.params,362,kN,#[],⟨0,0,0,0⟩,668,os⟩
noncomputable def ov9(P:Params):List (Nat×Obj):=[(3,pS P (.str "law_ringloads_k50_best_ways_told" 657) ((ents P).take 69) 78),(12,fldO (plc.take 183))]
noncomputable def T9(P:Params):BT:=L12 438 (fun b=>obAt [3,12] P (ov9 P) ob b 9) 1 0 9
noncomputable abbrev S9(w:World)(os:OsState):SharedT:=⟨T9 w.params,438,kN,#[],⟨0,0,0,0⟩,797,os⟩
noncomputable def ov10(P:Params):List (Nat×Obj):=[(3,pS P (.str "law_ringloads_k50_best_ways_told" 657) ((ents P).take 75) 84),(12,fldO (plc.take 201))]
noncomputable def T10(P:Params):BT:=L12 472 (fun b=>obAt [3,12] P (ov10 P) ob b 10) 1 0 10
noncomputable abbrev S10(w:World)(os:OsState):SharedT:=⟨T10 w.params,472,kN,#[],⟨0,0,0,0⟩,842,os⟩
abbrev env:Env:={scope:=pr.main.scope,locals:=mainNs,globals:=mainNs,cells:=[],code:=.ref 13,frame:=some 14}
abbrev cE:Code:=.body (behindTheImports pr) env
abbrev B:List Frame:=[topFrame ⟨0,0,0,0⟩]
def sts1:List Stmt:=(pr.main.body.drop 0).take 9
theorem pc1(w:World)(os:OsState):segRunT treeTable pr w 11 (some (.ref 6)) 1 208 (S0 w os) (piecesOf sts1 env cE ⟨0,0,0,0⟩ B)=some (.next,S1 w os,cE,⟨21,0,21,8⟩):=jd (by kernel_rfl)
def sts2:List Stmt:=(pr.main.body.drop 9).take 1
theorem pc2(w:World)(os:OsState):segRunT treeTable pr w 11 (some (.ref 6)) 1 218 (S1 w os) (piecesOf sts2 env cE ⟨21,0,21,8⟩ B)=some (.next,S2 w os,cE,⟨22,0,25,39⟩):=jd (by kernel_rfl)
def sts3:List Stmt:=(pr.main.body.drop 10).take 1
theorem pc3(w:World)(os:OsState):segRunT treeTable pr w 11 (some (.ref 6)) 1 214 (S2 w os) (piecesOf sts3 env cE ⟨22,0,25,39⟩ B)=some (.next,S3 w os,cE,⟨26,0,27,8⟩):=jd (by kernel_rfl)
def sts4:List Stmt:=(pr.main.body.drop 11).take 1
theorem pc4(w:World)(os:OsState):segRunT treeTable pr w 11 (some (.ref 6)) 1 246 (S3 w os) (piecesOf sts4 env cE ⟨26,0,27,8⟩ B)=some (.next,S4 w os,cE,⟨28,0,32,28⟩):=jd (by kernel_rfl)
def sts5:List Stmt:=(pr.main.body.drop 12).take 8
theorem pc5(w:World)(os:OsState):segRunT treeTable pr w 11 (some (.ref 6)) 1 386 (S4 w os) (piecesOf sts5 env cE ⟨28,0,32,28⟩ B)=some (.next,S5 w os,cE,⟨48,0,51,55⟩):=jd (by kernel_rfl)
def sts6:List Stmt:=(pr.main.body.drop 20).take 17
theorem pc6(w:World)(os:OsState):segRunT treeTable pr w 11 (some (.ref 6)) 1 381 (S5 w os) (piecesOf sts6 env cE ⟨48,0,51,55⟩ B)=some (.next,S6 w os,cE,⟨95,0,95,8⟩):=jd (by kernel_rfl)
def sts7:List Stmt:=(pr.main.body.drop 37).take 18
theorem pc7(w:World)(os:OsState):segRunT treeTable pr w 11 (some (.ref 6)) 1 380 (S6 w os) (piecesOf sts7 env cE ⟨95,0,95,8⟩ B)=some (.next,S7 w os,cE,⟨131,0,132,38⟩):=jd (by kernel_rfl)
def sts8:List Stmt:=(pr.main.body.drop 55).take 16
theorem pc8(w:World)(os:OsState):segRunT treeTable pr w 11 (some (.ref 6)) 1 375 (S7 w os) (piecesOf sts8 env cE ⟨131,0,132,38⟩ B)=some (.next,S8 w os,cE,⟨211,0,215,115⟩):=jd (by kernel_rfl)
def sts9:List Stmt:=(pr.main.body.drop 71).take 12
theorem pc9(w:World)(os:OsState):segRunT treeTable pr w 11 (some (.ref 6)) 1 386 (S8 w os) (piecesOf sts9 env cE ⟨211,0,215,115⟩ B)=some (.next,S9 w os,cE,⟨313,0,317,21⟩):=jd (by kernel_rfl)
def Ih:List Stmt:=(pr.main.body.drop 83).take 6
theorem pc10(w:World)(os:OsState):segRunT treeTable pr w 11 (some (.ref 6)) 1 170 (S9 w os) (piecesOf Ih env cE ⟨313,0,317,21⟩ B)=some (.next,S10 w os,cE,⟨349,0,363,112⟩):=jd (by kernel_rfl)
noncomputable abbrev H1(P:Params):Heap:=absHeap (T10 P) 472 kN
theorem pre(w:World)(os:OsState):topGo treeTable pr w 11 (some (.ref 6)) 12 ⟨boot_heap w.params,#[],boot_drawn,boot_toks,os⟩ (topStub pr)=some (⟨⟨⟨Gb w.params⟩,kN⟩,#[],⟨0,0,0,0⟩,187,os⟩,⟨denote treeTable cE,cE,⟨0,0,0,0⟩,B⟩):=by rw[Ig];exact Jm (by kernel_rfl)
theorem Ee(w:World)(os:OsState):segRun treeTable pr w 11 (some (.ref 6)) 1 1 ⟨⟨⟨Gb w.params⟩,kN⟩,#[],⟨0,0,0,0⟩,187,os⟩ (blockOf (behindTheImports pr) env cE ⟨0,0,0,0⟩ B)=some (.next,(S0 w os).abs,cE,⟨0,0,0,0⟩):=by kernel_rfl
theorem fin(w:World)(os:OsState):topRun treeTable pr w 11 (some (.ref 6)) 2 (S10 w os).abs ⟨doneF .next,cE,⟨349,0,363,112⟩,B⟩=some ⟨H1 w.params,#[],⟨0,0,0,0⟩,842,os⟩:=Ie (by kernel_rfl)
theorem Gd:behindTheImports pr=(sts1++(sts2++(sts3++(sts4++(sts5++(sts6++(sts7++(sts8++(sts9++(Ih++[])))))))))):=by kernel_rfl
theorem run(w:World)(os:OsState):topRun treeTable pr w 11 (some (.ref 6)) (12+(1+(208+(218+(214+(246+(386+(381+(380+(375+(386+(170+2)))))))))))) ⟨boot_heap w.params,#[],boot_drawn,boot_toks,os⟩ (topStub pr)=some ⟨H1 w.params,#[],⟨0,0,0,0⟩,842,os⟩ :=
 go_top (pre w os) (piece_block (Ee w os) (Gc Gd (piece_app (segRun_of (pc1 w os)) (piece_app (segRun_of (pc2 w os)) (piece_app (segRun_of (pc3 w os)) (piece_app (segRun_of (pc4 w os)) (piece_app (segRun_of (pc5 w os)) (piece_app (segRun_of (pc6 w os)) (piece_app (segRun_of (pc7 w os)) (piece_app (segRun_of (pc8 w os)) (piece_app (segRun_of (pc9 w os)) (piece_app (segRun_of (pc10 w os)) (piece_nil (fin w os))))))))))))))
abbrev q:Program:=view pr [88]
def loose:List Str:=(["greatest_shared","least_common","is_whole","is_number_below","are_two_wholes","is_told_as","LoadError","NoNumber","NoTree","TooMany","NOUGHT","lowest","plus","minus","times","over","under","sum_of","is_cut","is_within","parts_places","all_cuts","weighed","common_bottom","in_units","ON","BACK","other_way","is_over","sent_over","load_of","loads_of","strains_of","top_of","sent_by","top_by","turned_by","is_too_much","are_too_many","CUT","TURNED","SPLIT","MOST_WALKED","is_split","look_at_tree","branch_of","can_stand","is_too_full","times_over","MOST_SEARCHED","ways_for","bounds_of","searched","reason_against","wish_for_less","best_ways","_law_begun","_law_take","_law_low","_law_amount","_law_names","_law_rooms","_law_ends","_law_ring","_law_wholes","_law_on","_law_loads","_law_top","_law_all_ways","_law_least","_law_lets","_law_are_ways","_law_copy","_law_good"]:List String).map Str.ofString
noncomputable def Kf(P:Params):Frag:=(3,((ov10 P).getD 0 (0,default)).2)::[(20,(f1 P).getD 5 default),(21,(f1 P).getD 6 default),(27,(f2 P).getD 5 default),(28,(f2 P).getD 6 default),(34,(f4 P).getD 5 default),(35,(f4 P).getD 6 default),(41,(f5 P).getD 5 default),(42,(f5 P).getD 6 default),(48,(f6 P).getD 5 default),(49,(f6 P).getD 6 default),(55,(f7 P).getD 5 default),(56,(f7 P).getD 6 default),(57,(f9 P).getD 0 default),(58,(f9 P).getD 1 default),(59,(f9 P).getD 2 default),(60,(f9 P).getD 3 default),(61,(f9 P).getD 4 default),(62,(f9 P).getD 5 default),(63,(f9 P).getD 6 default),(64,(f9 P).getD 7 default),(65,(f9 P).getD 8 default),(66,(f9 P).getD 9 default),(67,(f9 P).getD 10 default),(68,(f9 P).getD 11 default),(69,(f9 P).getD 12 default),(70,(f9 P).getD 13 default),(71,(f9 P).getD 14 default),(72,(f9 P).getD 15 default),(73,(f9 P).getD 16 default),(74,(f9 P).getD 17 default),(75,(f9 P).getD 18 default),(76,(f9 P).getD 19 default),(77,(f10 P).getD 0 default),(78,(f10 P).getD 1 default),(79,(f10 P).getD 2 default),(80,(f10 P).getD 3 default),(81,(f10 P).getD 4 default),(82,(f10 P).getD 5 default),(83,(f10 P).getD 6 default),(84,(f10 P).getD 7 default),(85,(f10 P).getD 8 default),(86,(f10 P).getD 9 default),(87,(f10 P).getD 10 default),(88,(f10 P).getD 11 default),(89,(f11 P).getD 0 default),(90,(f11 P).getD 1 default),(91,(f11 P).getD 2 default),(92,(f11 P).getD 3 default),(93,(f11 P).getD 4 default),(94,(f11 P).getD 5 default),(95,(f11 P).getD 6 default),(96,(f11 P).getD 7 default),(97,(f11 P).getD 8 default),(98,(f11 P).getD 9 default),(99,(f11 P).getD 10 default),(100,(f11 P).getD 11 default),(101,(f11 P).getD 12 default),(102,(f11 P).getD 13 default),(103,(f11 P).getD 14 default),(104,(f11 P).getD 15 default),(105,(f11 P).getD 16 default),(106,(f11 P).getD 17 default),(107,(f11 P).getD 18 default),(108,(f12 P).getD 0 default),(109,(f12 P).getD 1 default),(110,(f12 P).getD 2 default),(111,(f12 P).getD 3 default),(112,(f12 P).getD 4 default),(113,(f12 P).getD 5 default),(114,(f12 P).getD 6 default),(115,(f12 P).getD 7 default),(116,(f12 P).getD 8 default),(117,(f12 P).getD 9 default),(118,(f12 P).getD 10 default),(119,(f12 P).getD 11 default),(120,(f14 P).getD 0 default),(126,(f15 P).getD 5 default),(127,(f15 P).getD 6 default),(133,(f16 P).getD 5 default),(134,(f16 P).getD 6 default),(140,(f17 P).getD 5 default),(141,(f17 P).getD 6 default),(147,(f18 P).getD 5 default),(148,(f18 P).getD 6 default),(154,(f19 P).getD 5 default),(155,(f19 P).getD 6 default),(161,(f20 P).getD 5 default),(162,(f20 P).getD 6 default),(168,(f21 P).getD 5 default),(169,(f21 P).getD 6 default),(175,(f23 P).getD 5 default),(176,(f23 P).getD 6 default),(182,(f24 P).getD 5 default),(183,(f24 P).getD 6 default),(189,(f25 P).getD 5 default),(190,(f25 P).getD 6 default),(194,(f26 P).getD 3 default),(195,(f26 P).getD 4 default),(199,(f28 P).getD 3 default),(200,(f28 P).getD 4 default),(206,(f29 P).getD 5 default),(207,(f29 P).getD 6 default),(211,(f30 P).getD 3 default),(212,(f30 P).getD 4 default),(218,(f34 P).getD 5 default),(219,(f34 P).getD 6 default),(225,(f35 P).getD 5 default),(226,(f35 P).getD 6 default),(232,(f37 P).getD 5 default),(233,(f37 P).getD 6 default),(237,(f38 P).getD 3 default),(238,(f38 P).getD 4 default),(242,(f39 P).getD 3 default),(243,(f39 P).getD 4 default),(247,(f40 P).getD 3 default),(248,(f40 P).getD 4 default),(254,(f41 P).getD 5 default),(255,(f41 P).getD 6 default),(259,(f43 P).getD 3 default),(260,(f43 P).getD 4 default),(266,(f44 P).getD 5 default),(267,(f44 P).getD 6 default),(271,(f46 P).getD 3 default),(272,(f46 P).getD 4 default),(278,(f47 P).getD 5 default),(279,(f47 P).getD 6 default),(285,(f48 P).getD 5 default),(286,(f48 P).getD 6 default),(292,(f54 P).getD 5 default),(293,(f54 P).getD 6 default),(297,(f55 P).getD 3 default),(298,(f55 P).getD 4 default),(304,(f56 P).getD 5 default),(305,(f56 P).getD 6 default),(311,(f57 P).getD 5 default),(312,(f57 P).getD 6 default),(316,(f58 P).getD 3 default),(317,(f58 P).getD 4 default),(321,(f59 P).getD 3 default),(322,(f59 P).getD 4 default),(326,(f62 P).getD 3 default),(327,(f62 P).getD 4 default),(331,(f63 P).getD 3 default),(332,(f63 P).getD 4 default),(336,(f64 P).getD 3 default),(337,(f64 P).getD 4 default),(343,(f65 P).getD 5 default),(344,(f65 P).getD 6 default),(348,(f67 P).getD 3 default),(349,(f67 P).getD 4 default),(353,(f68 P).getD 3 default),(354,(f68 P).getD 4 default),(360,(f70 P).getD 5 default),(361,(f70 P).getD 6 default),(367,(f71 P).getD 5 default),(368,(f71 P).getD 6 default),(374,(f72 P).getD 5 default),(375,(f72 P).getD 6 default),(381,(f73 P).getD 5 default),(382,(f73 P).getD 6 default),(386,(f74 P).getD 3 default),(387,(f74 P).getD 4 default),(393,(f75 P).getD 5 default),(394,(f75 P).getD 6 default),(400,(f76 P).getD 5 default),(401,(f76 P).getD 6 default),(407,(f77 P).getD 5 default),(408,(f77 P).getD 6 default),(412,(f78 P).getD 3 default),(413,(f78 P).getD 4 default),(419,(f79 P).getD 5 default),(420,(f79 P).getD 6 default),(424,(f80 P).getD 3 default),(425,(f80 P).getD 4 default),(431,(f81 P).getD 5 default),(432,(f81 P).getD 6 default),(436,(f82 P).getD 3 default),(437,(f82 P).getD 4 default),(443,(f83 P).getD 5 default),(444,(f83 P).getD 6 default),(450,(f84 P).getD 5 default),(451,(f84 P).getD 6 default),(455,(f85 P).getD 3 default),(456,(f85 P).getD 4 default),(460,(f86 P).getD 3 default),(461,(f86 P).getD 4 default),(465,(f87 P).getD 3 default),(466,(f87 P).getD 4 default),(470,(f88 P).getD 3 default),(471,(f88 P).getD 4 default)]
abbrev as:List Addr:=[3,20,21,27,28,34,35,41,42,48,49,55,56,57,58,59,60,61,62,63,64,65,66,67,68,69,70,71,72,73,74,75,76,77,78,79,80,81,82,83,84,85,86,87,88,89,90,91,92,93,94,95,96,97,98,99,100,101,102,103,104,105,106,107,108,109,110,111,112,113,114,115,116,117,118,119,120,126,127,133,134,140,141,147,148,154,155,161,162,168,169,175,176,182,183,189,190,194,195,199,200,206,207,211,212,218,219,225,226,232,233,237,238,242,243,247,248,254,255,259,260,266,267,271,272,278,279,285,286,292,293,297,298,304,305,311,312,316,317,321,322,326,327,331,332,336,337,343,344,348,349,353,354,360,361,367,368,374,375,381,382,386,387,393,394,400,401,407,408,412,413,419,420,424,425,431,432,436,437,443,444,450,451,455,456,460,461,465,466,470,471]
noncomputable abbrev Hk:Hook:=kHook Kf as (fun _=>by kernel_rfl)
abbrev Xt:Shared→Bool:=fun s=>xlAt q [] s && recOk (RowW.records PySem.Challenge.rw_ringloads_k50_best_ways_told.row.toRowW) s
theorem size (w:World):((boot_heap w.params).isNs mainGlobals && (#[]:Array GenState).size == 0,(boot_heap w.params).objs.size,(boot_heap w.params).nsMap mainGlobals "__annotations__")=(true,11,some (.ref 6)):=by kernel_rfl
theorem Jv(w:World)(os:OsState):(staticsOk (importedModules pr.main.body) (boot_heap w.params) (H1 w.params) && namesBound pr (H1 w.params) && gensDone ⟨H1 w.params,#[],⟨0,0,0,0⟩,842,os⟩ && laidKept (boot_heap w.params) (H1 w.params))=true:=by kernel_rfl
theorem Jw(w:World)(os:OsState):openSeen q loose (importedModules pr.main.body) Xt true ⟨H1 w.params,#[],⟨0,0,0,0⟩,842,os⟩=openGood q loose:=by rw[Fast.te4187177175401517315];kernel_rfl
theorem Jx(w:World)(os:OsState):Hk.obs ⟨H1 w.params,#[],⟨0,0,0,0⟩,842,os⟩=Hk.val w:=by kernel_rfl
theorem Ii:opening pr=plainProg pr.main.scope.names:=by kernel_rfl
theorem left:LeftO pr q loose Xt Hk.obs Hk.val 6608:=LeftO.of_pieces (M:=(12+(1+(208+(218+(214+(246+(386+(381+(380+(375+(386+(170+2))))))))))))) (boot_open Ii (by decide) (fun s=>by kernel_rfl)) size run (by decide +kernel) (fun w=>funext fun os=>looks_pair (Jv w os) (looks_pair (Jw w os) (Jx w os)))
end Hd
namespace My
open PySem L2
local macro_rules | `(tactic| walk_at "w")=>do
 let ids:=("Ae CB Fp Ag CD xj Cn zR GZ B4 Ew G0 B5 Ex Ce G9 EM EW Hj IS EX Hl IT Fc IU yk IV rj z5 nI inV' isBx DV GY wQ tI vp Hi Cm EU zN yj Cq vt mC wSeq wIf aP wBin wUn wVar fS wC wSet wRet jD bE aC bU aW aVal aVar aNil toD toDs i5 isBl wTup wLst wNot wAnd wOr jC wOrV B7 wIfE wFrz dc wIxV vm zu wApp nc qq noL noLs dm Co EV zQ List.all_cons List.all_nil Bool.and_true Bool.true_and wExt wPop ownV wPar EJ wFor lH ED wSrc yi wZip zipK zipE seqK Cw Fj ES tT vD vE yp aI Al Am CO fU bP jF a7 kv eE ya opLt opLe opGt opGe opEq opNe xZ CI CJ CK CL CM Fu Fv Fw Fx Hy Hz Fz FD Ja Jb As Au FF Hc Ci Ai nK Aw Aj xr qx ub HD CN List.length_map Ak An Ao Ap CP yq Aq vF vG vH ud vI rp CQ Fy yc zt wW i7 CS FG CT CU CV CW yr ue uf Av FH ye tS Cd beq_self_eq_true String.reduceBEq String.reduceEq reduceCtorEq wSl2 yd bX bg cz aF yg zG ql oa zF Hb List.getElem?_cons_zero List.getElem?_cons_succ List.set_cons_zero List.set_cons_succ List.cons_append List.nil_append List.replicate_succ List.replicate_zero List.map_cons List.map_nil List.drop_succ_cons List.drop_zero Option.getD_some true_and decide_eq_true_eq Bool.not_eq_true' decide_eq_false_iff_not ite_true ite_false Bool.false_eq_true Bool.true_eq_false if_true if_false List.length_cons List.length_nil Nat.reduceAdd Nat.reduceSub vA vB Hw Hx IX ix30 ix31 ix32 Option.some.injEq exists_eq_left' exists_eq_left".splitOn " ").toArray.map fun s=>Lean.mkIdent ((s.splitOn ".").foldl Lean.Name.mkStr Lean.Name.anonymous)
 `(tactic| try simp only [$[$ids:ident],*])
local macro_rules | `(tactic| walk_at "o")=>`(tactic| first | exact Or.inl rfl | exact Or.inr rfl)
abbrev cT:Stmt:=Hd.top 1
abbrev lQ:List Str:=["one","other","rest"]
abbrev fb:Stmt:=Hd.top 2
abbrev pT:List Str:=["one","other"]
abbrev lR:Stmt:=Hd.top 4
abbrev yE:List Str:=["thing"]
abbrev cU:Stmt:=Hd.top 5
abbrev lS:List Str:=["thing","many"]
abbrev dz:Stmt:=Hd.top 6
abbrev nk:List Str:=["thing"]
abbrev g9:Stmt:=Hd.top 7
abbrev uy:List Str:=["thing","word","length"]
abbrev rP:Stmt:=Hd.top 15
abbrev Dt:List Str:=["top","bottom","shared"]
abbrev Bf:Stmt:=Hd.top 16
abbrev Ij:List Str:=["one","other"]
abbrev vT:Stmt:=Hd.top 17
abbrev Ge:List Str:=["one","other"]
abbrev vU:Stmt:=Hd.top 18
abbrev Gf:List Str:=["one","other"]
abbrev Bg:Stmt:=Hd.top 19
abbrev Ik:List Str:=["one","other"]
abbrev vV:Stmt:=Hd.top 20
abbrev Gg:List Str:=["one","other"]
abbrev rQ:Stmt:=Hd.top 21
abbrev Du:List Str:=["some","whole","one"]
abbrev rR:Stmt:=Hd.top 23
abbrev Dv:List Str:=["ring","thing"]
abbrev jI:Stmt:=Hd.top 24
abbrev vW:List Str:=["cut","place"]
abbrev fc:Stmt:=Hd.top 25
abbrev pU:List Str:=["cut","one","other"]
abbrev iU:Stmt:=Hd.top 26
abbrev qD:List Str:=["ring","cuts","g"]
abbrev dZ:Stmt:=Hd.top 29
abbrev oE:List Str:=["some","bottom","one"]
abbrev iV:Stmt:=Hd.top 30
abbrev qE:List Str:=["some","units"]
abbrev hC:Stmt:=Hd.top 28
abbrev oF:List Str:=["ring","top","sizes","most","units"]
abbrev jJ:Stmt:=Hd.top 34
abbrev vX:List Str:=["way"]
abbrev oG:Stmt:=Hd.top 35
abbrev Bh:List Str:=["ring","k","way","tie","places","one","other","lies_on"]
abbrev jK:Stmt:=Hd.top 37
abbrev vY:List Str:=["ring","sending","k","tie"]
abbrev kO:Stmt:=Hd.top 38
abbrev uz:List Str:=["ring","sending","tie"]
abbrev iW:Stmt:=Hd.top 39
abbrev qF:List Str:=["ring","sending"]
abbrev eM:Stmt:=Hd.top 40
abbrev mF:List Str:=["ring","sending"]
abbrev rS:Stmt:=Hd.top 41
abbrev Dw:List Str:=["ring","sending","strains","top","tie","strain"]
abbrev kP:Stmt:=Hd.top 43
abbrev uA:List Str:=["ring","ways"]
abbrev rT:Stmt:=Hd.top 44
abbrev Dx:List Str:=["ring","ways"]
abbrev fY:Stmt:=Hd.top 46
abbrev oH:List Str:=["elder","ways","pairs"]
abbrev fZ:Stmt:=Hd.top 47
abbrev rV:List Str:=["wish","load","bound"]
abbrev ff:Stmt:=Hd.top 48
abbrev pV:List Str:=["wish","ways"]
abbrev lT:Stmt:=Hd.top 54
abbrev yF:List Str:=["thing"]
abbrev eN:Stmt:=Hd.top 59
abbrev mG:List Str:=["ring","k","way","cut"]
abbrev dN:Stmt:=Hd.top 58
abbrev kQ:List Str:=["ring","wish","scale","fixed","cut","most","load"]
abbrev jL:Stmt:=Hd.top 57
abbrev vZ:List Str:=["ring","wish","scale","fixed","thing"]
abbrev jM:Stmt:=Hd.top 56
abbrev v3:List Str:=["here","way","tree","fixed"]
abbrev c7:Stmt:=Hd.top 55
abbrev je:List Str:=["ring","wish","thing","scale","ahead","walked","here"]
abbrev dA:Stmt:=Hd.top 65
abbrev nq:List Str:=["wish","bounds","fixed","loads","cut","bound"]
abbrev iX:Stmt:=Hd.top 64
abbrev qG:List Str:=["ring","wish","sizes","bounds","fixed","loads","k","reason","trees","way","fuller","found"]
abbrev d3:Stmt:=Hd.top 63
abbrev jN:List Str:=["ring","scale","most","bounds","ask","size"]
abbrev iY:Stmt:=Hd.top 62
abbrev qH:List Str:=["ring","wish","scale"]
abbrev cD:Stmt:=Hd.top 67
abbrev hG:List Str:=["ring","top"]
abbrev gb:Stmt:=Hd.top 68
abbrev oI:List Str:=["ring","ways","top","found"]
abbrev hJ:Stmt:=Hd.top 70
abbrev uB:List Str:=["_law_script","_law_k","_law_cell"]
abbrev jO:Stmt:=Hd.top 71
abbrev v5:List Str:=["_law_state","_law_many","_law_digit","_law_drawn","_law_turn"]
abbrev de:Stmt:=Hd.top 74
abbrev hU:List Str:=["_law_state","_law_many","_law_letters","_law_base","_law_at","_law_turn"]
abbrev lU:Stmt:=Hd.top 72
abbrev yG:List Str:=["_law_top_here","_law_bottom","_law_one","_law_share"]
abbrev gf:Stmt:=Hd.top 73
abbrev rW:List Str:=["_law_state","_law_least_here","_law_kind","_law_bottom","_law_top_here"]
abbrev hW:Stmt:=Hd.top 75
abbrev uC:List Str:=["_law_state","_law_ties","_law_kind","_law_alike","_law_one","_law_rooms_here","_law_more"]
abbrev jP:Stmt:=Hd.top 76
abbrev v7:List Str:=["_law_state","_law_shape","_law_places","_law_k","_law_one","_law_other"]
abbrev jQ:Stmt:=Hd.top 77
abbrev v8:List Str:=["_law_script","_law_at","_law_most","_law_count","_law_state","_law_places","_law_many","_law_kinds","_law_shape","_law_names_here","_law_rooms_here","_law_asks","_law_k","_law_one","_law_other"]
abbrev oJ:Stmt:=Hd.top 79
abbrev Bi:List Str:=["_law_ring_here","_law_found","_law_name","_law_one","_law_other","_law_size","_law_ties","_law_place"]
abbrev dO:Stmt:=Hd.top 78
abbrev kR:List Str:=["_law_some","_law_bottom","_law_part","_law_one","_law_share"]
abbrev bN:Stmt:=Hd.top 82
abbrev d4:List Str:=["_law_many","_law_found","_law_k"]
abbrev lV:Stmt:=Hd.top 81
abbrev yH:List Str:=["_law_ring_here","_law_loads_here","_law_bottom","_law_best","_law_tie","_law_room","_law_strain"]
abbrev eO:Stmt:=Hd.top 80
abbrev mH:List Str:=["_law_ring_here","_law_on_here","_law_sizes","_law_ways","_law_loads_here","_law_k","_law_tie"]
abbrev hX:Stmt:=Hd.top 83
abbrev uD:List Str:=["_law_ring_here","_law_on_here","_law_wholes_here","_law_least_here","_law_ways","_law_top_here"]
abbrev d5:Stmt:=Hd.top 86
abbrev jR:List Str:=["_law_thing"]
abbrev cF:Stmt:=Hd.top 85
abbrev ia:List Str:=["_law_thing","_law_many"]
abbrev gh:Stmt:=Hd.top 87
abbrev oK:List Str:=["_law_ring_here","_law_on_here","_law_wholes_here","_law_least_here","_law_found"]
abbrev jS:Stmt:=Hd.top 84
abbrev v9:List Str:=["_law_ring_here","_law_wish","_law_tree"]
abbrev yI:Stmt:=Hd.top 88
abbrev Gh:List Str:=["_law_script","_law_ring_here","_law_on_here","_law_wholes_here","_law_least_here","_law_handed","_law_found"]
def bH:FS:=fun ls post=>∃a b:Int,ls=[.d (.int a),.d (.int b)]∧post (.d (.int (Int.gcd a b))) ls
def jT:W Fl:=(wSeq (wSet 2 (wBin eE (wVar 0) (wVar 1)))
  (wSeq (wSet 0 (wVar 1))
  (wSet 1 (wVar 2))))
def cV:W Fl:=(wSeq (ja (aP (wBin opNe (wVar 1) (wC (.int 0)))) jT)
  (wRet (aW yc (aVal (wVar 0) aNil))))
theorem jU:∀ls post,ls.length=2→bH ls post→cV (ls++List.replicate 1 .un) (aL ls post):=by
 rintro ls post - ⟨a,b,rfl,h⟩
 unfold cV
 walk_at "w"
 refine⟨fun n ρ=>∃x y r,ρ=[.d (.int x),.d (.int y),r]∧Int.gcd x y=Int.gcd a b∧n=y.natAbs,⟨_,a,b,_,rfl,rfl,rfl⟩,?_⟩
 rintro n ρ ⟨x,y,r,rfl,hg,rfl⟩
 walk_at "w"
 split
 ·
  rename_i hy
  have hy:y≠0:=by simpa using hy
  exact⟨hy,_,eZ x hy,y,x.fmod y,_,rfl,by rw[q8];exact hg,rfl⟩
 ·
  rename_i hy
  have hy:y=0:=by simpa using hy
  subst hy
  refine⟨_,aj (aj aD),?_⟩
  have e:(if x<0 then -x else x)=((Int.gcd a b:Nat):Int):=by rw[← hg,Int.gcd_zero_right];split<;>omega
  rw[e]
  exact h
def d6:FS:=fun ls post=>∃a b:Nat,ls=[.d (.int a),.d (.int b)]∧0<b∧a<2^4400∧b<2^4400∧post (.d (.int (Nat.lcm a b))) ls
def fg:W Fl:=(wRet (wBin a7 (wBin kv (wVar 0) (aC bH (aVal (wVar 0) (aVal (wVar 1) aNil)))) (wVar 1)))
theorem nu:∀ls post,ls.length=2→d6 ls post→fg (ls++List.replicate 0 .un) (aL ls post):=by
 rintro ls post - ⟨a,b,rfl,hb,ha,hb2,h⟩
 unfold fg
 walk_at "w"
 refine⟨_,_,rfl,?_⟩
 walk_at "w"
 have g0:0<Int.gcd (a:Int) (b:Int):=Nat.gcd_pos_of_pos_right _ hb
 have g1:Int.gcd (a:Int) (b:Int)≤b:=Nat.gcd_le_right _ hb
 have e1:((a:Int).fdiv (Int.gcd (a:Int) (b:Int):Int)).natAbs≤a:=by
  rw[Int.fdiv_eq_ediv_of_nonneg _ (by omega)]
  show(((a:Int) / ((Nat.gcd a b:Nat):Int))).natAbs≤a
  rw[← Int.natCast_ediv,Int.natAbs_natCast]
  exact Nat.div_le_self _ _
 refine⟨by omega,?_,?_,?_,?_⟩
 ·
  rw[Int.natAbs_natCast]
  exact Nat.lt_of_le_of_lt g1 (Nat.lt_of_lt_of_le hb2 (Nat.pow_le_pow_right (by decide) (by decide)))
 ·
  exact a8 (Nat.lt_of_le_of_lt e1 ha) (by decide)
 ·
  exact a8 (n:=4400) (by rw[Int.natAbs_natCast];exact hb2) (by decide)
 ·
  rw[AJ hb]
  exact⟨_,aj (aj aD),h⟩
def d7:FS:=fun ls post=>(∃i:Int,ls=[.d (.int i)]∧post (.d (.bl true)) ls)∨∃d:D,ls=[.d d]∧(∀i,d≠.int i)∧post (.d (.bl false)) ls
def iZ:W Fl:=(wRet (jC (wUn (i7 "int") (wVar 0)) (B7 (aP (wUn (i7 "bool") (wVar 0))))))
theorem uE:∀ls post,ls.length=1→d7 ls post→iZ (ls++List.replicate 0 .un) (aL ls post):=by
 rintro ls post-(⟨i,rfl,h⟩|⟨d,rfl,hd,h⟩)
 ·
  unfold iZ
  walk_at "w"
  exact⟨_,aj aD,h⟩
 ·
  unfold iZ
  cases d with
  |int i=>exact absurd rfl (hd i)
  |_=>walk_at "w"; exact⟨_,aj aD,h⟩
def cG:FS:=fun ls post=>∃(d:D)(n:Int),ls=[.d d,.d (.int n)]∧post (.d (.bl (Dr d n))) ls
def cW:W Fl:=(wRet (jC (aC d7 (aVal (wVar 0) aNil)) (tT opLe opLt (wC (.int 0)) (wVar 0) (wVar 1))))
theorem jV:∀ls post,ls.length=2→cG ls post→cW (ls++List.replicate 0 .un) (aL ls post):=by
 rintro ls post - ⟨d,n,rfl,h⟩
 unfold cW
 by_cases hd:∃i,d=.int i
 ·
  obtain⟨i,rfl⟩:=hd
  have h:post (.d (.bl (decide (0≤i∧i<n)))) [.d (.int i),.d (.int n)]:=h
  walk_at "w"
  refine .inl ⟨i,rfl,?_⟩
  walk_at "w"
  by_cases c:0≤i
  ·
   rw[if_pos c]
   have e:decide (0≤i∧i<n)=decide (i<n):=by rw[decide_eq_decide];omega
   rw[e]at h
   exact⟨_,aj (aj aD),h⟩
  ·
   rw[if_neg c]
   have e:decide (0≤i∧i<n)=false:=decide_eq_false (by omega)
   rw[e]at h
   exact⟨_,aj (aj aD),h⟩
 ·
  have e:Dr d n=false:=by
   unfold Dr
   split
   ·
    exact absurd ⟨_,rfl⟩ hd
   ·
    rfl
  rw[e]at h
  walk_at "w"
  refine .inr ⟨d,rfl,fun i e=>hd ⟨i,e⟩,?_⟩
  walk_at "w"
  exact⟨_,aj (aj aD),h⟩
def twoB:D→Bool
 |.tup [.int _,.int _]=>true
 |_=>false
theorem Gi{d:D}(h:twoB d=true):∃i j,d=.tup [.int i,.int j]:=by
 unfold twoB at h
 split at h
 ·
  exact⟨_,_,rfl⟩
 ·
  cases h
theorem Bj(d:D):(∃i j,d=.tup [.int i,.int j])∨(∀i j,d≠.tup [.int i,.int j]):=by
 cases h:twoB d with
 |true=>exact .inl (Gi h)
 |false=>exact .inr fun i j e=>by subst e;cases h
def cX:FS:=fun ls post=>(∃i j:Int,ls=[.d (.tup [.int i,.int j])]∧post (.d (.bl true)) ls)∨∃d:D,ls=[.d d]∧(∀i j,d≠.tup [.int i,.int j])∧post (.d (.bl false)) ls
def cg:W Fl:=(wRet (jC (wUn (i7 "tuple") (wVar 0)) (jC (wBin opEq (aW bJ (aVal (wVar 0) aNil)) (wC (.int 2))) (jC (aC d7 (aVal (wBin opIx (wVar 0) (wC (.int 0))) aNil)) (aC d7 (aVal (wBin opIx (wVar 0) (wC (.int 1))) aNil))))))
theorem kS:∀ls post,ls.length=1→cX ls post→cg (ls++List.replicate 0 .un) (aL ls post):=by
 rintro ls post-(⟨i,j,rfl,h⟩|⟨d,rfl,hd,h⟩)
 ·
  unfold cg
  walk_at "w"
  refine .inl ⟨_,rfl,?_⟩
  walk_at "w"
  refine .inl ⟨_,rfl,?_⟩
  walk_at "w"
  exact⟨_,aj aD,h⟩
 ·
  unfold cg
  have fin:∀b:Bool,b=false→aL [.d d] post (.rt (.d (.bl b))) [.d d]:=fun b hb=>by subst hb;exact⟨_,aj aD,h⟩
  cases d with
  | tup xs =>
   match xs,hd with
   | [x,y],hd =>
    walk_at "w"
    have wh:∀z:D,(∃i,z=.int i)∨(∀i,z≠.int i):=fun z=>by cases z<;>simp
    rcases wh x with⟨i,rfl⟩|hx
    ·
     refine .inl ⟨_,rfl,?_⟩
     walk_at "w"
     rcases wh y with⟨j,rfl⟩|hy
     ·
      exact absurd rfl (hd i j)
     ·
      refine .inr ⟨_,rfl,hy,?_⟩
      walk_at "w"
      exact fin _ rfl
    ·
     refine .inr ⟨_,rfl,hx,?_⟩
     walk_at "w"
     exact fin _ rfl
   |[],_=>walk_at "w"; exact fin _ rfl
   |[x],_=>walk_at "w"; exact fin _ rfl
   | x::y::z::r,_ =>
    walk_at "w"
    have e:¬(((r.length+1+1+1:Nat):Int)=2):=by omega
    simp only[e,decide_false]
    exact fin _ rfl
  |_=>walk_at "w"; exact fin _ rfl
def cH:FS:=fun ls post=>∃(T:Tr)(k:Nat),ls=[.d (trD T),.d (.str (tagN k)),.d (.int (lenN k:Int))]∧k≤2∧post (.d (.bl (T.kind == k))) ls
def ib:W Fl:=(wSeq (wIf (wOr (wNot (aP (wUn (i7 "tuple") (wVar 0)))) (aP (wBin opNe (aW bJ (aVal (wVar 0) aNil)) (wVar 2)))) (wRet (wC (.bl false))) bE)
  (wRet (jC (wUn (i7 "str") (wBin opIx (wVar 0) (wC (.int 0)))) (wBin opEq (wBin opIx (wVar 0) (wC (.int 0))) (wVar 1)))))
theorem pW:∀ls post,ls.length=3→cH ls post→ib (ls++List.replicate 0 .un) (aL ls post):=by
 rintro ls post - ⟨T,k,rfl,hk,h⟩
 unfold ib
 have hk:k=0∨k=1∨k=2:=by omega
 rcases hk with rfl|rfl|rfl
 all_goals
  cases T
  all_goals
   unfold trD tagN lenN at *
   walk_at "w"
   first
    |(rw[if_pos (by decide)];exact⟨_,aj (aj (aj aD)),h⟩)
    |(rw[if_neg (by simp)];exact⟨dH (n:=0) (by decide +kernel) (by decide),dH (n:=0) (by decide +kernel) (by decide),_,aj (aj (aj aD)),h⟩)
def fE:FS:=fun ls post=>∃t b:Int,ls=[.d (.int t),.d (.int b)]∧b≠0∧b.natAbs<2^9000∧post (.d (frD (Rat.divInt t b))) ls
def rX:W Fl:=(wSeq (wSet 2 (wFrz (aC bH (aVal (wVar 0) (aVal (wVar 1) aNil)))))
  (wSeq (wIf (aP (wBin opLt (wVar 1) (wC (.int 0)))) (wSet 2 (wUn xZ (wVar 2))) bE)
  (wRet (wTup (aVal (wBin kv (wVar 0) (wVar 2)) (aVal (wBin kv (wVar 1) (wVar 2)) aNil))))))
theorem yJ:∀ls post,ls.length=2→fE ls post→rX (ls++List.replicate 1 .un) (aL ls post):=by
 rintro ls post - ⟨t,b,rfl,hb,hz,h⟩
 unfold rX
 walk_at "w"
 refine⟨t,b,rfl,?_⟩
 walk_at "w"
 have h1:=w5 (t:=t) hb
 have h2:=Nat.lt_of_le_of_lt (w7 (t:=t) hb) hz
 have fin:∀{g:Int}{ρ:Ev},g=bY t b→g≠0∧g.natAbs<2^9000∧g≠0∧g.natAbs<2^9000∧2≤sizeLine∧aL [.d (.int t),.d (.int b)] post (.rt (.d (.tup [.int (t.fdiv g),.int (b.fdiv g)]))) ρ:=fun {g ρ} e=>by
  have e1:g≠0:=by rw[e];exact h1
  have e2:g.natAbs<2^9000:=by rw[e];exact h2
  refine⟨e1,e2,e1,e2,by decide,_,aj (aj aD),?_⟩
  rw[xq hb e]
  exact h
 split
 ·
  rename_i hlt
  exact fin (by simp[bY,hlt])
 ·
  rename_i hlt
  exact fin (by simp[bY,hlt])
def wa:FS:=fun ls post=>∃p q:Rat,ls=[.d (frD p),.d (frD q)]∧RB 400000 p∧RB 400000 q∧p.den*q.den<2^9000∧post (.d (frD (p+q))) ls
def Bk:W Fl:=(wRet (aC fE (aVal (wFrz (wBin bP (wBin a7 (wBin opIx (wVar 0) (wC (.int 0))) (wBin opIx (wVar 1) (wC (.int 1)))) (wBin a7 (wBin opIx (wVar 1) (wC (.int 0))) (wBin opIx (wVar 0) (wC (.int 1)))))) (aVal (wFrz (wBin a7 (wBin opIx (wVar 0) (wC (.int 1))) (wBin opIx (wVar 1) (wC (.int 1))))) aNil))))
theorem Dy:∀ls post,ls.length=2→wa ls post→Bk (ls++List.replicate 0 .un) (aL ls post):=by
 rintro ls post - ⟨p,q,rfl,hp,hq,hz,h⟩
 unfold Bk
 simp only[frD]
 walk_at "w"
 refine⟨hp.bn (by decide),hq.bd (by decide),hq.bn (by decide),hp.bd (by decide),hp.bd (by decide),hq.bd (by decide),_,_,rfl,rm p q,by rw[nJ];exact hz,_,aj (aj aD),?_⟩
 rw[w8]
 exact h
def nN:FS:=fun ls post=>∃p q:Rat,ls=[.d (frD p),.d (frD q)]∧RB 400000 p∧RB 400000 q∧p.den*q.den<2^9000∧post (.d (frD (p-q))) ls
def wb:W Fl:=(wRet (aC fE (aVal (wBin jF (wBin a7 (wBin opIx (wVar 0) (wC (.int 0))) (wBin opIx (wVar 1) (wC (.int 1)))) (wBin a7 (wBin opIx (wVar 1) (wC (.int 0))) (wBin opIx (wVar 0) (wC (.int 1))))) (aVal (wFrz (wBin a7 (wBin opIx (wVar 0) (wC (.int 1))) (wBin opIx (wVar 1) (wC (.int 1))))) aNil))))
theorem Bl:∀ls post,ls.length=2→nN ls post→wb (ls++List.replicate 0 .un) (aL ls post):=by
 rintro ls post - ⟨p,q,rfl,hp,hq,hz,h⟩
 unfold wb
 simp only[frD]
 walk_at "w"
 refine⟨hp.bn (by decide),hq.bd (by decide),hq.bn (by decide),hp.bd (by decide),hp.bd (by decide),hq.bd (by decide),_,_,rfl,rm p q,by rw[nJ];exact hz,_,aj (aj aD),?_⟩
 rw[Ha]
 exact h
theorem Bm{p q:Rat}{post:L→List L→Prop}(hp:RB 4400 p)(hq:RB 4400 q)(h:post (.d (frD (p-q))) [.d (frD p),.d (frD q)]):nN [.d (frD p),.d (frD q)] post :=
 ⟨p,q,rfl,hp.mono (by decide),hq.mono (by decide),Nat.lt_of_lt_of_le (aZ hp.2 hq.2) (Nat.pow_le_pow_right (by decide) (by decide)),h⟩
def rY:FS:=fun ls post=>∃p q:Rat,ls=[.d (frD p),.d (frD q)]∧RB 4400 p∧RB 4400 q∧post (.d (frD (p*q))) ls
def wd:W Fl:=(wRet (aC fE (aVal (wFrz (wBin a7 (wBin opIx (wVar 0) (wC (.int 0))) (wBin opIx (wVar 1) (wC (.int 0))))) (aVal (wFrz (wBin a7 (wBin opIx (wVar 0) (wC (.int 1))) (wBin opIx (wVar 1) (wC (.int 1))))) aNil))))
theorem Bn:∀ls post,ls.length=2→rY ls post→wd (ls++List.replicate 0 .un) (aL ls post):=by
 rintro ls post - ⟨p,q,rfl,hp,hq,h⟩
 unfold wd
 walk_at "w"
 refine⟨hp.bn (by decide),hq.bn (by decide),hp.bd (by decide),hq.bd (by decide),_,_,rfl,rm p q,?_,_,aj (aj aD),?_⟩
 ·
  rw[nJ]
  exact Nat.lt_of_lt_of_le (aZ hp.2 hq.2) (Nat.pow_le_pow_right (by decide) (by decide))
 ·
  rw[D5]
  exact h
def we:FS:=fun ls post=>∃p q:Rat,ls=[.d (frD p),.d (frD q)]∧RB 4400 p∧RB 4400 q∧q≠0∧post (.d (frD (p / q))) ls
def Bo:W Fl:=(wSeq (wIf (aP (wBin opEq (wBin opIx (wVar 1) (wC (.int 0))) (wC (.int 0)))) wR bE)
  (wRet (aC fE (aVal (wFrz (wBin a7 (wBin opIx (wVar 0) (wC (.int 0))) (wBin opIx (wVar 1) (wC (.int 1))))) (aVal (wFrz (wBin a7 (wBin opIx (wVar 0) (wC (.int 1))) (wBin opIx (wVar 1) (wC (.int 0))))) aNil)))))
theorem Dz:∀ls post,ls.length=2→we ls post→Bo (ls++List.replicate 0 .un) (aL ls post):=by
 rintro ls post - ⟨p,q,rfl,hp,hq,h0,h⟩
 unfold Bo
 walk_at "w"
 rw[if_neg (xl h0)]
 walk_at "w"
 refine⟨hp.bn (by decide),hq.bd (by decide),hp.bd (by decide),hq.bn (by decide),_,_,rfl,Int.mul_ne_zero (lM p) (xl h0),?_,_,aj (aj aD),?_⟩
 ·
  rw[Int.natAbs_mul,Int.natAbs_natCast]
  exact Nat.lt_of_lt_of_le (aZ hp.2 hq.1) (Nat.pow_le_pow_right (by decide) (by decide))
 ·
  rw[D6 p h0]
  exact h
def rZ:FS:=fun ls post=>∃p q:Rat,ls=[.d (frD p),.d (frD q)]∧RB 400000 p∧RB 400000 q∧post (.d (.bl (decide (p<q)))) ls
def wg:W Fl:=(wRet (wBin opLt (wBin a7 (wBin opIx (wVar 0) (wC (.int 0))) (wBin opIx (wVar 1) (wC (.int 1)))) (wBin a7 (wBin opIx (wVar 1) (wC (.int 0))) (wBin opIx (wVar 0) (wC (.int 1))))))
theorem Bp:∀ls post,ls.length=2→rZ ls post→wg (ls++List.replicate 0 .un) (aL ls post):=by
 rintro ls post - ⟨p,q,rfl,hp,hq,h⟩
 unfold wg
 walk_at "w"
 refine⟨hp.bn (by decide),hq.bd (by decide),hq.bn (by decide),hp.bd (by decide),_,aj (aj aD),?_⟩
 rw[I0]
 exact h
def oM:FS:=fun ls post=>∃(qs:List Rat)(x:D),ls=[.d x]∧(x=.lst (qs.map frD)∨x=.tup (qs.map frD))∧qs.length≤63∧(∀q∈qs,RB 4400 q)∧HH qs∧post (.d (frD (sumQ qs))) ls
def fF:W Fl:=(wSet 1 (aC wa (aVal (wVar 1) (aVal (wVar 2) aNil))))
def r6:W Fl:=(wSeq (wSet 1 (wC (.tup [(.int 0),(.int 1)])))
  (wSeq (wFor (wSrc (wVar 0)) (aI 2) fF)
  (wRet (fS 1))))
theorem r9{x:D}{post:Fl→Ev→Prop}:∀(qs:List Rat)(acc:Rat)(n:Nat)(r:L),qs.length≤63→n+4401*qs.length≤400000→RB n acc→(∀q∈qs,RB 4400 q)→acc.den*denP qs<2^9000→(∀r',post .nx [.d x,.d (frD (qs.foldl (·+·) acc)),r']) →
  dW (aI 2) fF (qs.map frD) [.d x,.d (frD acc),r] post
 |[],acc,n,r,_,_,_,_,_,h=>h r
 | q::qs,acc,n,r,hl,hn,ha,hq,hd,h=>by
  have hd':acc.den*(q.den*denP qs)<2^9000:=hd
  have hq1:=hq q List.mem_cons_self
  have hlc:(q::qs).length=qs.length+1:=rfl
  have dpos:0<denP qs:=kJ qs
  have hz:acc.den*q.den<2^9000:=Nat.lt_of_le_of_lt (by rw[← Nat.mul_assoc];exact Nat.le_mul_of_pos_right _ dpos) hd'
  show dW _ _ (frD q::qs.map frD) _ _
  unfold dW fF
  walk_at "w"
  refine⟨acc,q,rfl,ha.mono (by omega),hq1.mono (by decide),hz,?_⟩
  refine r9 qs (acc+q) (n+4400+1) _ (by omega) (by omega) (ha.add hq1) (fun z hz=>hq z (List.mem_cons_of_mem _ hz)) (Nat.lt_of_le_of_lt ?_ hd') h
  rw[← Nat.mul_assoc]
  exact Nat.mul_le_mul_right _ (yf acc q)
theorem oN{x:D}{E:Nat}(e0:0<E)(e1:E<2^4400){post:Fl→Ev→Prop}:∀(qs:List Rat)(acc:Rat)(n:Nat)(r:L),qs.length≤63→n+4401*qs.length≤400000→RB n acc→(∀q∈qs,RB 4400 q)→acc.den∣E→(∀q∈qs,q.den∣E)→(∀r',post .nx [.d x,.d (frD (qs.foldl (·+·) acc)),r']) →
  dW (aI 2) fF (qs.map frD) [.d x,.d (frD acc),r] post
 |[],acc,n,r,_,_,_,_,_,_,h=>h r
 | q::qs,acc,n,r,hl,hn,ha,hq,hd,hds,h=>by
  have hq1:=hq q List.mem_cons_self
  have hq2:=hds q List.mem_cons_self
  have hlc:(q::qs).length=qs.length+1:=rfl
  have hz:acc.den*q.den<2^9000:=Nat.lt_of_lt_of_le (aZ (m:=4400) (n:=4400) (Nat.lt_of_le_of_lt (Nat.le_of_dvd e0 hd) e1) (Nat.lt_of_le_of_lt (Nat.le_of_dvd e0 hq2) e1)) (Nat.pow_le_pow_right (by decide) (by decide))
  show dW _ _ (frD q::qs.map frD) _ _
  unfold dW fF
  walk_at "w"
  refine⟨acc,q,rfl,ha.mono (by omega),hq1.mono (by decide),hz,?_⟩
  exact oN e0 e1 qs (acc+q) (n+4400+1) _ (by omega) (by omega) (ha.add hq1) (fun z hz=>hq z (List.mem_cons_of_mem _ hz)) (FO e0 hd hq2) (fun z hz=>hds z (List.mem_cons_of_mem _ hz)) h
theorem yK:∀ls post,ls.length=1→oM ls post→r6 (ls++List.replicate 2 .un) (aL ls post):=by
 rintro ls post - ⟨qs,x,rfl,hx,hl,hq,hd,h⟩
 unfold r6
 have fin:∀r',aL [.d x] post (.rt (.d (frD (sumQ qs)))) [.d x,.d (frD (sumQ qs)),r']:=fun r'=>⟨_,aj aD,h⟩
 rcases hx with rfl|rfl
 ·
  walk_at "w"
  rcases hd with hd|⟨E,e0,e1,hd⟩
  ·
   exact r9 qs 0 1 .un hl (by omega) ⟨by decide,by decide⟩ hq (by show 1*_<_;rw[Nat.one_mul];exact hd) fun r'=>fin r'
  ·
   exact oN e0 e1 qs 0 1 .un hl (by omega) ⟨by decide,by decide⟩ hq (Nat.one_dvd _) hd fun r'=>fin r'
 ·
  walk_at "w"
  rcases hd with hd|⟨E,e0,e1,hd⟩
  ·
   exact r9 qs 0 1 .un hl (by omega) ⟨by decide,by decide⟩ hq (by show 1*_<_;rw[Nat.one_mul];exact hd) fun r'=>fin r'
  ·
   exact oN e0 e1 qs 0 1 .un hl (by omega) ⟨by decide,by decide⟩ hq (Nat.one_dvd _) hd fun r'=>fin r'
def oO:FS:=fun ls post=>∃(R:Ring)(d:D),ls=[.d (aR R),.d d]∧post (.d (.bl (cutB R.n d))) ls
def sf:W Fl:=(wRet (jC (aC cX (aVal (wVar 1) aNil)) (vt (wC (.int 0)) [(opLe,(wBin opIx (wVar 1) (wC (.int 0)))),(opLe,(wBin opIx (wVar 1) (wC (.int 1)))),(opLt,(aW bJ (aVal (wBin opIx (wVar 0) (wC (.int 0))) aNil)))])))
theorem yL:∀ls post,ls.length=2→oO ls post→sf (ls++List.replicate 0 .un) (aL ls post):=by
 rintro ls post - ⟨R,d,rfl,h⟩
 unfold sf
 walk_at "w"
 rcases Bj d with⟨i,j,rfl⟩|hd
 ·
  refine .inl ⟨i,j,rfl,?_⟩
  walk_at "w"
  have fin:∀b:Bool,b=cutB R.n (.tup [.int i,.int j])→aL [.d (aR R),.d (.tup [.int i,.int j])] post (.rt (.d (.bl b))) [.d (aR R),.d (.tup [.int i,.int j])]:=fun b hb=>by subst hb;exact⟨_,aj (aj aD),h⟩
  have ec:cutB R.n (.tup [.int i,.int j])=decide (0≤i∧i≤j∧j<(R.n:Int)):=rfl
  by_cases c1:0≤i<;>by_cases c2:i≤j<;>by_cases c3:j<(R.n:Int)<;>simp only[c1,c2,c3,if_true,if_false,decide_true,decide_false]<;>refine fin _ ?_<;>rw[ec]<;>simp only[c1,c2,c3]<;>decide
 ·
  refine .inr ⟨d,rfl,hd,?_⟩
  walk_at "w"
  rw[F8 hd]at h
  exact⟨_,aj (aj aD),h⟩
def eP:FS:=fun ls post=>∃(c:Nat×Nat)(p:Nat),ls=[.d (cutP c),.d (.int p)]∧post (.d (.bl (i8 c p))) ls
def jW:W Fl:=(wRet (tT opLt opLe (wBin opIx (wVar 0) (wC (.int 0))) (wVar 1) (wBin opIx (wVar 0) (wC (.int 1)))))
theorem si:∀ls post,ls.length=2→eP ls post→jW (ls++List.replicate 0 .un) (aL ls post):=by
 rintro ls post - ⟨c,p,rfl,h⟩
 unfold jW
 walk_at "w"
 unfold i8 at h
 split
 ·
  rename_i h1
  refine⟨_,aj (aj aD),?_⟩
  have e:decide ((p:Int)≤(c.2:Int))=decide (c.1<p∧p≤c.2):=by rw[decide_eq_decide];omega
  rw[e];exact h
 ·
  rename_i h1
  refine⟨_,aj (aj aD),?_⟩
  rw[decide_eq_false (show ¬(c.1<p∧p≤c.2) by omega)]at h
  exact h
def cI:FS:=fun ls post=>∃(c:Nat×Nat)(i j:Nat),ls=[.d (cutP c),.d (.int i),.d (.int j)]∧post (.d (.bl (apart c i j))) ls
def fh:W Fl:=(wRet (wBin opNe (aC eP (aVal (wVar 0) (aVal (wVar 1) aNil))) (aC eP (aVal (wVar 0) (aVal (wVar 2) aNil)))))
theorem nv:∀ls post,ls.length=3→cI ls post→fh (ls++List.replicate 0 .un) (aL ls post):=by
 rintro ls post - ⟨c,i,j,rfl,h⟩
 unfold fh
 walk_at "w"
 refine⟨c,i,rfl,?_⟩
 walk_at "w"
 refine⟨c,j,rfl,?_⟩
 walk_at "w"
 refine⟨_,aj (aj (aj aD)),?_⟩
 have e:(!decide (i8 c i=i8 c j))=apart c i j:=by
  unfold apart
  cases i8 c i<;>cases i8 c j<;>rfl
 rw[e];exact h
def jX:FS:=fun ls post=>∃(R:Ring),ls=[.d (aR R)]∧R.Ok∧∀c,post (.own c ((ng R.n).map cutP)) ls
def mI:W L:=(wTup (aVal (wVar 1) (aVal (wVar 0) aNil)))
def mJ:W Fl:=(jD (wExt 1 (bX 1 [2] (ED (wVar 2) (aW bJ (aVal (wBin opIx (wVar 0) (wC (.int 0))) aNil))) (aI 0) bF mI)))
def lW:W Fl:=(wSeq (wSet 1 (wLst aNil))
  (wSeq (wFor (lH (aW bJ (aVal (wBin opIx (wVar 0) (wC (.int 0))) aNil))) (aI 2) mJ)
  (wRet (fS 1))))
theorem yM{α:Type}(f:Nat→List α)(k:Nat):(List.range (k+1)).flatMap f=(List.range k).flatMap f++f k:=by
 rw[List.range_succ,List.flatMap_append]
 simp
theorem Bq{n k:Nat}(hn:n≤12)(hk:k≤n):((List.range k).flatMap fun g=>(List.range (n-g)).map fun i=>(g,g+i)).length≤144:=by
 have:∀(m:Fin 13)(j:Fin 13),((List.range j.1).flatMap fun g=>(List.range (m.1-g)).map fun i=>(g,g+i)).length≤144:=by decide
 exact this ⟨n,by omega⟩ ⟨k,by omega⟩
theorem uF:∀ls post,ls.length=1→jX ls post→lW (ls++List.replicate 2 .un) (aL ls post):=by
 rintro ls post - ⟨R,rfl,hR,h⟩
 have hhi:=hR.hi
 unfold lW
 walk_at "w"
 refine⟨by decide,fun c=>⟨⟨by omega,by omega⟩,?_⟩⟩
 rw[Int.toNat_natCast]
 refine g6 _ (fun k ρ=>∃x2,ρ=[.d (aR R),.own c (((List.range k).flatMap fun g=>(List.range (R.n-g)).map fun i=>(g,g+i)).map cutP),x2]) _ ⟨_,rfl⟩ ?_ ?_
 ·
  rintro g ρ hg ⟨x2,rfl⟩ Q h1 h2 h3 h4
  unfold mJ
  walk_at "w"
  refine⟨⟨by omega,by omega⟩,⟨by omega,by omega⟩,?_⟩
  have e:((R.n:Int)-(g:Int)).toNat=R.n-g:=by omega
  have e2:rngD (g:Int) (R.n-g)=(List.range (R.n-g)).map fun (i:Nat)=>D.int ((g:Int)+(i:Int)):=rfl
  rw[e,e2]
  refine⟨by rw[List.length_map,List.length_range];exact Nat.le_trans (show R.n-g≤12 by omega) (by decide),?_⟩
  refine a6 (h:=fun i=>cutP (g,g+i)) _ _ _ (fun i hi Q' q=>?_) fun l' a=>?_
  ·
   unfold mI
   walk_at "w"
   refine⟨by decide,?_⟩
   have e3:D.tup [.int (g:Int),.int ((g:Int)+(i:Int))]=cutP (g,g+i):=by
    unfold cutP
    show _=D.tup [.int (g:Int),.int ((g+i:Nat):Int)]
    rw[Int.natCast_add]
   rw[e3]
   exact q
  ·
   walk_at "w"
   have hl:=Bq (k:=g) hhi (by omega)
   refine⟨?_,h1 _ ⟨.d (.int g),?_⟩⟩
   ·
    rw[List.length_range]
    exact Nat.le_trans (show _≤200 by omega) (by decide)
   ·
    rw[yM,List.map_append,List.map_map]
    rfl
 ·
  rintro ρ ⟨x2,rfl⟩
  walk_at "w"
  exact⟨_,aj aD,h c⟩
def dB:FS:=fun ls post=>∃(qs:List Rat)(P:Nat),ls=[.d (.lst (qs.map frD))]∧(∀q∈qs,q.den∣P)∧0<P∧P<2^4400∧post (.d (.int (cbN qs))) ls
def fG:W Fl:=(wSet 1 (aC d6 (aVal (wVar 1) (aVal (wBin opIx (wVar 2) (wC (.int 1))) aNil))))
def d8:W Fl:=(wSeq (wSet 1 (wC (.int 1)))
  (wSeq (wFor (wSrc (wVar 0)) (aI 2) fG)
  (wRet (fS 1))))
theorem lX:∀ls post,ls.length=1→dB ls post→d8 (ls++List.replicate 2 .un) (aL ls post):=by
 rintro ls post - ⟨qs,P,rfl,hd,hP,hP2,h⟩
 unfold d8
 walk_at "w"
 refine fW (enc:=frD) qs (fun pre ρ=>∃x2,ρ=[.d (.lst (qs.map frD)),.d (.int (cbN pre)),x2]) _ ⟨_,rfl⟩ ?_ ?_
 ·
  rintro pre q suf ρ hsp ⟨x2,rfl⟩ Q h1 h2 h3 h4
  have hq:q.den∣P:=hd q (by rw[hsp];simp)
  have hc:cbN pre∣P:=C6 fun p hp=>hd p (by rw[hsp];simp[hp])
  have e:cbN (pre++[q])=Nat.lcm (cbN pre) q.den:=by unfold cbN;rw[List.foldl_append];rfl
  rw[e]at h1
  unfold fG
  walk_at "w"
  refine⟨cbN pre,q.den,rfl,den_pos q,Nat.lt_of_le_of_lt (Nat.le_of_dvd hP hc) hP2,Nat.lt_of_le_of_lt (Nat.le_of_dvd hP hq) hP2,?_⟩
  exact h1 _ ⟨_,rfl⟩
 ·
  rintro ρ ⟨x2,rfl⟩
  walk_at "w"
  exact⟨_,aj aD,h⟩
def gi:FS:=fun ls post=>∃(qs:List Rat)(u:Nat),ls=[.d (.lst (qs.map frD)),.d (.int u)]∧qs.length≤63∧(∀q∈qs,RB 4400 q)∧u<2^4400∧∀c,post (.own c (qs.map fun q=>D.int (dn u q))) ls
def mK:W L:=(wBin a7 (wBin opIx (wVar 0) (wC (.int 0))) (wBin kv (wVar 1) (wBin opIx (wVar 0) (wC (.int 1)))))
def lY:W Fl:=(wRet (bX 1 [1] (wSrc (wVar 0)) (aI 0) bF mK))
theorem uG:∀ls post,ls.length=2→gi ls post→lY (ls++List.replicate 0 .un) (aL ls post):=by
 rintro ls post - ⟨qs,u,rfl,hl,hq,hu,h⟩
 unfold lY
 walk_at "w"
 refine⟨Nat.le_trans hl (by decide),?_⟩
 refine a6 (h:=fun q=>D.int (dn u q)) _ _ _ (fun q hm Q hQ=>?_) fun l' c=>?_
 ·
  unfold mK
  walk_at "w"
  have hb:=hq q hm
  have e:(u:Int).fdiv (q.den:Int)=((u / q.den:Nat):Int):=by
   rw[Int.fdiv_eq_ediv_of_nonneg _ (by omega),Int.natCast_ediv]
  rw[e]
  refine⟨lM q,?_,hb.bn (by decide),?_,hQ⟩
  ·
   rw[Int.natAbs_natCast]
   exact Nat.lt_of_lt_of_le hb.2 (Nat.pow_le_pow_right (by decide) (by decide))
  ·
   exact a8 (n:=4400) (by rw[Int.natAbs_natCast];exact Nat.lt_of_le_of_lt (Nat.div_le_self _ _) hu) (by decide)
 ·
  walk_at "w"
  exact⟨_,aj (aj aD),h c⟩
def i3:FS:=fun ls post=>∃(R:Ring)(q:Rat),ls=[.d (aR R),.d (frD q)]∧R.Ok∧RB 1750 q∧post (.d (.tup [.int (bq R q),.lst (intL R.asks.length (wI R q)),.lst (intL R.n (f0I R q))])) ls
def oP:W L:=(aC rY (aVal (wVar 1) (aVal (wVar 0) aNil)))
def oQ:W L:=(wBin opIx (wVar 0) (wC (.int 3)))
def oR:W Fl:=(wSeq (wSet 2 (bX 1 [] (wSrc (wBin opIx (wVar 0) (wC (.int 1)))) (aI 0) bF oQ))
  (wSeq (wSet 3 (bX 1 [1] (wSrc (wBin opIx (wVar 0) (wC (.int 0)))) (aI 0) bF oP))
  (wSeq (wSet 4 (wFrz (wBin a7 (wC (.int 2)) (aC dB (aVal (wFrz (wBin bP (wVar 2) (wVar 3))) aNil)))))
  (wRet (wTup (aVal (wVar 4) (aVal (wFrz (aC gi (aVal (wVar 2) (aVal (wVar 4) aNil)))) (aVal (wFrz (aC gi (aVal (wVar 3) (aVal (wVar 4) aNil)))) aNil))))))))
theorem wj:∀ls post,ls.length=2→i3 ls post→oR (ls++List.replicate 3 .un) (aL ls post):=by
 rintro ls post - ⟨R,q,rfl,hR,hq,h⟩
 have hfew:=hR.few
 have hhi:=hR.hi
 unfold oR
 walk_at "w"
 refine⟨Nat.le_trans hfew (by decide),?_⟩
 refine a6 (h:=fun a=>frD a.size) _ _ _ (fun a hm Q hQ=>?_) fun l' c1=>?_
 ·
  unfold oQ
  walk_at "w"
  exact hQ
 walk_at "w"
 refine⟨Nat.le_trans hhi (by decide),?_⟩
 refine a6 (h:=fun r=>frD (q*r)) _ _ _ (fun r hm Q hQ=>?_) fun l' c2=>?_
 ·
  unfold oP
  walk_at "w"
  refine⟨_,_,rfl,hq.mono (by decide),(hR.room r hm).2.mono (by decide),?_⟩
  walk_at "w"
  exact hQ
 obtain⟨u0,u1⟩:=xE hR hq
 have e1:R.asks.map (fun a=>frD a.size)=(jc R).map frD:=by unfold jc;rw[List.map_map];rfl
 have e2:R.rooms.map (fun r=>frD (q*r))=(pQ R q).map frD:=by unfold pQ;rw[List.map_map];rfl
 rw[e1,e2]
 walk_at "w"
 rw[← List.map_append]
 have ls1:(jc R).length≤20:=by unfold jc;rw[List.length_map];exact hfew
 have ls2:(pQ R q).length≤12:=by unfold pQ;rw[List.length_map];exact hhi
 have c0:=AI R q
 have c1':cbR R q<2^3750:=Nat.lt_of_le_of_lt (show cbR R q≤bq R q by unfold bq;omega) u1
 refine⟨Nat.le_trans (show _≤32 by omega) (by decide),fun _=>⟨_,cbR R q,rfl,fun p hp=>xD hp,c0,Nat.lt_of_lt_of_le c1' (Nat.pow_le_pow_right (by decide) (by decide)),?_⟩⟩
 walk_at "w"
 have eu:(2:Int)*((cbN (jc R++pQ R q):Nat):Int)=((bq R q:Nat):Int):=by
  show(2:Int)*((cbR R q:Nat):Int)=((2*cbR R q:Nat):Int)
  omega
 rw[eu]
 have u2:bq R q<2^4400:=Nat.lt_of_lt_of_le u1 (Nat.pow_le_pow_right (by decide) (by decide))
 refine⟨bj (by decide),a8 (n:=3750) (by rw[Int.natAbs_natCast];exact c1') (by decide),?_⟩
 refine⟨jc R,bq R q,rfl,by omega,fun p hp=>?_,u2,fun c3=>?_⟩
 ·
  obtain⟨a,ha,rfl⟩:=List.mem_map.mp hp
  exact(hR.rb ha).mono (by decide)
 walk_at "w"
 refine⟨pQ R q,bq R q,rfl,by omega,fun p hp=>?_,u2,fun c4=>?_⟩
 ·
  obtain⟨r,hr,rfl⟩:=List.mem_map.mp hp
  exact(hq.mul (hR.room r hr).2).mono (by decide)
 walk_at "w"
 rw[HN,HP]
 exact⟨by decide,_,aj (aj aD),h⟩
def ie:FS:=fun ls post=>∃w:Bool,ls=[.d (.str (wayS w))]∧post (.d (.str (wayS !w))) ls
def jY:W Fl:=(wRet (wIfE (aP (wBin opEq (wVar 0) (wC (.str "on")))) (wC (.str "back")) (wC (.str "on"))))
theorem sj:∀ls post,ls.length=1→ie ls post→jY (ls++List.replicate 0 .un) (aL ls post):=by
 rintro ls post - ⟨w,rfl,h⟩
 unfold jY
 walk_at "w"
 cases w
 ·
  exact⟨_,aj aD,h⟩
 ·
  exact⟨_,aj aD,h⟩
def fH:FS:=fun ls post=>∃(R:Ring)(k:Nat)(w:Bool)(t:Nat)(hk:k<R.asks.length),ls=[.d (aR R),.d (.int k),.d (.str (wayS w)),.d (.int t)]∧R.Ok∧t<R.n∧post (.d (.bl (isOn R.n R.asks[k] t == w))) ls
def oS:W Fl:=(wRet (wBin opEq (wVar 7) (wBin opEq (wVar 2) (wC (.str "on")))))
def oT:W Fl:=(wSeq (wSet 7 (wBin opLt (wBin eE (wBin jF (wVar 3) (wVar 5)) (wVar 4)) (wBin eE (wBin jF (wVar 6) (wVar 5)) (wVar 4))))
  oS)
def oU:W Fl:=(wSeq (wSet 6 (wBin opIx (wBin opIx (wBin opIx (wVar 0) (wC (.int 1))) (wVar 1)) (wC (.int 2))))
  oT)
def oV:W Fl:=(wSeq (wSet 5 (wBin opIx (wBin opIx (wBin opIx (wVar 0) (wC (.int 1))) (wVar 1)) (wC (.int 1))))
  oU)
def oW:W Fl:=(wSeq (wSet 4 (wFrz (aW bJ (aVal (wBin opIx (wVar 0) (wC (.int 0))) aNil))))
  oV)
theorem wk:∀ls post,ls.length=4→fH ls post→oW (ls++List.replicate 4 .un) (aL ls post):=by
 rintro ls post - ⟨R,k,w,t,hk,rfl,hR,ht,h⟩
 have ha:=hR.ask _ (List.getElem_mem hk)
 have h1:=ha.one
 have h2:=ha.other
 unfold oW
 walk_at "w"
 unfold oV
 walk_at "w"
 refine⟨_,cB hk,?_⟩
 walk_at "w"
 unfold oU
 walk_at "w"
 refine⟨_,cB hk,?_⟩
 walk_at "w"
 unfold oT
 walk_at "w"
 rw[Az h1 h2,Az h1 ht]
 refine⟨by omega,by omega,?_⟩
 unfold oS
 walk_at "w"
 refine⟨_,aj (aj (aj (aj aD))),?_⟩
 have e:decide (decide ((((t+R.n-R.asks[k].one) % R.n:Nat):Int)<(((R.asks[k].other+R.n-R.asks[k].one) % R.n:Nat):Int))=decide (w=true))=(isOn R.n R.asks[k] t == w):=by
  have e1:decide ((((t+R.n-R.asks[k].one) % R.n:Nat):Int)<(((R.asks[k].other+R.n-R.asks[k].one) % R.n:Nat):Int))=isOn R.n R.asks[k] t:=by
   unfold isOn far
   rw[decide_eq_decide]
   omega
  rw[e1]
  cases isOn R.n R.asks[k] t<;>cases w<;>rfl
 rw[e]
 exact h
def ig:FS:=fun ls post=>∃(R:Ring)(ps:List Rat)(k t:Nat)(hk:k<R.asks.length)(hp:k<ps.length),ls=[.d (aR R),.d (.lst (ps.map frD)),.d (.int k),.d (.int t)]∧R.Ok∧RB 4400 ps[k]∧t<R.n∧post (.d (frD (sent R.n R.asks[k] ps[k] t))) ls
def jZ:W Fl:=(wSeq (wIf (aP (aC fH (aVal (wVar 0) (aVal (wVar 2) (aVal (wC (.str "on")) (aVal (wVar 3) aNil)))))) (wRet (wBin opIx (wVar 1) (wVar 2))) bE)
  (wRet (aC nN (aVal (wBin opIx (wBin opIx (wBin opIx (wVar 0) (wC (.int 1))) (wVar 2)) (wC (.int 3))) (aVal (wBin opIx (wVar 1) (wVar 2)) aNil)))))
theorem sk:∀ls post,ls.length=4→ig ls post→jZ (ls++List.replicate 0 .un) (aL ls post):=by
 rintro ls post - ⟨R,ps,k,t,hk,hp,rfl,hR,hb,ht,h⟩
 have ha:=hR.ask _ (List.getElem_mem hk)
 unfold jZ
 walk_at "w"
 refine⟨R,k,true,t,hk,rfl,hR,ht,?_⟩
 walk_at "w"
 unfold sent at h
 cases e:isOn R.n R.asks[k] t
 ·
  rw[e]at h
  walk_at "w"
  refine⟨_,cB hk,?_⟩
  walk_at "w"
  refine⟨_,cB hp,?_⟩
  exact Bm ((hR.rb (List.getElem_mem hk)).mono (by decide)) (hb.mono (by decide)) ⟨_,aj (aj (aj (aj aD))),h⟩
 ·
  rw[e]at h
  walk_at "w"
  exact⟨_,cB hp,_,aj (aj (aj (aj aD))),h⟩
def lZ:FS:=fun ls post=>∃(R:Ring)(ps:List Rat)(t:Nat),ls=[.d (aR R),.d (.lst (ps.map frD)),.d (.int t)]∧R.Ok∧ps.length=R.asks.length∧LB R ps∧t<R.n∧post (.d (frD (eF R.n R.asks ps t))) ls
def oX:W L:=(aC ig (aVal (wVar 1) (aVal (wVar 2) (aVal (wVar 0) (aVal (wVar 3) aNil)))))
def oY:W Fl:=(wRet (aC oM (aVal (wFrz (bX 1 [0,1,2] (lH (aW bJ (aVal (wBin opIx (wVar 0) (wC (.int 1))) aNil))) (aI 0) bF oX)) aNil)))
theorem wm:∀ls post,ls.length=3→lZ ls post→oY (ls++List.replicate 0 .un) (aL ls post):=by
 rintro ls post - ⟨R,ps,t,rfl,hR,hl,hb,ht,h⟩
 have hfew:=hR.few
 unfold oY
 walk_at "w"
 refine⟨⟨by omega,by omega⟩,?_⟩
 rw[Int.toNat_natCast,kI]
 refine⟨by rw[List.length_map,List.length_range];exact Nat.le_trans hfew (by decide),?_⟩
 refine a6 (h:=fun k=>frD (((R.asks.zip ps).map fun x=>sent R.n x.1 x.2 t).getD k 0)) _ _ _ (fun k hk Q q=>?_) fun l' a=>?_
 ·
  have hk:=List.mem_range.mp hk
  unfold oX
  walk_at "w"
  refine⟨R,ps,k,t,hk,by omega,rfl,hR,(hb.p _ (List.getElem_mem _)).mono (by decide),ht,?_⟩
  walk_at "w"
  have e:(((R.asks.zip ps).map fun x=>sent R.n x.1 x.2 t).getD k 0)=sent R.n R.asks[k] (ps[k]'(by omega)) t:=by
   rw[List.getD_eq_getElem?_getD,List.getElem?_map,List.getElem?_eq_getElem (by rw[List.length_zip];omega),List.getElem_zip]
   rfl
  rw[e]at q
  exact q
 ·
  walk_at "w"
  have e:(List.range R.asks.length).map (fun k=>frD (((R.asks.zip ps).map fun x=>sent R.n x.1 x.2 t).getD k 0))=((R.asks.zip ps).map fun x=>sent R.n x.1 x.2 t).map frD:=by
   refine AD _ (by rw[List.length_map,List.length_zip];omega) _ fun k hk=>?_
   rw[List.getD_eq_getElem?_getD,List.getElem?_eq_getElem hk]
   rfl
  rw[e]
  refine⟨_,_,rfl,.inl rfl,by rw[List.length_map,List.length_zip];omega,fun q hq=>?_,hb.sm t,⟨_,aj (aj (aj aD)),h⟩⟩
  obtain⟨x,hx,rfl⟩:=List.mem_map.mp hq
  obtain⟨j,hj,e⟩:=List.mem_iff_getElem.mp hx
  have hj':j<R.asks.length:=by rw[List.length_zip]at hj;omega
  rw[List.getElem_zip]at e
  rw[← e]
  exact(hb.st j hj' (by omega) t).mono (by decide)
def j2:FS:=fun ls post=>∃(R:Ring)(ps:List Rat),ls=[.d (aR R),.d (.lst (ps.map frD))]∧R.Ok∧ps.length=R.asks.length∧LB R ps∧∀a,post (.own a (frL R.n (eF R.n R.asks ps))) ls
def mL:W L:=(aC lZ (aVal (wVar 1) (aVal (wVar 2) (aVal (wVar 0) aNil))))
def l4:W Fl:=(wRet (bX 1 [0,1] (lH (aW bJ (aVal (wBin opIx (wVar 0) (wC (.int 0))) aNil))) (aI 0) bF mL))
theorem uH:∀ls post,ls.length=2→j2 ls post→l4 (ls++List.replicate 0 .un) (aL ls post):=by
 rintro ls post - ⟨R,ps,rfl,hR,hl,hb,h⟩
 have hhi:=hR.hi
 unfold l4
 walk_at "w"
 refine⟨⟨by omega,by omega⟩,?_⟩
 rw[Int.toNat_natCast,kI]
 refine⟨by rw[List.length_map,List.length_range];exact Nat.le_trans hhi (by decide),?_⟩
 refine a6 (h:=fun t=>frD (eF R.n R.asks ps t)) _ _ _ (fun t ht Q q=>?_) fun l' a=>?_
 ·
  unfold mL
  walk_at "w"
  refine⟨R,ps,t,rfl,hR,hl,hb,List.mem_range.mp ht,?_⟩
  walk_at "w"
  exact q
 ·
  walk_at "w"
  exact⟨_,aj (aj aD),h a⟩
def gj:FS:=fun ls post=>∃(R:Ring)(ps:List Rat),ls=[.d (aR R),.d (.lst (ps.map frD))]∧R.Ok∧ps.length=R.asks.length∧LB R ps∧∀a,post (.own a (frL R.n (bh R ps))) ls
def jf:W L:=(aC we (aVal (wVar 0) (aVal (wVar 1) aNil)))
def ij:W Fl:=(wRet (bX 2 [] (wZip (aC j2 (aVal (wVar 0) (aVal (wVar 1) aNil))) (wBin opIx (wVar 0) (wC (.int 0)))) (dU [0,1]) bF jf))
theorem pX:∀ls post,ls.length=2→gj ls post→ij (ls++List.replicate 0 .un) (aL ls post):=by
 rintro ls post - ⟨R,ps,rfl,hR,hl,hb,h⟩
 have hhi:=hR.hi
 unfold ij
 walk_at "w"
 refine⟨R,ps,rfl,hR,hl,hb,fun _=>?_⟩
 walk_at "w"
 rw[C4,FQ]
 refine⟨by rw[List.length_map,List.length_range];exact Nat.le_trans hhi (by decide),?_⟩
 refine gZ (h:=fun t=>frD (bh R ps t)) _ _ _ _ (fun t ht Q q=>?_) fun l m a=>?_
 ·
  have ht:=List.mem_range.mp ht
  obtain⟨r1,r2⟩:=g8 hR ht
  unfold jf
  walk_at "w"
  exact⟨_,_,rfl,(hb.all hl t).mono (by decide),r2.mono (by decide),(by grind),q⟩
 ·
  walk_at "w"
  exact⟨_,aj (aj aD),h a⟩
def topP(R:Ring)(ps:List Rat):D:=.tup [frD (bh R ps (topI R.n (bh R ps))),.int (topI R.n (bh R ps):Nat)]
def oZ:FS:=fun ls post=>∃(R:Ring)(ps:List Rat),ls=[.d (aR R),.d (.lst (ps.map frD))]∧R.Ok∧ps.length=R.asks.length∧LB R ps∧post (.d (topP R ps)) ls
def qI:W Fl:=(wIf (aP (aC rZ (aVal (wBin opIx (wVar 2) (wVar 3)) (aVal (wVar 5) aNil)))) (wSet 3 (wVar 4)) bE)
def sr:W Fl:=(wSeq (wSet 2 (wFrz (aC gj (aVal (wVar 0) (aVal (wVar 1) aNil)))))
  (wSeq (wSet 3 (wC (.int 0)))
  (wSeq (wFor (yi (wVar 2)) (dU [4,5]) qI)
  (wRet (wTup (aVal (wBin opIx (wVar 2) (wVar 3)) (aVal (wVar 3) aNil)))))))
theorem yN:∀ls post,ls.length=2→oZ ls post→sr (ls++List.replicate 4 .un) (aL ls post):=by
 rintro ls post - ⟨R,ps,rfl,hR,hl,hb,h⟩
 have hlo:=hR.lo
 have sb:∀t,t<R.n→RB 4400 (bh R ps t):=fun t ht=>((hb.all hl t).div (g8 hR ht).2 (by have:=(g8 hR ht).1;grind)).mono (by decide)
 unfold sr
 walk_at "w"
 refine⟨R,ps,rfl,hR,hl,hb,fun _=>?_⟩
 walk_at "w"
 rw[FP]
 refine fW (enc:=fun (t:Nat)=>D.tup [.int (t:Int),frD (bh R ps t)]) (List.range R.n) (fun pre ρ=>∃(b:Nat)(x4 x5:L),ρ=[.d (aR R),.d (.lst (ps.map frD)),.d (.lst (frL R.n (bh R ps))),.d (.int b),x4,x5]∧b=pre.foldl (fun b t=>if bh R ps b<bh R ps t then t else b) 0∧b<R.n) _ ⟨0,_,_,rfl,rfl,by omega⟩ ?_ ?_
 ·
  rintro pre t suf ρ hsp ⟨b,x4,x5,rfl,hbe,hbn⟩ Q h1 h2 h3 h4
  have ht:t<R.n:=List.mem_range.mp (by rw[hsp];simp)
  have ef:(pre++[t]).foldl (fun b t=>if bh R ps b<bh R ps t then t else b) 0=if bh R ps b<bh R ps t then t else b:=by
   rw[List.foldl_append,← hbe];rfl
  unfold qI
  walk_at "w"
  refine⟨_,D8 hbn,_,_,rfl,(sb _ hbn).mono (by decide),(sb _ ht).mono (by decide),?_⟩
  walk_at "w"
  split
  ·
   rename_i hlt
   rw[if_pos hlt]at ef
   exact h1 _ ⟨t,_,_,rfl,ef.symm,ht⟩
  ·
   rename_i hlt
   rw[if_neg hlt]at ef
   exact h1 _ ⟨b,_,_,rfl,ef.symm,hbn⟩
 ·
  rintro ρ ⟨b,x4,x5,rfl,hbe,hbn⟩
  walk_at "w"
  refine⟨_,D8 hbn,by decide,_,aj (aj aD),?_⟩
  have e:b=topI R.n (bh R ps):=hbe
  rw[e]
  exact h
def Eb(as:List Ask)(ws:List Bool):List Rat:=(as.zip ws).map fun x=>if x.2 then x.1.size else 0
def l5:FS:=fun ls post=>∃(R:Ring)(ws:List Bool),ls=[.d (aR R),.d (.lst (ws.map fun w=>D.str (wayS w)))]∧R.asks.length≤20∧ws.length=R.asks.length∧∀c,post (.own c ((Eb R.asks ws).map frD)) ls
def o3:W L:=(wIfE (aP (wBin opEq (wVar 1) (wC (.str "on")))) (wBin opIx (wVar 0) (wC (.int 3))) (wC (.tup [(.int 0),(.int 1)])))
def o4:W Fl:=(wRet (bX 2 [] (wZip (wBin opIx (wVar 0) (wC (.int 1))) (wVar 1)) (dU [0,1]) bF o3))
theorem wo:∀ls post,ls.length=2→l5 ls post→o4 (ls++List.replicate 0 .un) (aL ls post):=by
 rintro ls post - ⟨R,ws,rfl,hfew,hl,h⟩
 unfold o4
 walk_at "w"
 have e:zipD (R.asks.map askD) (ws.map fun w=>D.str (wayS w))=(R.asks.zip ws).map fun x=>D.tup [askD x.1,D.str (wayS x.2)]:=by
  unfold zipD
  rw[List.zip_map,List.map_map]
  rfl
 rw[e]
 refine⟨by rw[List.length_map,List.length_zip];exact Nat.le_trans (show min R.asks.length ws.length≤20 by omega) (by decide),?_⟩
 refine gZ (h:=fun x=>frD (if x.2 then x.1.size else 0)) _ _ _ _ (fun x hx Q q=>?_) fun l m a=>?_
 ·
  unfold o3
  walk_at "w"
  split
  ·
   rename_i c
   rw[if_pos c]at q
   exact q
  ·
   rename_i c
   rw[if_neg c]at q
   exact q
 ·
  walk_at "w"
  have:=h a
  unfold Eb at this
  rw[List.map_map]at this
  exact⟨_,aj (aj aD),this⟩
def o5:FS:=fun ls post=>∃(R:Ring)(ws:List Bool),ls=[.d (aR R),.d (e8 ws)]∧R.Ok∧S61 R∧ws.length=R.asks.length∧post (.d (frD (topW R ws))) ls
def sx:W Fl:=(wRet (wBin opIx (aC oZ (aVal (wVar 0) (aVal (wFrz (aC l5 (aVal (wVar 0) (aVal (wVar 1) aNil)))) aNil))) (wC (.int 0))))
theorem yO:∀ls post,ls.length=2→o5 ls post→sx (ls++List.replicate 0 .un) (aL ls post):=by
 rintro ls post - ⟨R,ws,rfl,hR,hT,hw,h⟩
 unfold sx
 walk_at "w"
 refine⟨R,ws,rfl,hR.few,hw,fun c=>?_⟩
 walk_at "w"
 refine⟨R,wprt R.asks ws,rfl,hR,Do hw,LB.ways hR hT ws,?_⟩
 unfold topP
 walk_at "w"
 exact⟨_,aj (aj aD),h⟩
def ik:FS:=fun ls post=>∃(el ws:List (Option Bool)),ls=[.d (elD el),.d (elD ws)]∧ws.length≤99∧∀a,post (.own a ((fC el ws).map fun (k:Nat)=>D.int (k:Int))) ls
def kT:W L:=(wVar 0)
def j3:W Fl:=(wSeq (wSet 2 (wFrz (Cw (aVal (wVar 0) (aVal (wVar 1) aNil)))))
  (wRet (bX 2 [] (yi (wVar 2)) (dU [0,1]) (wAnd (aP (wBin tS (wBin opIx (wVar 1) (wC (.int 0))) (wC .non))) (aP (wBin opEq (wBin opIx (wVar 1) (wC (.int 1))) (aC ie (aVal (wBin opIx (wVar 1) (wC (.int 0))) aNil))))) kT)))
theorem Gj(l:List ((Option Bool×Option Bool)×Nat)):(l.filterMap fun x=>if cC x.1=true then some (D.int (x.2:Int))else none)=((l.filter fun x=>cC x.1).map (·.2)).map fun (k:Nat)=>D.int (k:Int):=by
 induction l with
 |nil=>rfl
 | cons x l ih =>
  rw[List.filterMap_cons,List.filter_cons]
  cases e:cC x.1
  ·
   simpa[e]using ih
  ·
   simpa[e]using ih
theorem DA(el ws:List (Option Bool)):gW (zipD (el.map optW) (ws.map optW))=(el.zip ws).zipIdx.map fun x=>D.tup [D.int (x.2:Int),D.tup [optW x.1.1,optW x.1.2]]:=by
 unfold gW zipD
 rw[List.zip_map,List.map_map]
 refine List.ext_getElem (by simp) fun j h1 h2=>?_
 simp
theorem sy:∀ls post,ls.length=2→ik ls post→j3 (ls++List.replicate 1 .un) (aL ls post):=by
 rintro ls post - ⟨el,ws,rfl,hl,h⟩
 unfold j3 elD
 walk_at "w"
 have zl:(zipD (el.map optW) (ws.map optW)).length≤99:=by simp[zipD];omega
 refine⟨Nat.le_trans zl (by decide),fun _=>?_⟩
 rw[DA]
 refine⟨by rw[List.length_map,List.length_zipIdx,List.length_zip];exact Nat.le_trans (show min el.length ws.length≤99 by omega) (by decide),?_⟩
 refine iP (e1:=fun x=>D.int (x.2:Int)) (e2:=fun x=>D.tup [optW x.1.1,optW x.1.2]) (h:=fun x=>if cC x.1=true then some (D.int (x.2:Int))else none) ((el.zip ws).zipIdx) _ _ _ (fun x hx Q hQ=>?_) fun l m=>?_
 ·
  obtain⟨⟨o,p⟩,k⟩:=x
  unfold kT
  cases o with
  | none =>
   have o1:optW none=.non:=rfl
   simp only[o1]at hQ ⊢
   walk_at "w"
   exact hQ
  | some b =>
   have o2:optW (some b)=.str (wayS b):=rfl
   simp only[o2]at hQ ⊢
   walk_at "w"
   refine⟨b,rfl,?_⟩
   walk_at "w"
   refine⟨yy p,?_⟩
   rw[FU]
   have e:cC (some b,p)=(p == some !b):=rfl
   rw[e]at hQ
   cases hp:(p == some !b)
   ·
    rw[hp]at hQ
    simpa using hQ
   ·
    rw[hp]at hQ
    simpa using hQ
 ·
  intro a
  rw[List.nil_append,Gj]
  exact⟨_,aj (aj aD),h a⟩
def c8:FS:=fun ls post=>∃(w:Wish)(x y:Int),ls=[.d (dY w),.d (.int x),.d (.int y)]∧post (.d (.bl (eG w.strict x y))) ls
def gk:W Fl:=(wRet (wOrV (wBin opGt (wVar 1) (wVar 2)) (jC (wBin opIx (wVar 0) (wC (.int 1))) (wBin opEq (wVar 1) (wVar 2)))))
theorem o6:∀ls post,ls.length=3→c8 ls post→gk (ls++List.replicate 0 .un) (aL ls post):=by
 rintro ls post - ⟨w,x,y,rfl,h⟩
 unfold gk
 unfold eG at h
 simp only[dY]at h ⊢
 walk_at "w"
 by_cases c:y<x
 ·
  rw[if_pos c]
  rw[decide_eq_true c,Bool.true_or]at h
  exact⟨_,aj (aj (aj aD)),h⟩
 ·
  rw[if_neg c]
  rw[decide_eq_false c,Bool.false_or]at h
  cases e:w.strict
  ·
   rw[e]at h
   simp only[Bool.false_eq_true,if_false]
   exact⟨_,aj (aj (aj aD)),h⟩
  ·
   rw[e]at h
   simp only[if_true]
   exact⟨_,aj (aj (aj aD)),h⟩
def cJ:FS:=fun ls post=>∃(w:Wish)(ws:List (Option Bool)),ls=[.d (dY w),.d (elD ws)]∧ws.length≤99∧post (.d (.bl (decide (w.most<(fC w.elder ws).length)))) ls
def fj:W Fl:=(wRet (wBin opGt (aW bJ (aVal (wFrz (aC ik (aVal (wBin opIx (wVar 0) (wC (.int 2))) (aVal (wVar 1) aNil)))) aNil)) (wBin opIx (wVar 0) (wC (.int 3)))))
theorem ny:∀ls post,ls.length=2→cJ ls post→fj (ls++List.replicate 0 .un) (aL ls post):=by
 rintro ls post - ⟨w,ws,rfl,hl,h⟩
 unfold fj
 simp only[dY]at h ⊢
 walk_at "w"
 refine⟨w.elder,ws,rfl,hl,fun a=>?_⟩
 walk_at "w"
 refine⟨_,aj (aj aD),?_⟩
 have e:decide (((w.most:Nat):Int)<((fC w.elder ws).length:Int))=decide (w.most<(fC w.elder ws).length):=by rw[decide_eq_decide];omega
 rw[e]
 exact h
def gm:FS:=fun ls post=>∃(T:Tr),ls=[.d (trD T)]∧post (.d (.bl (T.kind == 2))) ls
def l6:W Fl:=(wRet (aC cH (aVal (wVar 0) (aVal (wC (.str "split")) (aVal (wC (.int 4)) aNil)))))
theorem uI:∀ls post,ls.length=1→gm ls post→l6 (ls++List.replicate 0 .un) (aL ls post):=by
 rintro ls post - ⟨T,rfl,h⟩
 unfold l6
 walk_at "w"
 refine⟨T,2,rfl,by decide,?_⟩
 exact⟨_,aj aD,h⟩
def gn:FS:=fun ls post=>∃(R:Ring)(k:Nat)(o:Option Bool)(c:Nat×Nat),ls=[.d (aR R),.d (.int (k:Int)),.d (optW o),.d (cutP c)]∧R.Ok∧k<R.asks.length∧rC R.n c∧post (.d (.int (tovO R o c k))) ls
def jg:W L:=(wVar 0)
def ip:W Fl:=(wSeq (wIf (aP (wBin ye (wVar 2) (wC .non))) (wRet (wIfE (aP (aC cI (aVal (wVar 3) (aVal (wBin opIx (wBin opIx (wBin opIx (wVar 0) (wC (.int 1))) (wVar 1)) (wC (.int 1))) (aVal (wBin opIx (wBin opIx (wBin opIx (wVar 0) (wC (.int 1))) (wVar 1)) (wC (.int 2))) aNil))))) (wC (.int 1)) (wC (.int 0)))) bE)
  (wRet (aW bJ (aVal (wFrz (bX 1 [0,1,2] (wSrc (wVar 3)) (aI 0) (aP (aC fH (aVal (wVar 1) (aVal (wVar 2) (aVal (wVar 3) (aVal (wVar 0) aNil)))))) jg)) aNil))))
theorem pY:∀ls post,ls.length=4→gn ls post→ip (ls++List.replicate 0 .un) (aL ls post):=by
 rintro ls post - ⟨R,k,o,c,rfl,hR,hk,hc,h⟩
 unfold ip
 cases o with
 | none =>
  unfold optW at *
  walk_at "w"
  refine⟨_,cB hk,?_⟩
  walk_at "w"
  refine⟨_,cB hk,?_⟩
  walk_at "w"
  refine⟨c,_,_,rfl,?_⟩
  unfold tovO at h
  rw[eL hk]at h
  dsimp only at h
  cases e:apart c R.asks[k].one R.asks[k].other
  ·
   rw[e]at h
   walk_at "w"
   exact⟨_,aj (aj (aj (aj aD))),h⟩
  ·
   rw[e]at h
   walk_at "w"
   exact⟨_,aj (aj (aj (aj aD))),h⟩
 | some b =>
  have t1:c.1<R.n:=by have:=hc.1;have:=hc.2;omega
  have t2:c.2<R.n:=hc.2
  unfold optW at *
  walk_at "w"
  show((_:List D).length≤sizeLine∧_)
  refine⟨by simp;decide,kH (enc:=fun (t:Nat)=>D.int (t:Int)) (h:=fun t=>if(onA R k t == b)=true then some (D.int (t:Int))else none) [c.1,c.2] _ _ (fun t ht Q hQ=>?_) fun l a=>?_⟩
  ·
   have ht':t<R.n:=by
    rcases List.mem_cons.mp ht with rfl|ht
    ·
     exact t1
    ·
     simp at ht
     subst ht
     exact t2
   walk_at "w"
   refine⟨R,k,b,t,hk,rfl,hR,ht',?_⟩
   have e:onA R k t=isOn R.n R.asks[k] t:=by unfold onA;rw[eL hk]
   rw[e]at hQ
   walk_at "w"
   cases eb:(isOn R.n R.asks[k] t == b)
   ·
    rw[eb]at hQ
    exact hQ
   ·
    rw[eb]at hQ
    unfold jg
    walk_at "w"
    exact hQ
  ·
   walk_at "w"
   have e:(([c.1,c.2].filterMap fun t=>if(onA R k t == b)=true then some (D.int (t:Int))else none).length:Int)=tovO R (some b) c k:=by
    unfold tovO
    cases e1:(onA R k c.1 == b)<;>cases e2:(onA R k c.2 == b)<;>simp only[List.filterMap_cons,List.filterMap_nil,e1,e2,if_true,Bool.false_eq_true,if_false]<;>rfl
   rw[e]
   exact⟨_,aj (aj (aj (aj aD))),h⟩
def fk:FS:=fun ls post=>∃(R:Ring)(w:Wish)(u:Int)(fx:List (Option Bool))(c:Nat×Nat),ls=[.d (aR R),.d (dY w),.d (.tup [.int u,.lst (intL R.asks.length (wI R w.top)),.lst (intL R.n (f0I R w.top))]),.d (elD fx),.d (cutP c)]∧R.Ok∧RB 1750 w.top∧fx.length=R.asks.length∧rC R.n c∧post (.d (.bl (eG w.strict (vP R w.top fx c) (f0I R w.top c.1+f0I R w.top c.2)))) ls
def iq:W L:=(wBin a7 (wVar 1) (aC gn (aVal (wVar 2) (aVal (wVar 0) (aVal (wBin opIx (wVar 3) (wVar 0)) (aVal (wVar 4) aNil))))))
def gp:W Fl:=(wSeq (wSet 5 (wBin opIx (wVar 2) (wC (.int 2))))
  (wSeq (wSet 6 (wFrz (aW Hm (aVal (wFrz (bX 2 [0,3,4] (yi (wBin opIx (wVar 2) (wC (.int 1)))) (dU [0,1]) bF iq)) aNil))))
  (wRet (aC c8 (aVal (wVar 1) (aVal (wVar 6) (aVal (wFrz (wBin bP (wBin opIx (wVar 5) (wBin opIx (wVar 4) (wC (.int 0)))) (wBin opIx (wVar 5) (wBin opIx (wVar 4) (wC (.int 1)))))) aNil)))))))
theorem o7:∀ls post,ls.length=5→fk ls post→gp (ls++List.replicate 2 .un) (aL ls post):=by
 rintro ls post - ⟨R,w,u,fx,c,rfl,hR,hq,hf,hc,h⟩
 have few:=hR.few
 have t1:c.1<R.n:=by have:=hc.1;have:=hc.2;omega
 have t2:c.2<R.n:=hc.2
 unfold gp
 walk_at "w"
 rw[Bb]
 refine⟨by rw[List.length_map,List.length_range];exact Nat.le_trans few (by decide),gZ (e1:=fun (t:Nat)=>D.int (t:Int)) (e2:=fun t=>D.int (wI R w.top t)) (h:=fun t=>D.int (wI R w.top t*tov R fx c t)) (List.range R.asks.length) _ _ _ (fun t ht Q hQ=>?_) fun l m c2=>?_⟩
 ·
  have ht:=List.mem_range.mp ht
  unfold iq elD
  walk_at "w"
  refine⟨_,HV (by omega),?_⟩
  refine⟨R,t,_,c,rfl,hR,ht,hc,?_⟩
  rw[HU]at hQ
  walk_at "w"
  exact⟨a8 (Jg hR hq ht) (by decide),a8 (Dp R _ c t) (by decide),hQ⟩
 rw[List.nil_append]
 walk_at "w"
 refine⟨(List.range R.asks.length).map fun t=>wI R w.top t*tov R fx c t,by rw[List.map_map];rfl,?_⟩
 rw[Ba]
 walk_at "w"
 refine⟨_,fX t1,_,fX t2,?_⟩
 refine⟨w,_,_,rfl,?_⟩
 exact⟨_,aj (aj (aj (aj (aj aD)))),h⟩
def ir:FS:=fun ls post=>∃(R:Ring)(w:Wish)(u:Int)(fx:List (Option Bool))(T:Tr),ls=[.d (aR R),.d (dY w),.d (.tup [.int u,.lst (intL R.asks.length (wI R w.top)),.lst (intL R.n (f0I R w.top))]),.d (elD fx),.d (trD T)]∧R.Ok∧RB 1750 w.top∧fx.length=R.asks.length∧T.Ok R w fx∧post (.d (.bl true)) ls
def j4:W Fl:=(wSeq (wIf (aP (aC cH (aVal (wVar 4) (aVal (wC (.str "turned")) (aVal (wC (.int 1)) aNil))))) (wRet (aC cJ (aVal (wVar 1) (aVal (wVar 3) aNil)))) bE)
  (wSeq (wIf (aP (aC cH (aVal (wVar 4) (aVal (wC (.str "cut")) (aVal (wC (.int 3)) aNil))))) (wRet (jC (aC oO (aVal (wVar 0) (aVal (wFrz (wSl2 (wVar 4) (some (wC (.int 1))) none)) aNil))) (aC fk (aVal (wVar 0) (aVal (wVar 1) (aVal (wVar 2) (aVal (wVar 3) (aVal (wFrz (wSl2 (wVar 4) (some (wC (.int 1))) none)) aNil)))))))) bE)
  (wRet (jC (aC gm (aVal (wVar 4) aNil)) (jC (aC cG (aVal (wBin opIx (wVar 4) (wC (.int 1))) (aVal (wFrz (aW bJ (aVal (wVar 3) aNil))) aNil))) (wBin ye (wBin opIx (wVar 3) (wBin opIx (wVar 4) (wC (.int 1)))) (wC .non)))))))
theorem sD:∀ls post,ls.length=5→ir ls post→j4 (ls++List.replicate 0 .un) (aL ls post):=by
 rintro ls post - ⟨R,w,u,fx,T,rfl,hR,hq,hf,ht,h⟩
 have few:=hR.few
 unfold j4
 walk_at "w"
 refine⟨T,0,rfl,by decide,?_⟩
 cases T with
 | turned =>
  have e:decide (w.most<(fC w.elder fx).length)=true:=decide_eq_true ht
  walk_at "w"
  rw[if_pos (show(Tr.turned.kind == 0)=true from rfl)]
  refine⟨w,fx,rfl,by omega,?_⟩
  rw[e]
  exact⟨_,aj (aj (aj (aj (aj aD)))),h⟩
 | cut c =>
  walk_at "w"
  rw[if_neg (show ¬((Tr.cut c).kind == 0)=true from by simp[Tr.kind])]
  refine⟨.cut c,1,rfl,by decide,?_⟩
  walk_at "w"
  rw[if_pos (show((Tr.cut c).kind == 1)=true from rfl)]
  have ec:cutD [D.str "cut",.int (c.1:Int),.int (c.2:Int)] (some 1) none=[.int (c.1:Int),.int (c.2:Int)]:=rfl
  have eb:cutB R.n (cutP c)=true:=decide_eq_true ⟨by omega,by have:=ht.1.1;omega,by have:=ht.1.2;omega⟩
  have ne:¬(HT.sIx 3 0 (some 1)=0∧HT.sIx 3 3 none=3):=by decide
  unfold trD at h ⊢
  walk_at "w"
  rw[ec]
  refine⟨ne,R,cutP c,rfl,?_⟩
  rw[eb]
  walk_at "w"
  refine⟨ne,R,w,u,fx,c,rfl,hR,hq,hf,ht.1,?_⟩
  rw[ht.2]
  exact⟨_,aj (aj (aj (aj (aj aD)))),h⟩
 | split k a b =>
  have hk:=ht.1
  have hn:=ht.2.1
  walk_at "w"
  rw[if_neg (show ¬((Tr.split k a b).kind == 0)=true from by simp[Tr.kind])]
  refine⟨.split k a b,1,rfl,by decide,?_⟩
  walk_at "w"
  rw[if_neg (show ¬((Tr.split k a b).kind == 1)=true from by simp[Tr.kind])]
  refine⟨.split k a b,rfl,?_⟩
  walk_at "w"
  rw[if_pos (show((Tr.split k a b).kind == 2)=true from rfl)]
  unfold trD elD at h ⊢
  walk_at "w"
  refine⟨_,_,rfl,?_⟩
  rw[show Dr (.int (k:Int)) (fx.length:Int)=true from decide_eq_true (show 0≤(k:Int)∧(k:Int)<(fx.length:Int) by omega)]
  walk_at "w"
  refine⟨_,HV hk,?_⟩
  rw[hn]
  exact⟨_,aj (aj (aj (aj (aj aD)))),h⟩
def eQ:FS:=fun ls post=>∃(k:Nat)(a b:Tr)(fx:List (Option Bool))(ws:List Bool)(d:Bool),ls=[.d (rO ⟨.split k a b,fx,ws⟩),.d (.str (wayS d))]∧k<fx.length∧fx.length≤20∧ws.length≤300∧post (.d (rO ⟨if d then a else b,fx.set k (some d),ws++[d]⟩)) ls
def j5:W Fl:=(wSeq (wSet 2 (wBin opIx (wVar 0) (wC (.int 0))))
  (wSeq (wSet 3 (aW wW (aVal (wBin opIx (wVar 0) (wC (.int 1))) aNil)))
  (wSeq (vm 3 (wBin opIx (wVar 2) (wC (.int 1))) (wVar 1))
  (wRet (wTup (aVal (wIfE (aP (wBin opEq (wVar 1) (wC (.str "on")))) (wBin opIx (wVar 2) (wC (.int 2))) (wBin opIx (wVar 2) (wC (.int 3)))) (aVal (wVar 3) (aVal (wFrz (wBin bP (wBin opIx (wVar 0) (wC (.int 2))) (wLst (aVal (wVar 1) aNil)))) aNil))))))))
theorem sE:∀ls post,ls.length=2→eQ ls post→j5 (ls++List.replicate 2 .un) (aL ls post):=by
 rintro ls post - ⟨k,a,b,fx,ws,d,rfl,hk,hx,hw,h⟩
 unfold j5 rO trD elD e8
 walk_at "w"
 have ix:ixN fx.length (k:Int)=some k:=by
  have:=AW (n:=fx.length) (f:=fun _=>0) hk
  rwa [iS]at this
 have e1:(fx.map optW).set k (.str (wayS d))=(fx.set k (some d)).map optW:=by rw[List.map_set];rfl
 have e2:(ws.map fun w=>D.str (wayS w))++[.str (wayS d)]=(ws++[d]).map fun w=>D.str (wayS w):=by rw[List.map_append];rfl
 refine fun a1=>⟨k,ix,?_⟩
 rw[e1,e2]
 cases d
 all_goals
  simp only[if_true,Bool.false_eq_true,if_false]at h ⊢
  exact⟨by decide,fun a2=>⟨Nat.le_trans (show ws.length+1≤301 by omega) (by decide),fun a3=>⟨by decide,_,aj (aj aD),h⟩⟩⟩
def d9:FS:=fun ls post=>∃(R:Ring)(w:Wish)(T:Tr),ls=[.d (aR R),.d (dY w),.d (trD T)]∧R.Ok∧RB 1750 w.top∧T.Ok R w (List.replicate R.asks.length none)∧T.size≤300∧post (.d .non) ls
def gK:W Fl:=(wSeq (wSet 6 (wFrz (wPop 4)))
  (wSeq (wAug 5 (fun i j=>i+j) (wC (.int 1)))
  (wSeq (wIf (wOr (aP (wBin opGt (wVar 5) (wC (.int 300)))) (wNot (aP (aC ir (aVal (wVar 0) (aVal (wVar 1) (aVal (wVar 3) (aVal (wBin opIx (wVar 6) (wC (.int 1))) (aVal (wBin opIx (wVar 6) (wC (.int 0))) aNil))))))))) wR bE)
  (wIf (aP (aC gm (aVal (wBin opIx (wVar 6) (wC (.int 0))) aNil))) (wSeq (jD (wApp 4 (aC eQ (aVal (wVar 6) (aVal (wC (.str "back")) aNil)))))
  (jD (wApp 4 (aC eQ (aVal (wVar 6) (aVal (wC (.str "on")) aNil)))))) bE))))
def gL:W L:=(wC .non)
def fm:W Fl:=(wSeq (wSet 3 (wFrz (aC i3 (aVal (wVar 0) (aVal (wBin opIx (wVar 1) (wC (.int 0))) aNil)))))
  (wSeq (wSet 4 (wLst (aVal (wTup (aVal (wVar 2) (aVal (wFrz (bX 1 [] (wSrc (wBin opIx (wVar 0) (wC (.int 1)))) (aI 0) bF gL)) (aVal (wFrz (wLst aNil)) aNil)))) aNil)))
  (wSeq (wSet 5 (wC (.int 0)))
  (ja (wTru 4) gK))))
theorem DB(as:List Ask):(as.map fun _=>D.non)=(List.replicate as.length none).map optW:=by
 rw[List.map_replicate]
 exact List.map_const' ..
theorem eS(xs:List Wait)(x:Wait):nh (xs++[x])=nh xs+x.tr.size:=by simp[nh]
theorem xO:∀xs:List Wait,xs.length≤nh xs
 |[]=>Nat.zero_le _
 | x::xs=>by
  have h1:=xO xs
  have h2:=x.tr.size_pos
  have e:nh (x::xs)=x.tr.size+nh xs:=by simp[nh]
  rw[List.length_cons,e]
  omega
theorem nz:∀ls post,ls.length=3→d9 ls post→fm (ls++List.replicate 4 .un) (aL ls post):=by
 rintro ls post - ⟨R,w,T,rfl,hR,hq,ht,hs,h⟩
 have few:=hR.few
 unfold fm
 rw[show dY w=.tup [frD w.top,.bl w.strict,elD w.elder,.int (w.most:Int)]from rfl]
 walk_at "w"
 refine⟨R,w.top,rfl,hR,hq,?_⟩
 walk_at "w"
 refine⟨Nat.le_trans few (by decide),a6 (enc:=askD) (h:=fun _=>D.non) R.asks _ _ (fun a ha Q hQ=>?_) fun l c=>?_⟩
 ·
  unfold gL
  walk_at "w"
  exact hQ
 rw[List.nil_append,DB]
 walk_at "w"
 refine⟨by decide,fun _=>⟨by decide,by decide,fun a=>?_⟩⟩
 refine⟨fun n ρ=>∃(c:Addr)(xs:List Wait)(m:Nat)(x6:L),ρ=[.d (aR R),.d (dY w),.d (trD T),.d (.tup [.int (bq R w.top),.lst (intL R.asks.length (wI R w.top)),.lst (intL R.n (f0I R w.top))]),.own c (xs.map rO),.d (.int (m:Int)),x6]∧(∀x∈xs,x.tr.Ok R w x.fixed∧x.fixed.length=R.asks.length∧x.ways.length≤m)∧m+nh xs≤300∧n=nh xs,⟨_,a,[⟨T,List.replicate R.asks.length none,[]⟩],0,.un,rfl,fun x hx=>?_,?_,rfl⟩,?_⟩
 ·
  simp at hx
  subst hx
  exact⟨ht,by simp,by simp⟩
 ·
  simp[nh]
  exact hs
 rintro n ρ ⟨c,xs,m,x6,rfl,ok,hm,rfl⟩
 unfold wTru
 walk_at "w"
 rcases List.eq_nil_or_concat xs with rfl|⟨ys,x,rfl⟩
 ·
  rw[if_neg (by simp)]
  exact⟨_,aj (aj (aj aD)),h⟩
 simp only[List.concat_eq_append]at ok hm ⊢
 rw[eS]at hm
 obtain⟨xo,xf,xw⟩:=ok x (by simp)
 have oky:∀y∈ys,y.tr.Ok R w y.fixed∧y.fixed.length=R.asks.length∧y.ways.length≤m+1:=fun y hy=>by
  obtain⟨h1,h2,h3⟩:=ok y (List.mem_append_left _ hy)
  exact⟨h1,h2,by omega⟩
 have sp:=x.tr.size_pos
 rw[if_pos (by simp)]
 unfold gK
 walk_at "w"
 refine⟨rO x,by simp,?_⟩
 rw[show((ys++[x]).map rO).dropLast=ys.map rO by simp]
 unfold wAug
 walk_at "w"
 rw[Cz,if_neg (by omega)]
 rw[show rO x=.tup [trD x.tr,elD x.fixed,e8 x.ways]from rfl]
 walk_at "w"
 refine⟨R,w,_,x.fixed,x.tr,rfl,hR,hq,xf,xo,?_⟩
 walk_at "w"
 refine⟨x.tr,rfl,?_⟩
 walk_at "w"
 have wl:=xO ys
 have big:(600:Nat)<sizeLine:=by decide
 obtain⟨tr,fx,vs⟩:=x
 cases tr with
 | turned =>
  rw[if_neg (by simp[Tr.kind])]
  exact⟨nh ys,by rw[eS];omega,c,ys,m+1,_,rfl,oky,by omega,rfl⟩
 | cut d =>
  rw[if_neg (by simp[Tr.kind])]
  exact⟨nh ys,by rw[eS];omega,c,ys,m+1,_,rfl,oky,by omega,rfl⟩
 | split k p q =>
  have sz:(Tr.split k p q).size=p.size+q.size+1:=rfl
  dsimp only at xo xf xw hm sp
  obtain⟨kl,kn,po,qo⟩:=xo
  rw[if_pos (by rfl)]
  refine⟨k,p,q,fx,vs,false,rfl,kl,by omega,by omega,?_⟩
  walk_at "w"
  refine⟨by omega,k,p,q,fx,vs,true,rfl,kl,by omega,by omega,?_⟩
  simp only[if_true,Bool.false_eq_true,if_false,List.length_append,List.length_map,List.length_cons,List.length_nil]
  refine⟨by omega,_,?_,c,ys++[⟨q,fx.set k (some false),vs++[false]⟩]++[⟨p,fx.set k (some true),vs++[true]⟩],m+1,.d (rO ⟨.split k p q,fx,vs⟩),?_,fun y hy=>?_,?_,rfl⟩
  ·
   rw[eS,eS,eS,sz]
   dsimp only
   omega
  ·
   rw[List.map_append,List.map_append]
   rfl
  ·
   rcases List.mem_append.mp hy with hy|hy
   ·
    rcases List.mem_append.mp hy with hy|hy
    ·
     exact oky y hy
    ·
     simp at hy
     subst hy
     exact⟨qo,by simp;exact xf,by simp;exact xw⟩
   ·
    simp at hy
    subst hy
    exact⟨po,by simp;exact xf,by simp;exact xw⟩
  ·
   rw[eS,eS]
   dsimp only
   omega
def cY:FS:=fun ls post=>∃(R:Ring)(w:Wish)(ws:List Bool),ls=[.d (dY w),.d (rowD R w.top ws.length),.d (e8 ws),.d (.lst (intL R.n (ldZ R w.top ws)))]∧R.Ok∧ws.length≤R.asks.length ∧
 (∀T:Tr,T.Ok R w (gN R.asks.length ws)→(∃x xs,trD T=.tup (x::xs))→T.size=1→post (.d (trD T)) ls)∧(HR R w ws→post (.d .non) ls)
def eT:W Fl:=(wIf (aP (aC c8 (aVal (wVar 0) (aVal (wFrz (wBin bP (wBin opIx (wVar 3) (wBin opIx (wVar 4) (wC (.int 0)))) (wBin opIx (wVar 3) (wBin opIx (wVar 4) (wC (.int 1)))))) (aVal (wVar 5) aNil))))) (wRet (wTup (aVal (wC (.str "cut")) (aVal (wBin opIx (wVar 4) (wC (.int 0))) (aVal (wBin opIx (wVar 4) (wC (.int 1))) aNil))))) bE)
def dC:W Fl:=(wSeq (wIf (aP (aC cJ (aVal (wVar 0) (aVal (wVar 2) aNil)))) (wRet (wTup (aVal (wC (.str "turned")) aNil))) bE)
  (wSeq (wFor (wSrc (wVar 1)) (dU [4,5]) eT)
  (wRet (wC .non))))
theorem kU:∀ls post,ls.length=4→cY ls post→dC (ls++List.replicate 2 .un) (aL ls post):=by
 rintro ls post - ⟨R,w,ws,rfl,hR,hw,ht,hf⟩
 have few:=hR.few
 unfold dC
 walk_at "w"
 refine⟨w,ws.map some,by rw[Dg],by rw[List.length_map];omega,?_⟩
 walk_at "w"
 by_cases c:w.most<(fC w.elder (ws.map some)).length
 ·
  simp only[c,if_true]
  refine⟨by decide,_,aj (aj (aj (aj aD))),ht .turned ?_ ⟨_,_,rfl⟩ rfl⟩
  show w.most<(fC w.elder (gN R.asks.length ws)).length
  rw[AZ]
  exact c
 ·
  simp only[c,if_false]
  rw[show rowD R w.top ws.length=.lst ((ng R.n).map fun c=>D.tup [cutP c,.int (bndZ R w.top ws.length c)])from rfl]
  walk_at "w"
  refine fW (enc:=fun c=>D.tup [cutP c,.int (bndZ R w.top ws.length c)]) (ng R.n) (fun pre ρ=>∃x4 x5,ρ=[.d (dY w),.d (rowD R w.top ws.length),.d (e8 ws),.d (.lst (intL R.n (ldZ R w.top ws))),x4,x5]∧∀c∈pre,eG w.strict (ldZ R w.top ws c.1+ldZ R w.top ws c.2) (bndZ R w.top ws.length c)=false) _ ⟨_,_,rfl,fun c hc=>by simp at hc⟩ ?_ ?_
  ·
   rintro pre c suf ρ hsp ⟨x4,x5,rfl,hpre⟩ Q h1 h2 h3 h4
   have hc:rC R.n c:=rD.mp (by rw[hsp];simp)
   have c1:c.1<R.n:=by have:=hc.1;have:=hc.2;omega
   unfold eT
   walk_at "w"
   refine⟨_,fX c1,_,fX hc.2,?_⟩
   walk_at "w"
   refine⟨w,_,_,rfl,?_⟩
   walk_at "w"
   cases e:eG w.strict (ldZ R w.top ws c.1+ldZ R w.top ws c.2) (bndZ R w.top ws.length c)
   ·
    simp only[Bool.false_eq_true,if_false]
    refine h1 _ ⟨_,_,rfl,fun d hd=>?_⟩
    rcases List.mem_append.mp hd with hd|hd
    ·
     exact hpre d hd
    ·
     rw[List.mem_singleton.mp hd];exact e
   ·
    simp only[if_true]
    refine⟨by decide,h4 _ _ ⟨_,aj (aj (aj (aj aD))),ht (.cut c) ⟨hc,?_⟩ ⟨_,_,rfl⟩ rfl⟩⟩
    rw[← A1 hw]
    exact e
  ·
   rintro ρ ⟨x4,x5,rfl,hpre⟩
   walk_at "w"
   exact⟨_,aj (aj (aj (aj aD))),hf ⟨fun c hc=>hpre c (rD.mpr hc),by omega⟩⟩
def bO(n:Nat):FS:=fun ls post=>∃(R:Ring)(w:Wish)(ws:List Bool)(a:Addr),ls=[.d (aR R),.d (dY w),.d (.lst (intL R.asks.length (wI R w.top))),.d (.lst (rK R w.top)),.own a (ws.map fun b=>D.str (wayS b)),.d (.lst (intL R.n (ldZ R w.top ws)))]∧R.Ok∧ws.length≤R.asks.length∧R.asks.length-ws.length<n∧R.asks.length≤7 ∧
 (∀(ws':List Bool)(b:Addr),ws'.length=R.asks.length→mE R w ws'→post (.bx none [.d (.str "ways"),.own b (ws'.map fun b=>D.str (wayS b))]) [.d (aR R),.d (dY w),.d (.lst (intL R.asks.length (wI R w.top))),.d (.lst (rK R w.top)),.un,.d (.lst (intL R.n (ldZ R w.top ws)))]) ∧
 ∀ T:Tr,T.Ok R w (gN R.asks.length ws)→T.size+1≤2^(R.asks.length-ws.length+1)→post (.bx none [.d (.str "none"),.d (trD T)]) [.d (aR R),.d (dY w),.d (.lst (intL R.asks.length (wI R w.top))),.d (.lst (rK R w.top)),.un,.d (.lst (intL R.n (ldZ R w.top ws)))]
theorem wq(ls:List L)(post:L→List L→Prop):¬bO 0 ls post:=by
 rintro⟨R,w,ws,a,_,_,_,h,_⟩
 omega
abbrev o8:FS:=bO 9
def mM(self:FS):W L:=(wBin bP (wVar 1) (wIfE (aP (aC fH (aVal (wVar 2) (aVal (wVar 3) (aVal (wVar 4) (aVal (wVar 0) aNil)))))) (wBin opIx (wVar 5) (wVar 3)) (wC (.int 0))))
def iu(self:FS):W Fl:=(wSeq (wSet 10 (bX 2 [0,6,9,2] (yi (wVar 5)) (dU [0,1]) bF (mM self)))
  (wSeq (wSet 11 (aC self (aVal (wVar 0) (aVal (wVar 1) (aVal (wVar 2) (aVal (wVar 3) (aVal (Fn 4 (wLst (aVal (wVar 9) aNil))) (aVal (wVar 10) aNil))))))))
  (wSeq (wIf (qq 11 (aP (wBin opEq (nc 11 (wBin opIx (wVar 11) (wC (.int 0)))) (wC (.str "ways"))))) (wRet (fS 11)) bE)
  (jD (wApp 8 (nc 11 (wBin opIx (wVar 11) (wC (.int 1)))))))))
def mN(self:FS):W Fl:=(wRet (yk (aVal (wC (.str "none")) (aVal (wTup (aVal (wC (.str "split")) (aVal (wVar 6) (aVal (dc 8 (wIxV 8 (wC (.int 0))) (wBin opIx (wVar 8) (wC (.int 0)))) (aVal (dc 8 (wIxV 8 (wC (.int 1))) (wBin opIx (wVar 8) (wC (.int 1)))) aNil))))) aNil))))
def mO(self:FS):W Fl:=(wSeq (wFor (wSrc (wTup (aVal (wC (.str "on")) (aVal (wC (.str "back")) aNil)))) (aI 9) (iu self))
  (mN self))
def mP(self:FS):W Fl:=(wSeq (wSet 8 (wLst aNil))
  (mO self))
def mQ(self:FS):W Fl:=(wSeq (wIf (aP (wBin opEq (wVar 6) (aW bJ (aVal (wVar 2) aNil)))) (wRet (yk (aVal (wC (.str "ways")) (aVal (fS 4) aNil)))) bE)
  (mP self))
def iw(self:FS):W Fl:=(wSeq (wIf (aP (wBin tS (wVar 7) (wC .non))) (wRet (yk (aVal (wC (.str "none")) (aVal (fS 7) aNil)))) bE)
  (mQ self))
def mR(self:FS):W Fl:=(wSeq (wSet 7 (nc 4 (aC cY (aVal (wVar 1) (aVal (wBin opIx (wVar 3) (wBin jF (aW bJ (aVal (wVar 2) aNil)) (wVar 6))) (aVal (wVar 4) (aVal (wVar 5) aNil)))))))
  (iw self))
def l8(self:FS):W Fl:=(wSeq (wSet 6 (wFrz (dc 4 (zu 4) (aW bJ (aVal (wVar 4) aNil)))))
  (mR self))
theorem Gk{R:Ring}{q:Rat}{k:Nat}(h:k≤R.asks.length):atI (rK R q) ((R.asks.length:Int)-(k:Int))=some (rowD R q k):=by
 have e:((R.asks.length:Int)-(k:Int))=((R.asks.length-k:Nat):Int):=by omega
 rw[e]
 unfold rK
 rw[cB (by rw[List.length_range];omega),List.getElem_range]
 congr 2
 omega
theorem DC(n:Nat)(f:Nat→Int):gW (intL n f)=(List.range n).map fun (t:Nat)=>D.tup [.int (t:Int),.int (f t)]:=by
 unfold gW intL
 refine List.ext_getElem (by simp) fun j h1 h2=>?_
 simp
theorem sF:cO (.str "ways"):=dH (n:=0) (by decide +kernel) (by decide)
theorem sG:cO (.str "none"):=dH (n:=0) (by decide +kernel) (by decide)
theorem qJ:∀t:Tr,noL (trD t)=true
 |.turned=>by simp[trD,noL,noLs]
 |.cut c=>by simp[trD,noL,noLs]
 |.split k a b=>by simp[trD,noL,noLs,qJ a,qJ b]
theorem uJ:∀n ls post,ls.length=6→bO (n+1) ls post→l8 (bO n) (ls++List.replicate 6 .un) (aL ls post):=by
 rintro n ls post - ⟨R,w,ws,a0,rfl,hR,hw,hn,h7,hk,hT⟩
 have hi:=hR.hi
 have wl:(ws.map fun b=>D.str (wayS b)).length=ws.length:=by simp
 unfold l8
 have nw:noLs (ws.map fun b=>D.str (wayS b))=true:=eK _ fun _ _=>rfl
 walk_at "w"
 unfold mR
 walk_at "w"
 rw[iS]
 refine⟨_,Gk hw,?_⟩
 refine⟨R,w,ws,rfl,hR,hw,fun T ht hd hz=>?_,fun hf=>?_⟩
 ·
  obtain⟨x,xs,ex⟩:=hd
  unfold iw
  have pw:2^1≤2^(R.asks.length-ws.length+1):=Nat.pow_le_pow_right (by decide) (by omega)
  have e2:=hT T ht (by rw[hz];omega)
  have nt:=qJ T
  rw[ex]at e2 nt ⊢
  have nt':(noL x && noLs xs)=true:=by simpa[noL,noLs]using nt
  walk_at "w"
  exact⟨nt',by decide,_,aj (aj (aj (aj (ku (aj aD))))),e2⟩
 ·
  unfold iw
  walk_at "w"
  unfold mQ
  walk_at "w"
  rw[iS]
  by_cases ek:ws.length=R.asks.length
  ·
   rw[if_pos (by omega)]
   exact⟨by decide,_,aj (aj (aj (aj (ku (aj aD))))),hk ws _ ek (yA hR ek hf)⟩
  ·
   rw[if_neg (by omega)]
   have lt:ws.length<R.asks.length:=by omega
   unfold mP
   walk_at "w"
   refine⟨by decide,fun c1=>?_⟩
   unfold mO
   walk_at "w"
   refine⟨by decide,?_⟩
   have turn:∀(b:Bool)(x9 x10 x11:L)(ts:List D)(Q:Fl→Ev→Prop),ts.length≤1→noLs ts=true →
     (∀r ρ',aL [.d (aR R),.d (dY w),.d (.lst (intL R.asks.length (wI R w.top))),.d (.lst (rK R w.top)),.own a0 (ws.map fun b=>D.str (wayS b)),.d (.lst (intL R.n (ldZ R w.top ws)))] post (.rt r) ρ'→Q (.rt r) ρ') →
     (∀T:Tr,T.Ok R w (gN R.asks.length (ws++[b]))→T.size+1≤2^(R.asks.length-(ws++[b]).length+1)→∀x10 x11,Q .nx [.d (aR R),.d (dY w),.d (.lst (intL R.asks.length (wI R w.top))),.d (.lst (rK R w.top)),.own a0 (ws.map fun b=>D.str (wayS b)),.d (.lst (intL R.n (ldZ R w.top ws))),.d (.int (ws.length:Int)),.d .non,.own c1 (ts++[trD T]),.d (.str (wayS b)),x10,x11]) →
     iu (bO n) [.d (aR R),.d (dY w),.d (.lst (intL R.asks.length (wI R w.top))),.d (.lst (rK R w.top)),.own a0 (ws.map fun b=>D.str (wayS b)),.d (.lst (intL R.n (ldZ R w.top ws))),.d (.int (ws.length:Int)),.d .non,.own c1 ts,.d (.str (wayS b)),x10,x11] Q:=by
    intro b x9 x10 x11 ts Q htl htn hrt hnx
    unfold iu
    walk_at "w"
    rw[DC]
    refine⟨by rw[List.length_map,List.length_range];exact Nat.le_trans hi (by decide),gZ (e1:=fun (t:Nat)=>D.int (t:Int)) (e2:=fun t=>D.int (ldZ R w.top ws t)) (h:=fun t=>D.int (ldZ R w.top (ws++[b]) t)) (List.range R.n) _ _ _ (fun t ht Q hQ=>?_) fun l m c2=>?_⟩
    ·
     have ht:=List.mem_range.mp ht
     unfold mM
     walk_at "w"
     refine⟨R,ws.length,b,t,lt,rfl,hR,ht,?_⟩
     walk_at "w"
     have la:=HQ R w.top ws b t
     unfold onA at la
     rw[eL lt]at la
     cases eo:(isOn R.n R.asks[ws.length] t == b)
     ·
      rw[eo]at la
      simp only[Bool.false_eq_true,if_false]at la ⊢
      rw[la]at hQ
      exact hQ
     ·
      rw[eo]at la
      simp only[if_true]at la ⊢
      refine⟨_,fX lt,?_⟩
      rw[la]at hQ
      walk_at "w"
      exact hQ
    rw[List.nil_append,show((List.range R.n).map fun t=>D.int (ldZ R w.top (ws++[b]) t))=intL R.n (ldZ R w.top (ws++[b]))from rfl]
    walk_at "w"
    unfold Fn
    walk_at "w"
    refine⟨show 1≤sizeLine by decide,fun a1=>⟨Nat.le_trans (show ws.length+1≤8 by omega) (by decide),fun a2=>?_⟩⟩
    have nts:noLs ts=true:=htn
    refine⟨R,w,ws++[b],a2,by rw[List.map_append];rfl,hR,by simp;omega,by simp;omega,h7,fun ws' b' hl hk'=>?_,fun T ht hz=>?_⟩
    ·
     have e2:=hk ws' b' hl hk'
     walk_at "w"
     exact⟨by rw[nw,nts];rfl,sF,sF,hrt _ _ ⟨_,aj (aj (aj (aj (ku (aj aD))))),e2⟩⟩
    ·
     have e2:=hnx T ht hz
     walk_at "w"
     refine⟨by rw[nw,nts];rfl,sG,sF,?_⟩
     rw[if_neg (by decide)]
     exact⟨by rw[nw,nts];rfl,qJ T,Nat.lt_of_le_of_lt htl (by decide),e2 _ _⟩
   rw[dW]
   refine turn true .un .un .un [] _ (by decide) rfl (fun r ρ' h=>h) fun T1 t1 z1 x10 x11=>?_
   dsimp only
   rw[dW]
   refine turn false .un x10 x11 [trD T1] _ (Nat.le_refl 1) (by simp[noLs,qJ]) (fun r ρ' h=>h) fun T2 t2 z2 x10 x11=>?_
   dsimp only
   rw[dW]
   dsimp only
   unfold mN
   have pw:2^(R.asks.length-ws.length+1)=2*2^(R.asks.length-(ws.length+1)+1):=by rw[show R.asks.length-ws.length+1=R.asks.length-(ws.length+1)+1+1 by omega,Nat.pow_succ];omega
   rw[List.length_append,List.length_singleton]at z1 z2
   have sz:(Tr.split ws.length T1 T2).size=T1.size+T2.size+1:=rfl
   have e2:=hT (.split ws.length T1 T2) ⟨by rw[rH hw];exact lt,by rw[rJ,dif_neg (Nat.lt_irrefl _)],by rw[xJ lt];exact t1,by rw[xJ lt];exact t2⟩ (by rw[sz,pw];omega)
   rw[trD]at e2
   walk_at "w"
   exact⟨by decide,by decide,_,aj (aj (aj (aj (ku (aj aD))))),e2⟩
def iy:FS:=fun ls post=>∃(R:Ring)(q:Rat)(u:Int),ls=[.d (aR R),.d (.tup [.int u,.lst (intL R.asks.length (wI R q)),.lst (intL R.n (f0I R q))])]∧R.Ok∧∀c,post (.own c (rK R q)) ls
def kW:W L:=(wTup (aVal (wVar 0) (aVal (wBin jF (wVar 1) (wIfE (aP (aC cI (aVal (wVar 0) (aVal (wBin opIx (wVar 2) (wC (.int 1))) (aVal (wBin opIx (wVar 2) (wC (.int 2))) aNil))))) (wVar 3) (wC (.int 0)))) aNil)))
def kX:W Fl:=(jD (wApp 3 (bX 2 [4,5] (wSrc (dc 3 (wIxV 3 (wUn xZ (wC (.int 1)))) (wBin opIx (wVar 3) (wUn xZ (wC (.int 1)))))) (dU [0,1]) bF kW)))
def kY:W L:=(wTup (aVal (wVar 0) (aVal (wFrz (wBin bP (wBin opIx (wVar 1) (wBin opIx (wVar 0) (wC (.int 0)))) (wBin opIx (wVar 1) (wBin opIx (wVar 0) (wC (.int 1)))))) aNil)))
def j6:W Fl:=(wSeq (wSet 2 (wBin opIx (wVar 1) (wC (.int 2))))
  (wSeq (wSet 3 (wLst (aVal (wFrz (bX 1 [2] (wSrc (aC jX (aVal (wVar 0) aNil))) (aI 0) bF kY)) aNil)))
  (wSeq (wFor (Fj (Cw (aVal (wBin opIx (wVar 0) (wC (.int 1))) (aVal (wBin opIx (wVar 1) (wC (.int 1))) aNil)))) (dU [4,5]) kX)
  (wRet (fS 3)))))
theorem Br(R:Ring)(q:Rat):zipD (R.asks.map askD) (intL R.asks.length (wI R q))=(List.range R.asks.length).map fun i=>D.tup [askD (bQ R i),.int (wI R q i)]:=by
 unfold zipD intL
 refine List.ext_getElem (by simp) fun j h1 h2=>?_
 have hj:j<R.asks.length:=by simpa using h2
 simp[eL hj]
theorem Il{n:Nat}{pre suf:List Nat}{a:Nat}(h:(List.range n).reverse=pre++a::suf):pre.length<n∧a=n-1-pre.length:=by
 have hl:pre.length<n:=by
  have:=congrArg List.length h
  simp at this
  omega
 refine⟨hl,?_⟩
 have e:(List.range n).reverse[pre.length]?=some a:=by rw[h];simp
 rw[List.getElem?_reverse (by simpa using hl),List.getElem?_range (by simp;omega)]at e
 simp at e
 omega
theorem sH:∀ls post,ls.length=2→iy ls post→j6 (ls++List.replicate 4 .un) (aL ls post):=by
 rintro ls post - ⟨R,q,u,rfl,hR,h⟩
 have few:=hR.few
 have hi:=hR.hi
 have cl:=xB hi
 unfold j6
 walk_at "w"
 refine⟨R,rfl,hR,fun c1=>?_⟩
 walk_at "w"
 refine⟨Nat.le_trans cl (by decide),a6 (enc:=cutP) (h:=fun c=>D.tup [cutP c,.int (bndZ R q R.asks.length c)]) _ _ _ (fun c hc Q hQ=>?_) fun l c2=>?_⟩
 ·
  have ic:=rD.mp hc
  have c1':c.1<R.n:=by have:=ic.1;have:=ic.2;omega
  unfold kY
  walk_at "w"
  refine⟨_,fX c1',_,fX ic.2,?_⟩
  walk_at "w"
  have e:bndZ R q R.asks.length c=f0I R q c.1+f0I R q c.2:=by unfold bndZ;omega
  rw[e]at hQ
  exact⟨by decide,hQ⟩
 rw[List.nil_append]
 walk_at "w"
 refine⟨by decide,fun c3=>?_⟩
 rw[Br]
 refine⟨by rw[List.length_map,List.length_range];exact Nat.le_trans few (by decide),fun c4=>?_⟩
 rw[← List.map_reverse]
 refine fW (enc:=fun i=>D.tup [askD (bQ R i),.int (wI R q i)]) (List.range R.asks.length).reverse (fun pre ρ=>∃x4 x5,ρ=[.d (aR R),.d (.tup [.int u,.lst (intL R.asks.length (wI R q)),.lst (intL R.n (f0I R q))]),.d (.lst (intL R.n (f0I R q))),.own c3 ((List.range (pre.length+1)).map fun j=>rowD R q (R.asks.length-j)),x4,x5]) _ ⟨_,_,by rfl⟩ ?_ ?_
 ·
  rintro pre a suf ρ hsp ⟨x4,x5,rfl⟩ Q h1 h2 h3 h4
  obtain⟨pl,ea⟩:=Il hsp
  have el:((List.range (pre.length+1)).map fun j=>rowD R q (R.asks.length-j)).length=pre.length+1:=by simp
  have at1:atI ((List.range (pre.length+1)).map fun j=>rowD R q (R.asks.length-j)) (-1)=some (rowD R q (R.asks.length-pre.length)):=by
   have ix:ixN (pre.length+1) (-1)=some pre.length:=by
    unfold ixN
    rw[if_neg (by decide),if_pos (by omega)]
    congr 1
    omega
   unfold atI
   rw[el,ix]
   show((List.range (pre.length+1)).map fun j=>rowD R q (R.asks.length-j))[pre.length]?=_
   rw[List.getElem?_map,List.getElem?_range (by omega)]
   rfl
  have ek:R.asks.length-pre.length=a+1:=by omega
  rw[ek]at at1
  unfold kX
  walk_at "w"
  refine⟨_,at1,?_⟩
  rw[show rowD R q (a+1)=.lst ((ng R.n).map fun c=>D.tup [cutP c,.int (bndZ R q (a+1) c)])from rfl]
  walk_at "w"
  refine⟨Nat.le_trans cl (by decide),gZ (e1:=cutP) (e2:=fun c=>.int (bndZ R q (a+1) c)) (h:=fun c=>D.tup [cutP c,.int (bndZ R q a c)]) _ _ _ _ (fun c hc Q hQ=>?_) fun l m c5=>?_⟩
  ·
   unfold kW
   walk_at "w"
   refine⟨c,(bQ R a).one,(bQ R a).other,rfl,?_⟩
   walk_at "w"
   have st:=Dl (R:=R) (q:=q) (k:=a) c
   unfold gA at st
   cases ap:apart c (bQ R a).one (bQ R a).other
   ·
    rw[ap]at st
    simp only[Bool.false_eq_true,if_false]at st ⊢
    rw[st]
    exact⟨by decide,hQ⟩
   ·
    rw[ap]at st
    simp only[if_true]at st ⊢
    rw[st]
    exact⟨by decide,hQ⟩
  rw[List.nil_append]
  walk_at "w"
  refine⟨by rw[List.length_range];exact Nat.lt_of_lt_of_le (show pre.length+1<99 by omega) (by decide),?_⟩
  have er:((List.range (pre.length+1)).map fun j=>rowD R q (R.asks.length-j))++[D.lst ((ng R.n).map fun c=>D.tup [cutP c,.int (bndZ R q a c)])]=(List.range ((pre++[a]).length+1)).map fun j=>rowD R q (R.asks.length-j):=by
   rw[List.length_append,List.length_singleton,List.range_succ (n:=pre.length+1),List.map_append]
   congr 1
   rw[List.map_singleton,show R.asks.length-(pre.length+1)=a by omega]
   rfl
  rw[er]
  exact h1 _ ⟨_,_,rfl⟩
 ·
  rintro ρ ⟨x4,x5,rfl⟩
  walk_at "w"
  rw[List.length_reverse,List.length_range]
  exact⟨_,aj (aj aD),h c3⟩
def j7:FS:=fun ls post=>∃(R:Ring)(w:Wish),ls=[.d (aR R),.d (dY w)]∧R.Ok∧RB 1750 w.top∧R.asks.length≤7 ∧
 (∀ ws:List Bool,ws.length=R.asks.length→mE R w ws→∀ b,post (.bx none [.d (.str "ways"),.own b (ws.map fun b=>D.str (wayS b))]) ls)∧∀ T:Tr,T.Ok R w (List.replicate R.asks.length none)→T.size≤255→(∀ ws:List Bool,ws.length=R.asks.length→¬ mE R w ws)→post (.bx none [.d (.str "none"),.d (trD T)]) ls
def mS:W L:=(wC (.int 0))
def l9:W Fl:=(wSeq (wIf (aP (wBin opGt (aW bJ (aVal (wBin opIx (wVar 0) (wC (.int 1))) aNil)) (wC (.int 7)))) wR bE)
  (wSeq (wSet 2 (wFrz (aC i3 (aVal (wVar 0) (aVal (wBin opIx (wVar 1) (wC (.int 0))) aNil)))))
  (wRet (aC o8 (aVal (wVar 0) (aVal (wVar 1) (aVal (wBin opIx (wVar 2) (wC (.int 1))) (aVal (wFrz (aC iy (aVal (wVar 0) (aVal (wVar 2) aNil)))) (aVal (wLst aNil) (aVal (wFrz (bX 1 [] (wSrc (wBin opIx (wVar 0) (wC (.int 0)))) (aI 0) bF mS)) aNil))))))))))
theorem Im(R:Ring)(q:Rat):(R.rooms.map fun _=>D.int 0)=intL R.n (ldZ R q []):=by
 unfold intL
 refine List.ext_getElem (by simp[Ring.n]) fun j h1 h2=>?_
 simp[ldZ,sumN]
theorem Bs{n:Nat}{ws:List Bool}(h:ws.length=n):Comp (gN n []) ws:=by
 refine⟨by rw[rH (Nat.zero_le _)];exact h,fun i b e=>?_⟩
 rw[rJ,dif_neg (by simp)]at e
 cases e
theorem uK:∀ls post,ls.length=2→j7 ls post→l9 (ls++List.replicate 1 .un) (aL ls post):=by
 rintro ls post - ⟨R,w,rfl,hR,hq,h7,hk,hT⟩
 have hi:=hR.hi
 unfold l9
 walk_at "w"
 rw[if_neg (by omega)]
 unfold dY
 walk_at "w"
 refine⟨R,w.top,rfl,hR,hq,?_⟩
 walk_at "w"
 refine⟨R,w.top,_,rfl,hR,fun c1=>?_⟩
 walk_at "w"
 refine⟨by decide,fun c2=>⟨Nat.le_trans hi (by decide),?_⟩⟩
 refine a6 (h:=fun _=>D.int 0) _ _ _ (fun a hm Q hQ=>?_) fun l' c3=>?_
 ·
  unfold mS
  walk_at "w"
  exact hQ
 rw[List.nil_append,Im R w.top]
 have pw:2^(R.asks.length-([]:List Bool).length+1)≤2^8:=Nat.pow_le_pow_right (by decide) (by simp;omega)
 refine⟨R,w,[],c2,rfl,hR,Nat.zero_le _,by simp;omega,h7,fun ws b hl k=>?_,fun T ht hz=>?_⟩
 ·
  exact⟨_,aj (aj aD),hk ws hl k b⟩
 ·
  exact⟨_,aj (aj aD),hT T ht (Nat.le_of_succ_le_succ (Nat.le_trans hz pw)) fun ws hl=>oA hR T _ ws (rH (Nat.zero_le _)) ht (Bs hl)⟩
def dD:FS:=fun ls post=>∃(R:Ring)(q:Rat),ls=[.d (aR R),.d (frD q)]∧R.Ok∧post (.d (dY (dJ R q))) ls
def fJ:W L:=(wC .non)
def ee:W Fl:=(wRet (wTup (aVal (wVar 1) (aVal (wC (.bl true)) (aVal (wFrz (bX 1 [] (wSrc (wBin opIx (wVar 0) (wC (.int 1)))) (aI 0) bF fJ)) (aVal (wC (.int 0)) aNil))))))
theorem Gm(as:List Ask):(as.map fun _=>D.non)=(List.replicate as.length none).map optW:=by
 rw[List.map_replicate]
 exact List.map_const' ..
theorem ma:∀ls post,ls.length=2→dD ls post→ee (ls++List.replicate 0 .un) (aL ls post):=by
 rintro ls post - ⟨R,q,rfl,hR,h⟩
 unfold ee
 walk_at "w"
 refine⟨Nat.le_trans hR.few (by decide),a6 (enc:=askD) (h:=fun _=>D.non) R.asks _ _ (fun a ha Q hQ=>?_) fun l c=>?_⟩
 ·
  unfold fJ
  walk_at "w"
  exact hQ
 rw[List.nil_append,Gm]
 walk_at "w"
 exact⟨by decide,_,aj (aj aD),h⟩
def eU:FS:=fun ls post=>∃(R:Ring),ls=[.d (aR R)]∧R.Ok∧S61 R∧R.asks.length≤7∧∀(ws:List Bool)(T:Tr),Jh R ws→T.Ok R (dJ R (topW R ws)) (List.replicate R.asks.length none)→T.size≤255→∀a,post (.bx none [.d (frD (topW R ws)),.own a (ws.map fun w=>D.str (wayS w)),.d (trD T)]) ls
def kZ:W Fl:=(wSeq (wSet 2 (nc 1 (aC o5 (aVal (wVar 0) (aVal (wVar 1) aNil)))))
  (wSeq (wSet 3 (aC j7 (aVal (wVar 0) (aVal (wFrz (aC dD (aVal (wVar 0) (aVal (wVar 2) aNil)))) aNil))))
  (wSeq (wIf (qq 3 (aP (wBin opEq (nc 3 (wBin opIx (wVar 3) (wC (.int 0)))) (wC (.str "none"))))) (wRet (yk (aVal (fS 2) (aVal (fS 1) (aVal (Ae 3 1) aNil))))) bE)
  (wSet 1 (Ae 3 1)))))
def k6:W L:=(wC (.str "on"))
def j8:W Fl:=(wSeq (wSet 1 (bX 1 [] (wSrc (wBin opIx (wVar 0) (wC (.int 1)))) (aI 0) bF k6))
  (ja (aP (wC (.bl true))) kZ))
theorem Io(as:List Ask):(as.map fun _=>D.str "on")=(List.replicate as.length true).map fun w=>D.str (wayS w):=by
 rw[List.map_replicate]
 exact List.map_const' ..
theorem sI:∀ls post,ls.length=1→eU ls post→j8 (ls++List.replicate 3 .un) (aL ls post):=by
 rintro ls post - ⟨R,rfl,hR,hT,h7,h⟩
 unfold j8
 walk_at "w"
 refine⟨Nat.le_trans hR.few (by decide),a6 (enc:=askD) (h:=fun _=>D.str "on") R.asks _ _ (fun a ha Q hQ=>?_) fun l c=>?_⟩
 ·
  unfold k6
  walk_at "w"
  exact hQ
 rw[List.nil_append,Io]
 walk_at "w"
 refine⟨fun n ρ=>∃(ws:List Bool)(c:Addr)(x2 x3:L),ρ=[.d (aR R),.own c (ws.map fun w=>D.str (wayS w)),x2,x3]∧m9 x2=true∧m9 x3=true∧ws.length=R.asks.length∧n=F6 R ws,⟨_,List.replicate R.asks.length true,_,_,_,rfl,rfl,rfl,by simp,rfl⟩,?_⟩
 rintro n ρ ⟨ws,c2,x2,x3,rfl,hx2,hx3,hw,rfl⟩
 walk_at "w"
 unfold kZ
 have nw:noLs (ws.map fun w=>D.str (wayS w))=true:=eK _ fun _ _=>rfl
 have tb:=(A8 hR hT ws).mono (show 1301≤1750 by decide)
 have none:∀T:Tr,T.Ok R (dJ R (topW R ws)) (List.replicate R.asks.length none)→T.size≤255→(∀vs:List Bool,vs.length=R.asks.length→¬mE R (dJ R (topW R ws)) vs)→∀a,post (.bx Option.none [.d (frD (topW R ws)),.own a (ws.map fun w=>D.str (wayS w)),.d (trD T)]) [.d (aR R)]:=fun T ht hz hn=>h ws T ⟨hw,fun vs hv=>by
  have h1:=hn vs hv
  have h2:¬topW R vs<topW R ws:=fun z=>h1 (yD hR rfl z (by rw[dJ,A9];exact Nat.le_refl 0))
  grind⟩ ht hz
 walk_at "w"
 refine⟨by rw[hx2,hx3];rfl,R,ws,rfl,hR,hT,hw,?_⟩
 walk_at "w"
 refine⟨R,topW R ws,rfl,hR,?_⟩
 walk_at "w"
 refine⟨R,dJ R (topW R ws),rfl,hR,tb,h7,fun vs hv hk b=>?_,fun T ht hz hn=>?_⟩
 ·
  have lt:topW R vs<topW R ws:=yC hR rfl hk
  walk_at "w"
  refine⟨nw,sF,sG,?_⟩
  rw[if_neg (by decide)]
  exact⟨_,F7 hv lt,vs,b,_,_,rfl,rfl,rfl,hv,rfl⟩
 ·
  have e2:=none T ht hz hn
  walk_at "w"
  exact⟨nw,sG,sG,by decide,_,aj aD,e2 _⟩
def cK:FS:=fun ls post=>∃(ns:List Int)(k:Int),ls=[.d (.lst (ns.map .int)),.d (.int k)]∧0≤k∧k≤100∧∀a xs,StOk xs→post (.own a xs) ls
def iz:W Fl:=(wSeq (wSet 2 (wC (.int 0)))
  (wSeq (wIf (aP (wBin opLt (wVar 1) (aW bJ (aVal (wVar 0) aNil)))) (wSet 2 (wBin opIx (wVar 0) (wVar 1))) bE)
  (wRet (wLst (aVal (wVar 2) (aVal (wBin eE (wBin bP (wBin bP (wBin eE (wVar 2) (wC (.int 2147483587))) (wBin a7 (wBin a7 (wC (.int 48271)) (wVar 1)) (wVar 1))) (wC (.int 13))) (wC (.int 2147483587))) (aVal (wBin opGe (wVar 2) (wBin ya (wC (.int 10)) (wC (.int 18)))) aNil)))))))
theorem pZ:∀ls post,ls.length=2→cK ls post→iz (ls++List.replicate 1 .un) (aL ls post):=by
 rintro ls post - ⟨ns,k,rfl,h0,h1,h⟩
 unfold iz
 have fin:∀(c:Int)(ρ:Ev)(e:ρ=[.d (.lst (ns.map .int)),.d (.int k),.d (.int c)]),∀a:Addr,aL [.d (.lst (ns.map .int)),.d (.int k)] post (.rt (.own a [.int c,.int ((c.fmod 2147483587+48271*k*k+13).fmod 2147483587),.bl (decide ((10:Int)^18≤c))])) ρ:=fun c ρ e a=>by
  refine⟨_,aj (aj aD),h a _ ⟨_,_,_,rfl,?_,?_⟩⟩
  ·
   rw[Int.fmod_eq_emod_of_nonneg _ (by decide)];exact Int.emod_nonneg _ (by decide)
  ·
   rw[Int.fmod_eq_emod_of_nonneg _ (by decide)]
   have:=Int.emod_lt_of_pos (c.fmod 2147483587+48271*k*k+13) (b:=2147483587) (by decide)
   omega
 have hb1:bV 48271:=bj (by decide)
 have hb2:bV k:=bj (Nat.lt_of_le_of_lt (show k.natAbs≤100 by omega) (by decide))
 have hb3:bV (48271*k):=bj (Nat.lt_of_le_of_lt (show(48271*k).natAbs≤4827100 by omega) (by decide))
 walk_at "w"
 try rw[List.length_map]
 split
 ·
  rename_i hk
  have hk:k<(ns.length:Int):=by simpa using hk
  have hi:k.toNat<ns.length:=by omega
  refine⟨.int ns[k.toNat],D4 h0 (by rw[List.getElem?_map,List.getElem?_eq_getElem hi];rfl),?_⟩
  exact⟨by decide,hb1,hb2,hb3,hb2,by decide,by decide,by decide,by decide,by decide,fin _ _ rfl⟩
 ·
  exact⟨by decide,hb1,hb2,hb3,hb2,by decide,by decide,by decide,by decide,by decide,fin _ _ rfl⟩
def aJ:FS:=fun ls post=>∃(a:Addr)(xs:List D)(m:Int),ls=[.own a xs,.d (.int m)]∧StOk xs∧0<m∧m≤10^60∧∀(r:Int)(ys:List D),StOk ys→0≤r→r<m→post (.d (.int r)) [.own a ys,.d (.int m)]
def gq:W Fl:=(wSeq (vm 0 (wC (.int 1)) (wBin eE (wBin bP (wBin a7 (dc 0 (wIxV 0 (wC (.int 1))) (wBin opIx (wVar 0) (wC (.int 1)))) (wC (.int 39373))) (wC (.int 17))) (wC (.int 2147483647))))
  (wSet 3 (wFrz (wBin bP (wBin a7 (wVar 3) (wC (.int 2147483629))) (wBin eE (wBin a7 (dc 0 (wIxV 0 (wC (.int 1))) (wBin opIx (wVar 0) (wC (.int 1)))) (dc 0 (wIxV 0 (wC (.int 1))) (wBin opIx (wVar 0) (wC (.int 1))))) (wC (.int 2147483629)))))))
def j9:W Fl:=(wSeq (wIf (aP (dc 0 (wIxV 0 (wC (.int 2))) (wBin opIx (wVar 0) (wC (.int 2))))) (wSeq (wSet 2 (wBin eE (dc 0 (wIxV 0 (wC (.int 0))) (wBin opIx (wVar 0) (wC (.int 0)))) (wVar 1)))
  (wSeq (vm 0 (wC (.int 0)) (wBin kv (dc 0 (wIxV 0 (wC (.int 0))) (wBin opIx (wVar 0) (wC (.int 0)))) (wVar 1)))
  (wSeq (vm 0 (wC (.int 2)) (wBin opGt (dc 0 (wIxV 0 (wC (.int 0))) (wBin opIx (wVar 0) (wC (.int 0)))) (wC (.int 0))))
  (wRet (fS 2))))) bE)
  (wSeq (wSet 3 (wC (.int 0)))
  (wSeq (wFor (lH (wBin bP (wC (.int 1)) (wBin a7 (wC (.int 8)) (aW zt (aVal (wBin opGt (wVar 1) (wBin ya (wC (.int 10)) (wC (.int 6)))) aNil))))) (aI 4) gq)
  (wRet (wBin eE (wBin kv (wVar 3) (wC (.int 64))) (wVar 1))))))
theorem uL{a:Addr}{c:Int}{m x2:L}{post:Fl→Ev→Prop}:∀(items:List D)(sd dr:Int)(j:Nat)(x4:L),j+items.length≤100→0≤sd→sd<2147483647→0≤dr→dr<2^(40*j) →
  (∀sd' dr' x',0≤sd'→sd' < 2147483647→0≤dr'→post .nx [.own a [.int c,.int sd',.bl false],m,x2,.d (.int dr'),x']) →
  dW (aI 4) gq items [.own a [.int c,.int sd,.bl false],m,x2,.d (.int dr),x4] post
 |[],sd,dr,j,x4,_,h0,h1,h2,h3,h=>h sd dr x4 h0 h1 h2
 | y::items,sd,dr,j,x4,hl,h0,h1,h2,h3,h=>by
  unfold dW gq
  walk_at "w"
  obtain⟨r0,r1⟩:=eI (sd*39373+17) (m:=2147483647) (by decide)
  generalize (sd*39373+17).fmod 2147483647=s' at r0 r1 ⊢
  obtain⟨q0,q1⟩:=eI (s'*s') (m:=2147483629) (by decide)
  generalize (s'*s').fmod 2147483629=t' at q0 q1 ⊢
  have hl':j+(items.length+1)≤100:=hl
  have b1:bV sd:=vC (n:=40) h0 (by omega) (by decide)
  have b2:bV s':=vC (n:=40) r0 (by omega) (by decide)
  have b3:bV dr:=vC (n:=40*j) h2 h3 (by omega)
  have b4:bV 39373:=bj (by decide)
  have b5:bV 2147483629:=bj (by decide)
  refine⟨b1,b4,by decide,b3,b5,b2,b2,by decide,?_⟩
  refine uL items s' (dr*2147483629+t') (j+1) _ (by omega) r0 r1 (by omega) ?_ h
  have e:(2:Int)^(40*(j+1))=2^(40*j)*1099511627776:=by
   rw[Nat.mul_succ,Int.pow_add];rfl
  omega
theorem sJ:∀ls post,ls.length=2→aJ ls post→j9 (ls++List.replicate 3 .un) (aL ls post):=by
 rintro ls post - ⟨a,xs,m,rfl,⟨c,sd,t,rfl,h0,h1⟩,hm,hM,h⟩
 unfold j9
 have hm0:m≠0:=by omega
 have hmz:=t9 (by omega) hM
 cases t with
 | true =>
  walk_at "w"
  obtain⟨r0,r1⟩:=eI c hm
  exact⟨hm0,hm0,hmz,_,iN List.mem_cons_self (aj aD),h _ _ ⟨_,_,_,rfl,h0,h1⟩ r0 r1⟩
 | false =>
  walk_at "w"
  refine⟨by decide,by decide,by decide,bj (by decide),bj (by split<;>decide),⟨by split<;>decide,by split<;>decide⟩,?_⟩
  refine uL (c:=c) _ sd 0 0 _ (by simp only[rngD,List.length_map,List.length_range];split<;>decide) h0 h1 (by decide) (by decide) fun sd' dr' x' g0 g1 g2=>?_
  walk_at "w"
  obtain⟨r0,r1⟩:=eI (dr'.fdiv 64) hm
  exact⟨by decide,by decide,hm0,_,iN List.mem_cons_self (aj aD),h _ _ ⟨_,_,_,rfl,g0,g1⟩ r0 r1⟩
def gu:FS:=fun ls post=>∃(a:Addr)(xs:List D)(many:Nat),ls=[.own a xs,.d (.int many)]∧StOk xs∧many≤26 ∧
 ∀(zs:List Str)(c:Addr)(ys:List D),StOk ys→zs.length=many→(∀z∈zs,NmOk z)→zs.Nodup→post (.own c (zs.map .str)) [.own a ys,.d (.int many)]
def jh:W L:=(wBin bP (wBin bP (wSl2 (wVar 1) none (some (wVar 2))) (wBin opIx (wVar 3) (wBin eE (wBin bP (wVar 4) (wVar 0)) (wC (.int 26))))) (wSl2 (wVar 1) (some (wBin bP (wVar 2) (wC (.int 1)))) none))
def ji:W Fl:=(wRet (bX 1 [3,4,2,5] (lH (wVar 1)) (aI 0) bF jh))
def jj:W Fl:=(wSeq (wSet 5 (wFrz (bU aJ 0 0 (aVar 0 (aVal (wC (.int 26)) aNil)))))
  ji)
def jk:W L:=(wBin opIx (wVar 1) (bU aJ 0 2 (aVar 2 (aVal (wC (.int 26)) aNil))))
def jm:W Fl:=(wSeq (wSet 4 (wFrz (bU aJ 0 0 (aVar 0 (aVal (wFrz (aW bJ (aVal (wVar 3) aNil))) aNil)))))
  jj)
def jo:W Fl:=(wSeq (wSet 3 (wFrz (ES "" (bX 1 [2,0] (lH (wBin bP (wC (.int 1)) (bU aJ 0 0 (aVar 0 (aVal (wC (.int 8)) aNil))))) (aI 0) bF jk))))
  jm)
def iA:W Fl:=(wSeq (wSet 2 (wC (.str "abcdefghijklmnopqrstuvwxyz")))
  jo)
theorem p5:∀ls post,ls.length=2→gu ls post→iA (ls++List.replicate 4 .un) (aL ls post):=by
 rintro ls post - ⟨a,xs,many,rfl,hx,hm,h⟩
 unfold iA
 walk_at "w"
 unfold jo
 walk_at "w"
 refine⟨a,xs,8,rfl,hx,by decide,by decide,fun r ys hy r0 r1=>⟨ys,rfl,?_⟩⟩
 walk_at "w"
 refine⟨⟨by omega,by omega⟩,?_⟩
 rw[kI]
 refine⟨by rw[List.length_map,List.length_range];exact Nat.le_trans (show(1+r).toNat≤8 by omega) (by decide),?_⟩
 refine xk _ (fun j ρ acc=>∃(l:L)(ys:List D)(cs:List Nat),ρ=[l,.d (.str rq),.own a ys]∧StOk ys∧acc=cs.map (fun c=>D.str ⟨#[c]⟩)∧cs.length=j∧∀c∈cs,oo c) _ _ ⟨_,ys,[],rfl,hy,rfl,rfl,fun c hc=>by simp at hc⟩ ?_ ?_
 ·
  rintro j x ρ acc hx ⟨l,ys,cs,rfl,hy,rfl,hl,hc⟩ Q hQ
  unfold bF jk
  walk_at "w"
  refine⟨a,ys,26,rfl,hy,by decide,by decide,fun q ws hw q0 q1=>⟨ws,rfl,by decide,_,qy q0 q1,?_⟩⟩
  refine hQ _ _ ⟨_,ws,cs++[q.toNat+97],rfl,hw,by simp,by simp[hl],fun c hm=>?_⟩
  rcases List.mem_append.mp hm with hm|hm
  ·
   exact hc c hm
  ·
   rw[List.mem_singleton.mp hm]
   unfold oo
   omega
 ·
  rintro ρ acc ⟨l,ys,cs,rfl,hy,rfl,hl,hc⟩
  rw[List.length_map,List.length_range]at hl
  walk_at "w"
  intro aa
  refine⟨cs.map fun c=>⟨#[c]⟩,by simp,by rw[xt,List.length_map];show cs.length+cs.length*0≤_;omega,?_⟩
  have hb:NmOk (Txt.join "" (cs.map fun c=>(⟨#[c]⟩:Str))):=by
   refine⟨?_,?_,?_⟩
   ·
    rw[lN];omega
   ·
    rw[lN];omega
   ·
    rw[lN];exact hc
  generalize Txt.join "" (cs.map fun c=>(⟨#[c]⟩:Str))=base at hb ⊢
  have hbl:=iQ base
  have hb1:=hb.lo
  have hb2:=hb.hi
  unfold jm
  walk_at "w"
  refine⟨Nat.le_trans (show base.length≤8 by omega) (by decide),a,ys,base.length,rfl,hy,by omega,by omega,fun p ws hw p0 p1=>⟨ws,rfl,?_⟩⟩
  unfold jj
  walk_at "w"
  refine⟨a,ws,26,rfl,hw,by decide,by decide,fun t vs hv t0 t1=>⟨vs,rfl,?_⟩⟩
  unfold ji
  walk_at "w"
  refine⟨⟨by omega,by omega⟩,?_⟩
  rw[kI]
  refine⟨by rw[List.length_map,List.length_range];exact Nat.le_trans (show((many:Int)).toNat≤26 by omega) (by decide),?_⟩
  refine a6 (h:=fun k=>D.str (nameAt base p.toNat t.toNat k)) _ _ _ (fun k hk Q q=>?_) fun l'=>?_
  ·
   have hk:k<many:=by have:=List.mem_range.mp hk;omega
   unfold jh
   walk_at "w"
   refine⟨Nat.le_trans (show base.length≤8 by omega) (by decide),by decide,by decide,_,qy (i:=(t+(k:Int)).fmod 26) (eI _ (by decide)).1 (eI _ (by decide)).2,?_⟩
   have e1:=CY (x:=base) p0 (by omega)
   have e2:=yt (x:=base) (i:=p+1) (by omega) (by omega)
   have l1:(Txt.slice base none (some p)).length≤8:=by rw[iQ,e1,List.length_take];omega
   have l2:(Txt.slice base (some (p+1)) none).length≤8:=by rw[iQ,e2,List.length_drop];omega
   have e3:((t+(k:Int)).fmod 26).toNat=(t.toNat+k) % 26:=by
    rw[Int.fmod_eq_emod_of_nonneg _ (by decide)]
    omega
   have e4:Txt.slice base none (some p)++(⟨#[((t+(k:Int)).fmod 26).toNat+97]⟩:Str)++Txt.slice base (some (p+1)) none=nameAt base p.toNat t.toNat k:=by
    apply FI
    rw[kK,kK,e1,e2,e3]
    have:(p+1).toNat=p.toNat+1:=by omega
    simp[L2.nameAt,this]
   have one:∀c:Nat,(⟨#[c]⟩:Str).length=1:=fun _=>rfl
   have lc:(Txt.slice base none (some p)++(⟨#[((t+(k:Int)).fmod 26).toNat+97]⟩:Str)).length≤9:=by
    rw[iQ,kK,List.length_append,← iQ,← iQ,one];omega
   refine⟨Nat.le_trans (show _≤9 by rw[one];omega) (by decide),Nat.le_trans (show base.length≤8 by omega) (by decide),Nat.le_trans (Nat.add_le_add lc l2) (by decide),?_⟩
   rw[e4]
   exact q
  ·
   walk_at "w"
   intro c
   refine⟨_,iN (ys:=vs) (by simp) (aj aD),?_⟩
   have e:List.map (fun k=>D.str (nameAt base p.toNat t.toNat k)) (List.range ((many:Int)).toNat)=((List.range many).map fun k=>nameAt base p.toNat t.toNat k).map D.str:=by
    rw[List.map_map,Int.toNat_natCast]
    rfl
   rw[e]
   refine h _ c vs hv (by simp) (fun z hz=>?_) (ui List.nodup_range fun x hx y hy=>?_)
   ·
    obtain⟨k,_,rfl⟩:=List.mem_map.mp hz
    exact Ax hb (by omega)
   ·
    exact yu (by omega) (by have:=List.mem_range.mp hx;omega) (by have:=List.mem_range.mp hy;omega)
def eh:FS:=fun ls post=>∃t b:Int,ls=[.d (.int t),.d (.int b)]∧b≠0∧b.natAbs<2^9000∧post (.d (frD (Rat.divInt t b))) ls
def mT:W Fl:=(wPar 2 3 (wBin eE (wVar 3) (wVar 2)) (wVar 2))
def me:W Fl:=(wSeq (wSet 2 (wFrz (aW yc (aVal (wVar 0) aNil))))
  (wSeq (wSet 3 (wFrz (aW yc (aVal (wVar 1) aNil))))
  (wSeq (ja (aP (wBin opNe (wVar 2) (wC (.int 0)))) mT)
  (wSeq (wIf (aP (wBin opLt (wVar 1) (wC (.int 0)))) (wSet 3 (wBin jF (wC (.int 0)) (wVar 3))) bE)
  (wRet (wTup (aVal (wBin kv (wVar 0) (wVar 3)) (aVal (wBin kv (wVar 1) (wVar 3)) aNil))))))))
theorem uM:∀ls post,ls.length=2→eh ls post→me (ls++List.replicate 2 .un) (aL ls post):=by
 rintro ls post - ⟨t,b,rfl,hb,hz,h⟩
 unfold me
 walk_at "w"
 have h1:=w5 (t:=t) hb
 have h2:=Nat.lt_of_le_of_lt (w7 (t:=t) hb) hz
 have fin:∀{g:Int}{ρ:Ev},g=bY t b→g≠0∧g.natAbs<2^9000∧g≠0∧g.natAbs<2^9000∧2≤sizeLine∧aL [.d (.int t),.d (.int b)] post (.rt (.d (.tup [.int (t.fdiv g),.int (b.fdiv g)]))) ρ:=fun {g ρ} e=>by
  have e1:g≠0:=by rw[e];exact h1
  have e2:g.natAbs<2^9000:=by rw[e];exact h2
  refine⟨e1,e2,e1,e2,by decide,_,aj (aj aD),?_⟩
  rw[xq hb e]
  exact h
 refine⟨fun n ρ=>∃x y:Int,ρ=[.d (.int t),.d (.int b),.d (.int x),.d (.int y)]∧0≤x∧0≤y∧Int.gcd x y=Int.gcd t b∧n=x.natAbs,⟨_,_,_,rfl,by split<;>omega,by split<;>omega,?_,rfl⟩,?_⟩
 ·
  have e1:(if t<0 then -t else t)=(t.natAbs:Int):=by split<;>omega
  have e2:(if b<0 then -b else b)=(b.natAbs:Int):=by split<;>omega
  rw[e1,e2]
  simp[Int.gcd]
 ·
  rintro n ρ ⟨x,y,rfl,x0,y0,hg,rfl⟩
  unfold mT
  walk_at "w"
  split
  ·
   rename_i hx
   have hx:x≠0:=by simpa using hx
   refine⟨hx,_,eZ y hx,_,_,rfl,(eI y (by omega)).1,x0,?_,rfl⟩
   rw[Int.gcd_comm,q8,Int.gcd_comm]
   exact hg
  ·
   rename_i hx
   have hx:x=0:=by simpa using hx
   subst hx
   have hy:y=(Int.gcd t b:Int):=by rw[← hg,Int.gcd_zero_left];omega
   split
   ·
    rename_i hlt
    exact fin (by simp[bY,hlt,hy])
   ·
    rename_i hlt
    exact fin (by simp[bY,hlt,hy])
def b8:FS:=fun ls post=>∃(a:Addr)(xs:List D)(least kind:Int),ls=[.own a xs,.d (.int least),.d (.int kind)]∧StOk xs∧0≤least∧least≤1∧0≤kind∧kind<5 ∧
 ∀(q:Rat)(ys:List D),StOk ys→0≤q→(least=1→0<q)→RB 60 q→post (.d (frD q)) [.own a ys,.d (.int least),.d (.int kind)]
def gv:W Fl:=(wSeq (wSet 3 (wFrz (wBin bP (wC (.int 1)) (bU aJ 0 0 (aVar 0 (aVal (wBin opIx (wLst (aVal (wC (.int 1)) (aVal (wC (.int 1)) (aVal (wC (.int 4)) (aVal (wC (.int 12)) (aVal (wC (.int 12)) aNil)))))) (wVar 2)) aNil))))))
  (wSeq (wSet 4 (wFrz (wBin bP (wVar 1) (bU aJ 0 0 (aVar 0 (aVal (wBin opIx (wLst (aVal (wC (.int 3)) (aVal (wC (.int 10)) (aVal (wC (.int 10)) (aVal (wC (.int 40)) (aVal (wBin ya (wC (.int 10)) (wC (.int 12))) aNil)))))) (wVar 2)) aNil))))))
  (wRet (aC eh (aVal (wVar 4) (aVal (wVar 3) aNil))))))
theorem Bt{t b:Int}(h0:0≤t)(h1:t<2^59)(h2:0<b)(h3:b<2^59):0≤Rat.divInt t b∧(0<t→0<Rat.divInt t b)∧RB 60 (Rat.divInt t b):=by
 have e:=Rat.divInt_nonneg (a:=t) (b:=b) h0 (by omega)
 refine⟨e,fun ht=>?_,RB.of_divInt (by omega) ?_ ?_⟩
 ·
  refine Rat.lt_of_le_of_ne e fun z=>?_
  have:Rat.divInt 0 1=Rat.divInt t b:=by rw[← z];rfl
  rw[Rat.divInt_eq_divInt_iff (by decide) (by omega)]at this
  omega
 ·
  have:(2:Int)^59=((2^59:Nat):Int):=by decide
  have:(2:Nat)^59<2^60:=by decide
  omega
 ·
  have:(2:Int)^59=((2^59:Nat):Int):=by decide
  have:(2:Nat)^59<2^60:=by decide
  omega
theorem o9:∀ls post,ls.length=3→b8 ls post→gv (ls++List.replicate 2 .un) (aL ls post):=by
 rintro ls post - ⟨a,xs,least,kind,rfl,hx,l0,l1,k0,k1,h⟩
 have hk:kind=0∨kind=1∨kind=2∨kind=3∨kind=4:=by omega
 have fin:∀(ys:List D)(r s:Int)(ρ:Ev),StOk ys→0≤r→r<12→0≤s→s<10^12→.own a ys∈ρ→eh [.d (.int (least+s)),.d (.int (1+r))] fun r' _=>aL [.own a xs,.d (.int least),.d (.int kind)] post (.rt r') ρ:=by
  intro ys r s ρ hy r0 r1 s0 s1 hm
  obtain⟨a1,a2,a3⟩:=Bt (t:=least+s) (b:=1+r) (by omega) (by omega) (by omega) (by omega)
  exact⟨_,_,rfl,by omega,t9 (by omega) (by omega),_,iN hm (aj (aj aD)),h _ ys hy a1 (fun e=>a2 (by omega)) a3⟩
 unfold gv
 rcases hk with rfl|rfl|rfl|rfl|rfl
 all_goals
  walk_at "w"
  refine⟨by decide,fun _=>?_⟩
  refine⟨a,xs,_,rfl,hx,by decide,by decide,fun r ys hy r0 r1=>⟨ys,rfl,?_⟩⟩
  walk_at "w"
  refine⟨by decide,by decide,by decide,by decide,fun _=>?_⟩
  refine⟨a,ys,_,rfl,hy,by decide,by decide,fun s zs hz s0 s1=>⟨zs,rfl,?_⟩⟩
  walk_at "w"
  exact fin zs r s _ hz r0 (by omega) s0 (Int.lt_of_lt_of_le s1 (by decide)) (by simp)
def gw:FS:=fun ls post=>∃(a:Addr)(xs:List D)(n:Nat)(kind:Int),ls=[.own a xs,.d (.int n),.d (.int kind)]∧StOk xs∧1≤n∧n≤1000∧0≤kind∧kind<5 ∧
 ∀(qs:List Rat)(c:Addr)(ys:List D),StOk ys→qs.length=n→(∀q∈qs,0<q∧RB 60 q)→post (.own c (qs.map frD)) [.own a ys,.d (.int n),.d (.int kind)]
def jq:W Fl:=(wSeq (wSet 6 (wFrz (bU b8 0 0 (aVar 0 (aVal (wC (.int 1)) (aVal (wVar 2) aNil))))))
  (jD (wApp 5 (wBin opIx (wLst (aVal (wVar 4) (aVal (wVar 6) aNil))) (aW zt (aVal (wBin opEq (wVar 3) (wC (.int 2))) aNil))))))
def jr:W Fl:=(wRet (fS 5))
def jt:W Fl:=(wSeq (ja (aP (wBin opLt (dc 5 (zu 5) (aW bJ (aVal (wVar 5) aNil))) (wVar 1))) jq)
  jr)
def fo:W Fl:=(wSeq (wSet 5 (wLst (aVal (wVar 4) aNil)))
  jt)
def ju:W Fl:=(wSeq (wIf (aP (wBin opEq (wVar 3) (wC (.int 0)))) (wSet 4 (wTup (aVal (wC (.int 1)) (aVal (wC (.int 1)) aNil)))) bE)
  fo)
def jv:W Fl:=(wSeq (wSet 4 (wFrz (bU b8 0 0 (aVar 0 (aVal (wC (.int 1)) (aVal (wVar 2) aNil))))))
  ju)
def iB:W Fl:=(wSeq (wSet 3 (wFrz (bU aJ 0 0 (aVar 0 (aVal (wC (.int 3)) aNil)))))
  jv)
theorem p6:∀ls post,ls.length=3→gw ls post→iB (ls++List.replicate 4 .un) (aL ls post):=by
 rintro ls post - ⟨a,xs,n,kind,rfl,hx,n1,n2,k0,k1,h⟩
 have one:frD 1=.tup [.int 1,.int 1]:=rfl
 have rest:∀(alike:Int)(p:Rat)(ys:List D),StOk ys→0<p→RB 60 p →
   fo [.own a ys,.d (.int n),.d (.int kind),.d (.int alike),.d (frD p),.un,.un] (aL [.own a xs,.d (.int n),.d (.int kind)] post):=by
  intro alike p ys hy hp hb
  unfold fo
  walk_at "w"
  refine⟨by decide,fun c=>?_⟩
  unfold jt
  walk_at "w"
  refine⟨fun m ρ=>∃(qs:List Rat)(zs:List D)(l:L),ρ=[.own a zs,.d (.int n),.d (.int kind),.d (.int alike),.d (frD p),.own c (qs.map frD),l]∧StOk zs∧qs.length≤n∧m=n-qs.length∧∀q∈qs,0<q∧RB 60 q,⟨_,[p],ys,_,rfl,hy,n1,rfl,by intro q hq;rw[List.mem_singleton.mp hq];exact⟨hp,hb⟩⟩,?_⟩
  rintro m ρ ⟨qs,zs,l,rfl,hz,hl,rfl,hq⟩
  walk_at "w"
  try rw[List.length_map]
  split
  ·
   rename_i hlt
   unfold jq
   walk_at "w"
   refine⟨a,zs,1,kind,rfl,hz,by decide,by decide,k0,k1,fun q ws hw q0 q1 qb=>⟨ws,rfl,?_⟩⟩
   walk_at "w"
   have hs:qs.length<sizeLine:=by exact Nat.lt_of_le_of_lt (show qs.length≤1000 by omega) (by decide)
   have more:∀q':Rat,0<q'→RB 60 q'→∃m,m<n-qs.length∧∃(qs':List Rat)(zs:List D)(l:L),[L.own a ws,.d (.int n),.d (.int kind),.d (.int alike),.d (frD p),.own c (qs.map frD++[frD q']),.d (frD q)]=[.own a zs,.d (.int n),.d (.int kind),.d (.int alike),.d (frD p),.own c (qs'.map frD),l]∧StOk zs∧qs'.length≤n∧m=n-qs'.length∧∀q∈qs',0<q∧RB 60 q:=by
    intro q' p0 pb
    refine⟨n-(qs++[q']).length,by rw[List.length_append];simp only[List.length_singleton];omega,qs++[q'],ws,.d (frD q),by rw[List.map_append];rfl,hw,by rw[List.length_append];simp only[List.length_singleton];omega,rfl,fun z hz=>?_⟩
    rcases List.mem_append.mp hz with hz|hz
    ·
     exact hq z hz
    ·
     rw[List.mem_singleton.mp hz];exact⟨p0,pb⟩
   refine⟨by decide,fun _=>?_⟩
   by_cases h2:alike=2
   ·
    refine⟨frD q,?_,hs,more q (q1 rfl) qb⟩
    simp[h2,vB]
   ·
    refine⟨frD p,?_,hs,more p hp hb⟩
    simp[h2,vA]
  ·
   have e:qs.length=n:=by omega
   unfold jr
   walk_at "w"
   exact⟨_,iN (by simp) (aj (aj aD)),h qs c zs hz e hq⟩
 unfold iB
 walk_at "w"
 refine⟨a,xs,3,rfl,hx,by decide,by decide,fun r ys hy r0 r1=>⟨ys,rfl,?_⟩⟩
 unfold jv
 walk_at "w"
 refine⟨a,ys,1,kind,rfl,hy,by decide,by decide,k0,k1,fun q zs hz q0 q1 qb=>⟨zs,rfl,?_⟩⟩
 unfold ju
 walk_at "w"
 split
 ·
  exact⟨by decide,rest r 1 zs hz (by decide) ⟨by decide,by decide⟩⟩
 ·
  exact rest r q zs hz (q1 rfl) qb
def iC:FS:=fun ls post=>∃(a:Addr)(xs:List D)(shape k:Int)(n:Nat),ls=[.own a xs,.d (.int shape),.d (.int n),.d (.int k)]∧StOk xs∧2≤n∧n≤1000∧0≤k∧k≤1000 ∧
 ∀(i j:Nat)(ys:List D),StOk ys→i<n→j<n→i≠j→post (.d (.tup [.int i,.int j])) [.own a ys,.d (.int shape),.d (.int n),.d (.int k)]
def ka:W Fl:=(wSeq (wSet 4 (wFrz (bU aJ 0 0 (aVar 0 (aVal (wVar 2) aNil)))))
  (wSeq (wSet 5 (wBin eE (wBin bP (wBin bP (wVar 4) (wC (.int 1))) (bU aJ 0 0 (aVar 0 (aVal (wBin jF (wVar 2) (wC (.int 1))) aNil)))) (wVar 2)))
  (wSeq (wIf (aP (wBin opEq (wVar 1) (wC (.int 1)))) (wRet (wTup (aVal (wBin eE (wVar 3) (wVar 2)) (aVal (wBin eE (wBin bP (wVar 3) (wBin kv (wVar 2) (wC (.int 2)))) (wVar 2)) aNil)))) bE)
  (wSeq (wIf (aP (wBin opEq (wVar 1) (wC (.int 2)))) (wRet (wTup (aVal (wFrz (wBin a7 (wBin eE (wVar 3) (wC (.int 2))) (wBin jF (wVar 2) (wC (.int 1))))) (aVal (wFrz (wBin a7 (wBin jF (wC (.int 1)) (wBin eE (wVar 3) (wC (.int 2)))) (wBin jF (wVar 2) (wC (.int 1))))) aNil)))) bE)
  (wSeq (wIf (aP (wBin opEq (wVar 1) (wC (.int 3)))) (wRet (wTup (aVal (wC (.int 0)) (aVal (wFrz (wBin bP (wC (.int 1)) (wBin eE (wVar 5) (wBin jF (wVar 2) (wC (.int 1)))))) aNil)))) bE)
  (wRet (wTup (aVal (wVar 4) (aVal (wVar 5) aNil)))))))))
theorem sL:∀ls post,ls.length=4→iC ls post→ka (ls++List.replicate 2 .un) (aL ls post):=by
 rintro ls post - ⟨a,xs,shape,k,n,rfl,hx,n2,n3,k0,k1,h⟩
 have fin:∀(ys:List D)(i j:Int)(ρ:Ev),StOk ys→0≤i→i<n→0≤j→j<n→i≠j→.own a ys∈ρ→aL [.own a xs,.d (.int shape),.d (.int n),.d (.int k)] post (.rt (.d (.tup [.int i,.int j]))) ρ:=by
  intro ys i j ρ hy i0 i1 j0 j1 hij hm
  have:=h i.toNat j.toNat ys hy (by omega) (by omega) (by omega)
  rw[Int.toNat_of_nonneg i0,Int.toNat_of_nonneg j0]at this
  exact⟨_,iN hm (aj (aj (aj aD))),this⟩
 unfold ka
 walk_at "w"
 refine⟨a,xs,n,rfl,hx,by omega,by omega,fun r ys hy r0 r1=>⟨ys,rfl,?_⟩⟩
 walk_at "w"
 refine⟨a,ys,n-1,rfl,hy,by omega,by omega,fun s zs hz s0 s1=>⟨zs,rfl,?_⟩⟩
 walk_at "w"
 refine⟨by omega,?_⟩
 have e1:=Int.fmod_eq_emod_of_nonneg (r+1+s) (b:=n) (by omega)
 have e2:=Int.fmod_eq_emod_of_nonneg k (b:=n) (by omega)
 have e3:=Int.fdiv_eq_ediv_of_nonneg (n:Int) (b:=2) (by omega)
 have e4:=Int.fmod_eq_emod_of_nonneg (k+(n:Int) / 2) (b:=n) (by omega)
 have e5:=Int.fmod_eq_emod_of_nonneg k (b:=2) (by omega)
 have e6:=Int.fmod_eq_emod_of_nonneg ((r+1+s) % (n:Int)) (b:=(n:Int)-1) (by omega)
 rw[e1]
 have o0:=Int.emod_nonneg (r+1+s) (b:=n) (by omega)
 have o1:=Int.emod_lt_of_pos (r+1+s) (b:=n) (by omega)
 have o2:(r+1+s) % (n:Int)≠r:=fun z=>by
  by_cases q:r+1+s<n
  ·
   rw[Int.emod_eq_of_lt (by omega) q]at z;omega
  ·
   have:(r+1+s) % (n:Int)=r+1+s-n:=by
    rw[← Int.sub_emod_right,Int.emod_eq_of_lt (by omega) (by omega)]
   omega
 split
 ·
  walk_at "w"
  rw[e2,e3,e4]
  refine⟨by omega,by decide,by decide,by omega,by decide,fin zs _ _ _ hz (Int.emod_nonneg _ (by omega)) (Int.emod_lt_of_pos _ (by omega)) (Int.emod_nonneg _ (by omega)) (Int.emod_lt_of_pos _ (by omega)) (fun z=>?_) (by simp)⟩
  have h1:(k+(n:Int) / 2-k) % n=0:=Int.emod_eq_emod_iff_emod_sub_eq_zero.mp z.symm
  have e9:k+(n:Int) / 2-k=n / 2:=by omega
  rw[e9,Int.emod_eq_of_lt (by omega) (by omega)]at h1
  omega
 ·
  walk_at "w"
  split
  ·
   walk_at "w"
   rw[e5]
   have m0:=Int.emod_two_eq k
   refine⟨by decide,bj (by omega),bj (by omega),by decide,bj (by omega),bj (by omega),by decide,?_⟩
   rcases m0 with m0|m0
   ·
    rw[m0]
    exact fin zs _ _ _ hz (by omega) (by omega) (by omega) (by omega) (by omega) (by simp)
   ·
    rw[m0]
    exact fin zs _ _ _ hz (by omega) (by omega) (by omega) (by omega) (by omega) (by simp)
  ·
   walk_at "w"
   split
   ·
    walk_at "w"
    rw[e6]
    have p0:=Int.emod_nonneg ((r+1+s) % (n:Int)) (b:=(n:Int)-1) (by omega)
    have p1:=Int.emod_lt_of_pos ((r+1+s) % (n:Int)) (b:=(n:Int)-1) (by omega)
    exact⟨by omega,by decide,fin zs _ _ _ hz (by omega) (by omega) (by omega) (by omega) (by omega) (by simp)⟩
   ·
    walk_at "w"
    exact⟨by decide,fin zs _ _ _ hz (by omega) (by omega) (by omega) (by omega) (Ne.symm o2) (by simp)⟩
structure Drawn (most count:Nat) (R:Ring):Prop where
 ok:R.Ok
 hi:R.n≤most
 few:R.asks.length≤count
 nms:(∀a∈R.asks,NmOk a.nm)∧(R.asks.map (·.nm)).Nodup
 tt:∀a∈R.asks,RB 60 a.size
def iD:FS:=fun ls post=>∃(ns:List Int)(at_ most count:Nat),ls=[.d (.lst (ns.map .int)),.d (.int at_),.d (.int most),.d (.int count)]∧at_≤90∧2≤most∧most≤12∧count≤20 ∧
 ∀R:Ring,Drawn most count R→post (.d (aR R)) ls
def gy:W Fl:=(wSeq (EJ [13,14] (bU iC 0 4 (aVar 4 (aVal (wVar 8) (aVal (wVar 5) (aVal (wVar 12) aNil))))))
  (jD (wApp 11 (wTup (aVal (wBin opIx (wVar 9) (wVar 12)) (aVal (wVar 13) (aVal (wVar 14) (aVal (wFrz (bU b8 0 4 (aVar 4 (aVal (wC (.int 0)) (aVal (wBin opIx (wVar 7) (wC (.int 1))) aNil))))) aNil))))))))
def k7:W Fl:=(wRet (wTup (aVal (wVar 10) (aVal (wVar 11) aNil))))
def k8:W Fl:=(wSeq (wFor (lH (wVar 6)) (aI 12) gy)
  k7)
def k9:W Fl:=(wSeq (wSet 11 (wLst aNil))
  k8)
def lg:W Fl:=(wSeq (wSet 4 (aC cK (aVal (wVar 0) (aVal (wFrz (wBin bP (wVar 1) (wC (.int 2)))) aNil))))
  k9)
def lh:W Fl:=(wSeq (wSet 10 (wFrz (aC gw (aVal (aC cK (aVal (wVar 0) (aVal (wFrz (wBin bP (wVar 1) (wC (.int 1)))) aNil))) (aVal (wVar 5) (aVal (wBin opIx (wVar 7) (wC (.int 0))) aNil))))))
  lg)
def lj:W Fl:=(wSeq (wSet 9 (wFrz (bU gu 0 4 (aVar 4 (aVal (wVar 6) aNil)))))
  lh)
def lp:W Fl:=(wSeq (wSet 8 (wFrz (bU aJ 0 4 (aVar 4 (aVal (wC (.int 6)) aNil)))))
  lj)
def lq:W Fl:=(wSeq (wSet 7 (wFrz (wLst (aVal (wFrz (bU aJ 0 4 (aVar 4 (aVal (wC (.int 5)) aNil)))) (aVal (wFrz (bU aJ 0 4 (aVar 4 (aVal (wC (.int 5)) aNil)))) aNil)))))
  lp)
def lr:W Fl:=(wSeq (wSet 6 (wFrz (bU aJ 0 4 (aVar 4 (aVal (wFrz (wBin bP (wVar 3) (wC (.int 1)))) aNil)))))
  lq)
def lu:W Fl:=(wSeq (wSet 5 (wFrz (wBin bP (wC (.int 2)) (bU aJ 0 4 (aVar 4 (aVal (wBin jF (wVar 2) (wC (.int 1))) aNil))))))
  lr)
def kb:W Fl:=(wSeq (wSet 4 (aC cK (aVal (wVar 0) (aVal (wVar 1) aNil))))
  lu)
theorem Bu{S a1 m3 c3 rms:D}{b c:Addr}{n shape kind:Nat}{zs:List Str}{post:Fl→Ev→Prop}(hn:2≤n)(hn2:n≤12)(hk:kind<5)(k0:Nat)(hzl:zs.length≤20)(hz:∀z∈zs,NmOk z)(xs:List D)(hx:StOk xs)(x13 x14:L)
  (fin:∀(as:List Ask)(ys:List D)(x12 x13 x14:L),(∀a∈as,pP n a∧RB 60 a.size)→as.map (·.nm)=zs→post .nx [.d S,.d a1,.d m3,.d c3,.own b ys,.d (.int n),.d (.int (zs.length:Int)),.d (.lst [.int k0,.int kind]),.d (.int shape),.d (.lst (zs.map .str)),.d rms,.own c (as.map askD),x12,x13,x14]) :
  dW (aI 12) gy ((List.range zs.length).map fun (i:Nat)=>D.int (i:Int)) [.d S,.d a1,.d m3,.d c3,.own b xs,.d (.int n),.d (.int (zs.length:Int)),.d (.lst [.int k0,.int kind]),.d (.int shape),.d (.lst (zs.map .str)),.d rms,.own c [],.un,x13,x14] post:=by
 refine kG _ (fun j ρ=>∃(as:List Ask)(ys:List D)(x12 x13 x14:L),ρ=[.d S,.d a1,.d m3,.d c3,.own b ys,.d (.int n),.d (.int (zs.length:Int)),.d (.lst [.int k0,.int kind]),.d (.int shape),.d (.lst (zs.map .str)),.d rms,.own c (as.map askD),x12,x13,x14]∧StOk ys∧(∀a∈as,pP n a∧RB 60 a.size)∧as.map (·.nm)=zs.take j) _ ⟨[],xs,_,_,_,rfl,hx,fun a ha=>by simp at ha,rfl⟩ ?_ ?_
 ·
  rintro j x ρ hj ⟨as,ys,x12,x13,x14,rfl,hy,ha,hn'⟩ Q h1 h2 h3 h4
  have hj':j<zs.length:=by
   have:=(List.getElem?_eq_some_iff.mp hj).1
   simpa using this
  have ex:x=.int (j:Int):=by
   rw[List.getElem?_map,List.getElem?_range hj']at hj
   exact(Option.some.inj hj).symm
  subst ex
  unfold gy
  walk_at "w"
  refine⟨b,ys,shape,j,n,rfl,hy,hn,by omega,by omega,by omega,fun i k ws hw i1 k1 hik=>⟨ws,rfl,?_⟩⟩
  walk_at "w"
  refine⟨.str zs[j],cB hj',?_⟩
  refine⟨b,ws,0,kind,rfl,hw,by decide,by decide,by omega,by omega,fun q vs hv q0 _ qb=>⟨vs,rfl,?_⟩⟩
  walk_at "w"
  have hlen:as.length=j:=by
   have:=congrArg List.length hn'
   rw[List.length_map,List.length_take]at this
   omega
  refine⟨by decide,by rw[hlen];exact Nat.lt_of_lt_of_le hj' (Nat.le_trans hzl (by decide)),h1 _ ⟨as++[⟨zs[j],i,k,q⟩],vs,_,_,_,by rw[List.map_append];rfl,hv,fun a hm=>?_,?_⟩⟩
  ·
   rcases List.mem_append.mp hm with hm|hm
   ·
    exact ha a hm
   ·
    rw[List.mem_singleton.mp hm]
    exact⟨⟨i1,k1,hik,q0,C0 qb,(hz _ (List.getElem_mem hj')).ok⟩,qb⟩
  ·
   rw[List.map_append,hn',List.take_succ,List.getElem?_eq_getElem hj']
   rfl
 ·
  rintro ρ ⟨as,ys,x12,x13,x14,rfl,hy,ha,hn'⟩
  rw[List.length_map,List.length_range,List.take_of_length_le (Nat.le_refl _)]at hn'
  exact fin as ys x12 x13 x14 ha hn'
theorem sM:∀ls post,ls.length=4→iD ls post→kb (ls++List.replicate 11 .un) (aL ls post):=by
 rintro ls post - ⟨ns,at_,most,count,rfl,ha,m2,m12,c20,h⟩
 unfold kb
 walk_at "w"
 refine⟨ns,at_,rfl,by omega,by omega,fun b xs hx=>?_⟩
 unfold lu
 walk_at "w"
 refine⟨b,xs,(most:Int)-1,rfl,hx,by omega,by omega,fun r ys hy r0 r1=>⟨ys,rfl,?_⟩⟩
 unfold lr
 walk_at "w"
 refine⟨b,ys,(count:Int)+1,rfl,hy,by omega,by omega,fun s zs hz s0 s1=>⟨zs,rfl,?_⟩⟩
 unfold lq
 walk_at "w"
 refine⟨b,zs,5,rfl,hz,by decide,by decide,fun k1 ws hw k10 k11=>⟨ws,rfl,?_⟩⟩
 walk_at "w"
 refine⟨b,ws,5,rfl,hw,by decide,by decide,fun k2 vs hv k20 k21=>⟨vs,rfl,?_⟩⟩
 walk_at "w"
 refine⟨by decide,fun kk=>?_⟩
 unfold lp
 walk_at "w"
 refine⟨b,vs,6,rfl,hv,by decide,by decide,fun sh us hu sh0 sh1=>⟨us,rfl,?_⟩⟩
 unfold lj
 walk_at "w"
 obtain⟨many,rfl⟩:=Int.eq_ofNat_of_zero_le s0
 obtain⟨pl,epl⟩:∃pl:Nat,2+r=(pl:Int):=Int.eq_ofNat_of_zero_le (by omega)
 obtain⟨sh',rfl⟩:=Int.eq_ofNat_of_zero_le sh0
 obtain⟨k1',rfl⟩:=Int.eq_ofNat_of_zero_le k10
 obtain⟨k2',rfl⟩:=Int.eq_ofNat_of_zero_le k20
 rw[epl]
 refine⟨b,us,many,rfl,hu,by omega,fun nms c ts ht hnl hnm hnd=>⟨ts,rfl,?_⟩⟩
 unfold lh
 walk_at "w"
 refine⟨ns,at_+1,rfl,by omega,by omega,fun b2 xs2 hx2=>?_⟩
 refine⟨b2,xs2,pl,k1',rfl,hx2,by omega,by omega,by omega,by omega,fun qs c2 ys2 hy2 hql hq=>?_⟩
 unfold lg
 walk_at "w"
 refine⟨ns,at_+2,rfl,by omega,by omega,fun b3 xs3 hx3=>?_⟩
 unfold k9
 walk_at "w"
 refine⟨by decide,fun c3=>?_⟩
 unfold k8
 walk_at "w"
 refine⟨⟨by omega,by omega⟩,?_⟩
 rw[kI,Int.toNat_natCast,← hnl]
 refine Bu (n:=pl) (by omega) (by omega) (by omega) k1' (by omega) hnm xs3 hx3 _ _ fun as ys' x12 x13 x14 hao han=>?_
 walk_at "w"
 unfold k7
 walk_at "w"
 refine⟨by decide,_,aj (aj (aj (aj aD))),h ⟨qs,as⟩ ?_⟩
 have hal:as.length=nms.length:=by rw[← han,List.length_map]
 refine⟨⟨?_,?_,?_,hq,?_,Jc (fun a ha=>(hao a ha).2) (by show as.length≤20;omega)⟩,?_,?_,⟨?_,?_⟩,fun a ha=>(hao a ha).2⟩
 ·
  show 2≤qs.length;omega
 ·
  show qs.length≤12;omega
 ·
  show as.length≤20;omega
 ·
  show ∀a∈as,pP qs.length a;rw[hql];exact fun a ha=>(hao a ha).1
 ·
  show qs.length≤most;omega
 ·
  show as.length≤count;omega
 ·
  intro a ha
  exact hnm _ (by rw[← han];exact List.mem_map_of_mem ha)
 ·
  show(as.map (·.nm)).Nodup
  rw[han]
  exact hnd
def onD(R:Ring):D:=.lst (R.asks.map fun a=>D.lst ((onL R.n a.one a.other).map fun (t:Nat)=>D.int (t:Int)))
def mf:FS:=fun ls post=>∃(R:Ring),ls=[.d (aR R)]∧R.Ok∧∀c,post (.own c (R.asks.map fun a=>D.lst ((onL R.n a.one a.other).map fun (t:Nat)=>D.int (t:Int)))) ls
def kc:W Fl:=(wSeq (jD (wApp 6 (wVar 7)))
  (wSet 7 (wBin eE (wBin bP (wVar 7) (wC (.int 1))) (aW bJ (aVal (wBin opIx (wVar 0) (wC (.int 0))) aNil)))))
def pd:W Fl:=(wSeq (wSet 6 (wLst aNil))
  (wSeq (wSet 7 (wVar 3))
  (wSeq (ja (aP (wBin opNe (wVar 7) (wVar 4))) kc)
  (jD (wApp 1 (wVar 6))))))
def pf:W Fl:=(wSeq (wSet 1 (wLst aNil))
  (wSeq (wFor (wSrc (wBin opIx (wVar 0) (wC (.int 1)))) (dU [2,3,4,5]) pd)
  (wRet (fS 1))))
theorem Gn{f:Nat→Nat}{s m:Nat}(h:s<m):((List.range m).map f).take (s+1)=((List.range m).map f).take s++[f s]:=by
 rw[List.take_succ,List.getElem?_map,List.getElem?_range h]
 rfl
theorem Gp{R:Ring}(hR:R.Ok){x1 x2 x5:L}{i j:Nat}(hi:i<R.n)(hj:j<R.n)(c:Addr){post:Fl→Ev→Prop}(fin:post .nx [.d (aR R),x1,x2,.d (.int i),.d (.int j),x5,.own c ((onL R.n i j).map fun (t:Nat)=>D.int (t:Int)),.d (.int j)]) :
  ja (aP (wBin opNe (wVar 7) (wVar 4))) kc [.d (aR R),x1,x2,.d (.int i),.d (.int j),x5,.own c [],.d (.int i)] post:=by
 have hhi:=hR.hi
 have hlo:=hR.lo
 refine⟨fun m ρ=>∃s,ρ=[.d (aR R),x1,x2,.d (.int i),.d (.int j),x5,.own c (((onL R.n i j).take s).map fun (t:Nat)=>D.int (t:Int)),.d (.int (((i+s) % R.n:Nat):Int))]∧s≤far R.n i j∧m=far R.n i j-s,⟨_,0,by rw[Nat.add_zero,Nat.mod_eq_of_lt hi];rfl,Nat.zero_le _,rfl⟩,?_⟩
 rintro m ρ ⟨s,rfl,hs,rfl⟩
 have hf:far R.n i j<R.n:=Nat.mod_lt _ (by omega)
 have hfe:=oq hi hj
 have hm:(i+s) % R.n=if i+s<R.n then i+s else i+s-R.n:=kL (by omega)
 walk_at "w"
 by_cases hne:(i+s) % R.n=j
 ·
  have hs':s=far R.n i j:=by
   rw[hm]at hne
   rw[hfe]at hs ⊢
   split at hne<;>split at hs<;>split<;>omega
  rw[if_neg (fun z=>z (by rw[hne]))]
  rw[List.take_of_length_le (by rw[HE];omega),hne]
  exact fin
 ·
  have hs':s<far R.n i j:=by
   refine Nat.lt_of_le_of_ne hs fun z=>hne ?_
   rw[z,hfe]at hm
   rw[z,hfe,hm]
   split<;>split<;>omega
  rw[if_pos (fun z=>hne (Int.ofNat_inj.mp z))]
  unfold kc
  walk_at "w"
  refine⟨?_,by omega,?_⟩
  ·
   rw[List.length_take]
   exact Nat.lt_of_le_of_lt (Nat.min_le_left _ _) (Nat.lt_of_lt_of_le (show s<12 by omega) (by decide))
  refine⟨far R.n i j-(s+1),by omega,s+1,?_,hs',rfl⟩
  have e1:(onL R.n i j).take (s+1)=(onL R.n i j).take s++[(i+s) % R.n]:=Gn hs'
  have e2:((((i+s) % R.n:Nat):Int)+1).fmod (R.n:Int)=(((i+(s+1)) % R.n:Nat):Int):=by
   have:=C1 (n:=R.n) (i:=(i+s) % R.n) (s:=1)
   rw[Nat.mod_add_mod,Nat.add_assoc]at this
   exact this
  rw[e1,List.map_append]
  rw[e2]
  rfl
theorem wu:∀ls post,ls.length=1→mf ls post→pf (ls++List.replicate 7 .un) (aL ls post):=by
 rintro ls post - ⟨R,rfl,hR,h⟩
 have few:=hR.few
 unfold pf
 walk_at "w"
 refine⟨by decide,fun c=>?_⟩
 refine fW (enc:=askD) R.asks (fun pre ρ=>∃x2 x3 x4 x5 x6 x7,ρ=[.d (aR R),.own c (pre.map fun a=>D.lst ((onL R.n a.one a.other).map fun (t:Nat)=>D.int (t:Int))),x2,x3,x4,x5,x6,x7]) _ ⟨_,_,_,_,_,_,rfl⟩ ?_ ?_
 ·
  rintro pre A suf ρ hsp ⟨x2,x3,x4,x5,x6,x7,rfl⟩ Q h1 h2 h3 h4
  have hA:pP R.n A:=hR.ask A (by rw[hsp];simp)
  have hlen:pre.length<20:=by
   have:=congrArg List.length hsp
   rw[List.length_append,List.length_cons]at this
   omega
  unfold pd
  walk_at "w"
  refine⟨by decide,fun c2=>?_⟩
  refine Gp hR hA.one hA.other c2 ?_
  walk_at "w"
  refine⟨Nat.lt_of_lt_of_le hlen (by decide),?_⟩
  exact h1 _ ⟨_,_,_,_,_,_,by rw[List.map_append];rfl⟩
 ·
  rintro ρ ⟨x2,x3,x4,x5,x6,x7,rfl⟩
  walk_at "w"
  exact⟨_,aj aD,h c⟩
def ft:FS:=fun ls post=>∃(qs:List Rat),ls=[.d (.lst (qs.map frD))]∧qs.length≤20∧(∀q∈qs,RB 60 q)∧post (.d (.tup [.lst (qs.map fun q=>D.int (dn (cbN qs) q)),.int (cbN qs:Int)])) ls
def iE:W L:=(wBin a7 (wBin opIx (wVar 0) (wC (.int 0))) (wBin kv (wVar 1) (wBin opIx (wVar 0) (wC (.int 1)))))
def ej:W Fl:=(wPar 3 4 (wVar 4) (wBin eE (wVar 3) (wVar 4)))
def iF:W Fl:=(wSeq (wSet 3 (wVar 1))
  (wSeq (wSet 4 (wBin opIx (wVar 2) (wC (.int 1))))
  (wSeq (ja (aP (wBin opNe (wVar 4) (wC (.int 0)))) ej)
  (wSet 1 (wFrz (wBin a7 (wBin kv (wVar 1) (wVar 3)) (wBin opIx (wVar 2) (wC (.int 1)))))))))
def gz:W Fl:=(wSeq (wSet 1 (wC (.int 1)))
  (wSeq (wFor (wSrc (wVar 0)) (aI 2) iF)
  (wRet (wTup (aVal (wFrz (bX 1 [1] (wSrc (wVar 0)) (aI 0) bF iE)) (aVal (wVar 1) aNil))))))
theorem Ip(qs:List Rat)(q:Rat):cbN (qs++[q])=Nat.lcm (cbN qs) q.den:=by
 unfold cbN
 rw[List.foldl_append]
 rfl
theorem DD{b d:Nat}{x0 x1 x2:L}{post:Fl→Ev→Prop}(hd:0<d)(fin:∀x4,post .nx [x0,x1,x2,.d (.int (Int.gcd b d:Nat)),x4]) :
  ja (aP (wBin opNe (wVar 4) (wC (.int 0)))) ej [x0,x1,x2,.d (.int b),.d (.int d)] post:=by
 refine⟨fun n ρ=>∃x y:Int,ρ=[x0,x1,x2,.d (.int x),.d (.int y)]∧0≤x∧0≤y∧Int.gcd x y=Int.gcd b d∧n=y.natAbs,⟨_,b,d,rfl,by omega,by omega,rfl,rfl⟩,?_⟩
 rintro n ρ ⟨x,y,rfl,hx,hy0,hg,rfl⟩
 walk_at "w"
 split
 ·
  rename_i hy
  have hy:y≠0:=by simpa using hy
  unfold ej
  walk_at "w"
  have hr:=eI x (m:=y) (by omega)
  exact⟨hy,_,eZ x hy,y,x.fmod y,rfl,hy0,hr.1,by rw[q8];exact hg,rfl⟩
 ·
  rename_i hy
  have hy:y=0:=by simpa using hy
  subst hy
  have e:x=((Int.gcd b d:Nat):Int):=by rw[← hg,Int.gcd_zero_right];omega
  rw[e]
  exact fin _
theorem ph:∀ls post,ls.length=1→ft ls post→gz (ls++List.replicate 4 .un) (aL ls post):=by
 rintro ls post - ⟨qs,rfl,hl,hb,h⟩
 unfold gz
 walk_at "w"
 refine fW (enc:=frD) qs (fun pre ρ=>∃x2 x3 x4,ρ=[.d (.lst (qs.map frD)),.d (.int (cbN pre:Int)),x2,x3,x4]) _ ⟨_,_,_,rfl⟩ ?_ ?_
 ·
  rintro pre q suf ρ hsp ⟨x2,x3,x4,rfl⟩ Q h1 h2 h3 h4
  have dq:=den_pos q
  have hpre:∀p∈pre,RB 60 p:=fun p hp=>hb p (by rw[hsp];simp[hp])
  have hpl:pre.length≤20:=by
   have:=congrArg List.length hsp
   rw[List.length_append,List.length_cons]at this
   omega
  obtain⟨c0,c1⟩:=kM hpl hpre
  have qb:=hb q (by rw[hsp];simp)
  have g0:0<Nat.gcd (cbN pre) q.den:=Nat.gcd_pos_of_pos_right _ dq
  have gl:Nat.gcd (cbN pre) q.den≤q.den:=Nat.le_of_dvd dq (Nat.gcd_dvd_right _ _)
  unfold iF
  walk_at "w"
  refine DD dq fun x4=>?_
  walk_at "w"
  have eg:(Int.gcd (cbN pre:Int) (q.den:Int))=Nat.gcd (cbN pre) q.den:=rfl
  have c12:(2:Nat)^1200<2^1201:=Nat.pow_lt_pow_right (by decide) (by decide)
  have qd:=qb.2
  have e1:(((Nat.gcd (cbN pre) q.den:Nat):Int)).natAbs<2^9000:=by
   rw[Int.natAbs_natCast]
   exact Nat.lt_of_le_of_lt gl (Nat.lt_of_lt_of_le qd (Nat.pow_le_pow_right (by decide) (by decide)))
  have e2:((cbN pre:Int).fdiv ((Nat.gcd (cbN pre) q.den:Nat):Int)).natAbs<2^1201:=by
   rw[Int.fdiv_eq_ediv_of_nonneg _ (by omega),← Int.natCast_ediv,Int.natAbs_natCast]
   exact Nat.lt_of_le_of_lt (Nat.div_le_self _ _) (by omega)
  have ll:=AJ (a:=cbN pre) dq
  rw[eg]at ll ⊢
  refine⟨by omega,e1,a8 e2 (by decide),qb.bd (by decide),?_⟩
  rw[ll,← Ip]
  exact h1 _ ⟨_,_,_,rfl⟩
 ·
  rintro ρ ⟨x2,x3,x4,rfl⟩
  walk_at "w"
  obtain⟨c0,c1⟩:=kM hl hb
  refine⟨Nat.le_trans hl (by decide),a6 (enc:=frD) (h:=fun q=>D.int (dn (cbN qs) q)) qs _ _ (fun q hq Q hQ=>?_) fun l a=>?_⟩
  ·
   unfold iE
   have qb:=hb q hq
   have dq:=den_pos q
   have ed:(cbN qs:Int).fdiv (q.den:Int)=((cbN qs / q.den:Nat):Int):=by
    rw[Int.fdiv_eq_ediv_of_nonneg _ (by omega),← Int.natCast_ediv]
   walk_at "w"
   rw[ed]
   have c12:(2:Nat)^1200<2^1201:=Nat.pow_lt_pow_right (by decide) (by decide)
   have e2:(((cbN qs / q.den:Nat):Int)).natAbs<2^1201:=by
    rw[Int.natAbs_natCast]
    exact Nat.lt_of_le_of_lt (Nat.div_le_self _ _) (by omega)
   refine⟨by omega,Nat.lt_of_lt_of_le (show((q.den:Int)).natAbs<2^60 by simpa using qb.2) (Nat.pow_le_pow_right (by decide) (by decide)),qb.bn (by decide),a8 e2 (by decide),?_⟩
   exact hQ
  ·
   walk_at "w"
   exact⟨by decide,_,aj aD,h⟩
def dE:FS:=fun ls post=>∃n:Nat,ls=[.d (.int (n:Int))]∧n≤7∧∀c,post (.own c ((allW n).map e8)) ls
def fK:W L:=(wBin bP (wVar 0) (wLst (aVal (wC (.str "on")) aNil)))
def fL:W L:=(wBin bP (wVar 0) (wLst (aVal (wC (.str "back")) aNil)))
def fM:W Fl:=(wSet 1 (wBin bP (bX 1 [] (wSrc (wVar 1)) (aI 0) bF fK) (bX 1 [] (wSrc (wVar 1)) (aI 0) bF fL)))
def eA:W Fl:=(wSeq (wSet 1 (wLst (aVal (wFrz (wLst aNil)) aNil)))
  (wSeq (wFor (lH (wVar 0)) (aI 2) fM)
  (wRet (fS 1))))
theorem mh:∀ls post,ls.length=1→dE ls post→eA (ls++List.replicate 2 .un) (aL ls post):=by
 rintro ls post - ⟨n,rfl,hn,h⟩
 unfold eA
 walk_at "w"
 refine⟨by decide,fun c1=>⟨by decide,fun c2=>⟨⟨by omega,by omega⟩,?_⟩⟩⟩
 rw[Int.toNat_natCast]
 refine g6 _ (fun j ρ=>∃c x2,ρ=[.d (.int (n:Int)),.own c ((allW j).map e8),x2]) _ ⟨_,_,rfl⟩ ?_ ?_
 ·
  rintro j ρ hj ⟨c,x2,rfl⟩ Q h1 h2 h3 h4
  have hp:2^j≤2^6:=Nat.pow_le_pow_right (by decide) (by omega)
  unfold fM
  walk_at "w"
  have sl:(128:Nat)≤sizeLine:=by decide
  rw[rM]
  have one:∀v,v∈allW j→v.length+1≤sizeLine:=fun v hv=>by rw[nM.mp hv];omega
  refine⟨by omega,a6 (h:=fun v=>e8 (v++[true])) _ _ _ (fun v hv Q hQ=>?_) fun l c3=>⟨by omega,a6 (h:=fun v=>e8 (v++[false])) _ _ _ (fun v hv Q hQ=>?_) fun l c4=>?_⟩⟩
  ·
   unfold fK
   have e:e8 (v++[true])=.lst ((v.map fun w=>D.str (wayS w))++[.str "on"]):=by rw[e8,List.map_append]; rfl
   rw[e]at hQ
   unfold e8
   walk_at "w"
   exact⟨by decide,fun _=>⟨one v hv,fun _=>hQ⟩⟩
  ·
   unfold fL
   have e:e8 (v++[false])=.lst ((v.map fun w=>D.str (wayS w))++[.str "back"]):=by rw[e8,List.map_append]; rfl
   rw[e]at hQ
   unfold e8
   walk_at "w"
   exact⟨by decide,fun _=>⟨one v hv,fun _=>hQ⟩⟩
  rw[List.nil_append,List.nil_append,List.length_map,List.length_map,rM]
  refine⟨by omega,fun c5=>h1 _ ⟨c5,.d (.int (j:Int)),?_⟩⟩
  rw[allW,List.map_append,List.map_map,List.map_map]
  rfl
 ·
  rintro ρ ⟨c,x2,rfl⟩
  walk_at "w"
  exact⟨_,aj aD,h _⟩
def gB:FS:=fun ls post=>∃(R:Ring)(f:Nat→Int)(b:Nat)(str:Nat→Rat),ls=[.d (aR R),.d (.lst (intL R.n f)),.d (.int (b:Int))]∧R.Ok∧(∀t,t<R.n→(f t).natAbs<2^2000)∧0<b∧b≤2^1200∧(∀t,t<R.n→str t=((f t:Int):Rat) / (b:Rat) / R.room t)∧post (.d (frD (topV R.n str))) ls
def mU:W Fl:=(wSeq (wSet 5 (wBin opIx (wBin opIx (wVar 0) (wC (.int 0))) (wVar 4)))
  (wSeq (wSet 6 (wTup (aVal (wFrz (wBin a7 (wBin opIx (wVar 1) (wVar 4)) (wBin opIx (wVar 5) (wC (.int 1))))) (aVal (wFrz (wBin a7 (wVar 2) (wBin opIx (wVar 5) (wC (.int 0))))) aNil))))
  (wIf (aP (wBin opLt (wBin a7 (wBin opIx (wVar 3) (wC (.int 0))) (wBin opIx (wVar 6) (wC (.int 1)))) (wBin a7 (wBin opIx (wVar 6) (wC (.int 0))) (wBin opIx (wVar 3) (wC (.int 1)))))) (wSet 3 (wVar 6)) bE)))
def mi:W Fl:=(wSeq (wSet 3 (wTup (aVal (wC (.int 0)) (aVal (wC (.int 1)) aNil))))
  (wSeq (wFor (lH (aW bJ (aVal (wVar 1) aNil))) (aI 4) mU)
  (wRet (aC eh (aVal (wBin opIx (wVar 3) (wC (.int 0))) (aVal (wBin opIx (wVar 3) (wC (.int 1))) aNil))))))
theorem uN:∀ls post,ls.length=3→gB ls post→mi (ls++List.replicate 4 .un) (aL ls post):=by
 rintro ls post - ⟨R,f,b,str,rfl,hR,hf,b0,b1,hs,h⟩
 have hi:=hR.hi
 unfold mi
 walk_at "w"
 refine⟨by decide,?_⟩
 rw[iS]
 refine⟨⟨by omega,by omega⟩,?_⟩
 rw[Int.toNat_natCast]
 refine g6 _ (fun j ρ=>∃(p q:Int)(x4 x5 x6:L),ρ=[.d (aR R),.d (.lst (intL R.n f)),.d (.int (b:Int)),.d (.tup [.int p,.int q]),x4,x5,x6]∧0<q∧p.natAbs<2^2060∧q.natAbs<2^2060∧Rat.divInt p q=topV j str) _ ⟨0,1,_,_,_,rfl,by decide,by decide,Nat.one_lt_two_pow (by decide),by rw[Rat.zero_divInt];rfl⟩ ?_ ?_
 ·
  rintro j ρ hj ⟨p,q,x4,x5,x6,rfl,q0,pb,qb,et⟩ Q h1 h2 h3 h4
  obtain⟨r1,r2⟩:=g8 hR hj
  have n1:=vQ r1
  have se:=vR (f:=f j) b0 r1
  rw[← hs j hj]at se
  have f1:=hf j hj
  have d1:((R.room j).den:Int).natAbs<2^60:=by simpa using r2.2
  have bb:((b:Int)).natAbs<2^1201:=by
   rw[Int.natAbs_natCast]
   exact Nat.lt_of_le_of_lt b1 (Nat.pow_lt_pow_right (by decide) (by decide))
  have m1:(f j*((R.room j).den:Int)).natAbs<2^2060:=by rw[Int.natAbs_mul];exact aZ (m:=2000) (n:=60) f1 d1
  have m2:((b:Int)*(R.room j).num).natAbs<2^2060:=by
   rw[Int.natAbs_mul]
   exact Nat.lt_of_lt_of_le (aZ (m:=1201) (n:=60) bb r2.1) (Nat.pow_le_pow_right (by decide) (by decide))
  have s0:0<(b:Int)*(R.room j).num:=Int.mul_pos (by omega) n1
  have ts:=oB j str
  rw[← et,se]at ts
  have lt:=yB (a:=p) (c:=f j*((R.room j).den:Int)) q0 s0
  unfold mU
  walk_at "w"
  refine⟨_,FN hj,?_⟩
  walk_at "w"
  refine⟨_,fX hj,?_⟩
  walk_at "w"
  refine⟨a8 f1 (by decide),a8 d1 (by decide),a8 bb (by decide),a8 r2.1 (by decide),by decide,a8 pb (by decide),a8 m2 (by decide),a8 m1 (by decide),a8 qb (by decide),?_⟩
  by_cases c:p*((b:Int)*(R.room j).num)<f j*((R.room j).den:Int)*q
  ·
   rw[if_pos c]
   rw[if_pos (lt.mpr c)]at ts
   exact h1 _ ⟨_,_,_,_,_,rfl,s0,m1,m2,ts.symm⟩
  ·
   rw[if_neg c]
   rw[if_neg fun z=>c (lt.mp z)]at ts
   exact h1 _ ⟨_,_,_,_,_,rfl,q0,pb,qb,ts.symm⟩
 ·
  rintro ρ ⟨p,q,x4,x5,x6,rfl,q0,pb,qb,et⟩
  walk_at "w"
  refine⟨p,q,rfl,by omega,Nat.lt_of_lt_of_le qb (Nat.pow_le_pow_right (by decide) (by decide)),?_⟩
  rw[et]
  exact⟨_,aj (aj (aj aD)),h⟩
def dP:FS:=fun ls post=>∃(R:Ring)(zs:List Int)(ws:List Bool),ls=[.d (aR R),.d (.lst (R.asks.map fun a=>D.lst ((onL R.n a.one a.other).map fun (t:Nat)=>D.int (t:Int)))),.d (.lst (zs.map .int)),.d (e8 ws)]∧R.Ok∧zs.length=R.asks.length∧ws.length=R.asks.length∧∀c,post (.own c (intL R.n (wsum R.n R.asks zs ws))) ls
def jw:W Fl:=(wIf (aP (wBin opEq (wBin (Cd false) (wVar 6) (wBin opIx (wVar 1) (wVar 5))) (wBin opEq (wBin opIx (wVar 3) (wVar 5)) (wC (.str "on"))))) (vm 4 (wVar 6) (wBin bP (dc 4 (wIxV 4 (wVar 6)) (wBin opIx (wVar 4) (wVar 6))) (wBin opIx (wVar 2) (wVar 5)))) bE)
def jx:W Fl:=(wFor (lH (dc 4 (zu 4) (aW bJ (aVal (wVar 4) aNil)))) (aI 6) jw)
def jy:W L:=(wC (.int 0))
def iG:W Fl:=(wSeq (wSet 4 (bX 1 [] (wSrc (wBin opIx (wVar 0) (wC (.int 0)))) (aI 0) bF jy))
  (wSeq (wFor (lH (aW bJ (aVal (wVar 3) aNil))) (aI 5) jx)
  (wRet (fS 4))))
theorem Iq{R:Ring}(hR:R.Ok){k t:Nat}(hk:k<R.asks.length)(ht:t<R.n):inF (.int (t:Int)) ((onL R.n R.asks[k].one R.asks[k].other).map fun (t:Nat)=>D.int (t:Int))=isOn R.n R.asks[k] t:=by
 rw[xA]
 have:=FL (hR.ask _ (List.getElem_mem hk)) true ht
 cases e:isOn R.n R.asks[k] t
 ·
  rw[e]at this
  refine decide_eq_false fun z=>?_
  have:=this.mp z
  simp at this
 ·
  rw[e]at this
  exact decide_eq_true (this.mpr rfl)
theorem p7:∀ls post,ls.length=4→dP ls post→iG (ls++List.replicate 3 .un) (aL ls post):=by
 rintro ls post - ⟨R,zs,ws,rfl,hR,hz,hw,h⟩
 have few:=hR.few
 have hi:=hR.hi
 unfold iG
 walk_at "w"
 refine⟨Nat.le_trans hi (by decide),a6 (enc:=frD) (h:=fun _=>D.int 0) R.rooms _ _ (fun q hq Q hQ=>?_) fun l c=>?_⟩
 ·
  unfold jy
  exact hQ
 have e0:R.rooms.map (fun _=>D.int 0)=intL R.n (wsum R.n (R.asks.take 0) (zs.take 0) (ws.take 0)):=by
  unfold intL
  refine List.ext_getElem (by simp[Ring.n]) fun j h1 h2=>?_
  simp[wsum]
 rw[List.nil_append,e0]
 unfold e8
 walk_at "w"
 refine⟨⟨by omega,by omega⟩,?_⟩
 rw[Int.toNat_natCast]
 refine g6 _ (fun k ρ=>∃x5 x6,ρ=[.d (aR R),.d (.lst (R.asks.map fun a=>D.lst ((onL R.n a.one a.other).map fun (t:Nat)=>D.int (t:Int)))),.d (.lst (zs.map .int)),.d (.lst (ws.map fun w=>D.str (wayS w))),.own c (intL R.n (wsum R.n (R.asks.take k) (zs.take k) (ws.take k))),x5,x6]) _ ⟨_,_,rfl⟩ ?_ ?_
 ·
  rintro k ρ hk ⟨x5,x6,rfl⟩ Q h1 h2 h3 h4
  have hka:k<R.asks.length:=by omega
  have hkz:k<zs.length:=by omega
  unfold jx
  walk_at "w"
  rw[iS]
  refine⟨⟨by omega,by omega⟩,?_⟩
  rw[Int.toNat_natCast]
  refine g6 _ (fun j ρ=>∃x6,ρ=[.d (aR R),.d (.lst (R.asks.map fun a=>D.lst ((onL R.n a.one a.other).map fun (t:Nat)=>D.int (t:Int)))),.d (.lst (zs.map .int)),.d (.lst (ws.map fun w=>D.str (wayS w))),.own c (intL R.n fun t=>if t<j then wsum R.n (R.asks.take (k+1)) (zs.take (k+1)) (ws.take (k+1)) t else wsum R.n (R.asks.take k) (zs.take k) (ws.take k) t),.d (.int (k:Int)),x6]) _ ⟨_,by congr⟩ ?_ ?_
  ·
   rintro j ρ hj ⟨x6,rfl⟩ Q g1 g2 g3 g4
   have su:=AV (n:=R.n) (as:=R.asks) (zs:=zs) (ws:=ws) hka hkz hk j
   unfold jw
   walk_at "w"
   refine⟨_,cB hka,rfl,AC _,_,cB hk,?_⟩
   walk_at "w"
   rw[Iq hR hka hj]
   have fin:∀v:Int,v=wsum R.n (R.asks.take (k+1)) (zs.take (k+1)) (ws.take (k+1)) j→(intL R.n fun t=>if t<j then wsum R.n (R.asks.take (k+1)) (zs.take (k+1)) (ws.take (k+1)) t else wsum R.n (R.asks.take k) (zs.take k) (ws.take k) t).set j (.int v)=intL R.n fun t=>if t<j+1 then wsum R.n (R.asks.take (k+1)) (zs.take (k+1)) (ws.take (k+1)) t else wsum R.n (R.asks.take k) (zs.take k) (ws.take k) t:=fun v ev=>by
    rw[Dh]
    refine lO fun t _=>?_
    by_cases e:t=j
    ·
     subst e;simp[ev]
    ·
     by_cases e2:t<j
     ·
      simp[e,e2,show t<j+1 by omega]
     ·
      simp[e,e2,show ¬t<j+1 by omega]
   have same:∀b:Bool,decide (b=true)=b:=fun b=>by cases b<;>rfl
   rw[same]
   by_cases c1:isOn R.n R.asks[k] j=ws[k]
   ·
    rw[if_pos c1]
    rw[if_pos (by rw[c1];exact beq_self_eq_true _)]at su
    refine⟨_,fX hj,_,cB hkz,?_⟩
    walk_at "w"
    refine⟨j,AW hj,?_⟩
    rw[if_neg (Nat.lt_irrefl j)]
    rw[fin _ su.symm]
    exact g1 _ ⟨_,rfl⟩
   ·
    rw[if_neg c1]
    rw[if_neg (by simpa using c1),Int.add_zero]at su
    have ei:(intL R.n fun t=>if t<j then wsum R.n (R.asks.take (k+1)) (zs.take (k+1)) (ws.take (k+1)) t else wsum R.n (R.asks.take k) (zs.take k) (ws.take k) t)=intL R.n fun t=>if t<j+1 then wsum R.n (R.asks.take (k+1)) (zs.take (k+1)) (ws.take (k+1)) t else wsum R.n (R.asks.take k) (zs.take k) (ws.take k) t:=lO fun t ht=>by
     by_cases e:t=j
     ·
      subst e;simp[su]
     ·
      by_cases e2:t<j
      ·
       simp[e2,show t<j+1 by omega]
      ·
       simp[e2,show ¬t<j+1 by omega]
    rw[ei]
    exact g1 _ ⟨_,rfl⟩
  ·
   rintro ρ ⟨x6,rfl⟩
   walk_at "w"
   have ei:(intL R.n fun t=>if t<R.n then wsum R.n (R.asks.take (k+1)) (zs.take (k+1)) (ws.take (k+1)) t else wsum R.n (R.asks.take k) (zs.take k) (ws.take k) t)=intL R.n (wsum R.n (R.asks.take (k+1)) (zs.take (k+1)) (ws.take (k+1))):=lO fun t ht=>by rw[if_pos ht]
   rw[ei]
   exact h1 _ ⟨_,_,rfl⟩
 ·
  rintro ρ ⟨x5,x6,rfl⟩
  rw[List.take_of_length_le (by omega),List.take_of_length_le (by omega),List.take_of_length_le (Nat.le_refl _)]
  walk_at "w"
  exact⟨_,aj (aj (aj (aj aD))),h c⟩
def gC:FS:=fun ls post=>∃(R:Ring),ls=[.d (aR R),.d (onsW R),.d (whlW R)]∧R.Ok∧(∀a∈R.asks,RB 60 a.size)∧R.asks.length≤7∧∀ws:List Bool,ws.length=R.asks.length→(∀vs:List Bool,vs.length=R.asks.length→topW R ws≤topW R vs)→post (.d (frD (topW R ws))) ls
def jz:W Fl:=(wSeq (wSet 5 (wFrz (aC gB (aVal (wVar 0) (aVal (wFrz (aC dP (aVal (wVar 0) (aVal (wVar 1) (aVal (wBin opIx (wVar 2) (wC (.int 0))) (aVal (wVar 4) aNil)))))) (aVal (wBin opIx (wVar 2) (wC (.int 1))) aNil))))))
  (wIf (wOr (aP (wBin ye (wVar 3) (wC .non))) (aP (wBin opLt (wBin a7 (wBin opIx (wVar 5) (wC (.int 0))) (wBin opIx (wVar 3) (wC (.int 1)))) (wBin a7 (wBin opIx (wVar 3) (wC (.int 0))) (wBin opIx (wVar 5) (wC (.int 1))))))) (wSet 3 (wVar 5)) bE))
def iH:W Fl:=(wSeq (wSet 3 (wC .non))
  (wSeq (wFor (wSrc (aC dE (aVal (wFrz (aW bJ (aVal (wBin opIx (wVar 0) (wC (.int 1))) aNil))) aNil))) (aI 4) jz)
  (wRet (fS 3))))
theorem p8:∀ls post,ls.length=3→gC ls post→iH (ls++List.replicate 3 .un) (aL ls post):=by
 rintro ls post - ⟨R,rfl,hR,hT,h6,h⟩
 obtain⟨b0,b1⟩:=A4 hR hT
 unfold iH
 walk_at "w"
 refine⟨_,rfl,h6,fun c1=>?_⟩
 walk_at "w"
 refine fW (enc:=e8) (allW R.asks.length) (fun pre ρ=>∃(x3 x4 x5:L),ρ=[.d (aR R),.d (onsW R),.d (whlW R),x3,x4,x5]∧((pre=[]∧x3=.d .non)∨∃ws:List Bool,ws.length=R.asks.length∧x3=.d (frD (topW R ws))∧∀vs∈pre,topW R ws≤topW R vs)) _ ⟨_,_,_,rfl,.inl ⟨rfl,rfl⟩⟩ ?_ ?_
 ·
  rintro pre vs suf ρ hsp ⟨x3,x4,x5,rfl,hx⟩ Q h1 h2 h3 h4
  have hv:vs.length=R.asks.length:=nM.mp (by rw[hsp];simp)
  unfold jz whlW
  walk_at "w"
  refine⟨R,unsL R,vs,rfl,hR,by simp[unsL,szL],hv,fun c2=>?_⟩
  walk_at "w"
  refine⟨R,_,_,strW R vs,rfl,hR,fun t ht=>Nat.lt_of_lt_of_le (oz hR hT vs t) (Nat.pow_le_pow_right (by decide) (by decide)),b0,b1,fun t ht=>rL hR hT hv t,?_⟩
  rw[D9 hR hT hv]
  walk_at "w"
  have tb:=A6 hR hT hv
  rcases hx with⟨rfl,rfl⟩|⟨ws,hw,rfl,hm⟩
  ·
   walk_at "w"
   exact h1 _ ⟨_,_,_,rfl,.inr ⟨vs,hv,rfl,fun us hu=>by simp at hu;subst hu;exact Rat.le_refl⟩⟩
  ·
   have sb:=A6 hR hT hw
   walk_at "w"
   rw[if_neg (by simp[frD])]
   refine⟨a8 tb.1 (by decide),a8 (by simpa using sb.2) (by decide),a8 sb.1 (by decide),a8 (by simpa using tb.2) (by decide),?_⟩
   by_cases c:topW R vs<topW R ws
   ·
    rw[if_pos ((Rat.lt_iff _ _).mp c)]
    refine h1 _ ⟨_,_,_,rfl,.inr ⟨vs,hv,rfl,fun us hu=>?_⟩⟩
    rcases List.mem_append.mp hu with hu|hu
    ·
     have:=hm us hu
     grind
    ·
     simp at hu;subst hu;exact Rat.le_refl
   ·
    rw[if_neg fun z=>c ((Rat.lt_iff _ _).mpr z)]
    refine h1 _ ⟨_,_,_,rfl,.inr ⟨ws,hw,rfl,fun us hu=>?_⟩⟩
    rcases List.mem_append.mp hu with hu|hu
    ·
     exact hm us hu
    ·
     simp at hu;subst hu;grind
 ·
  rintro ρ ⟨x3,x4,x5,rfl,hx⟩
  rcases hx with⟨e,-⟩|⟨ws,hw,rfl,hm⟩
  ·
   have:=congrArg List.length e
   rw[rM]at this
   have p:0<2^R.asks.length:=Nat.pow_pos (by decide)
   simp at this
  ·
   walk_at "w"
   exact⟨_,aj (aj (aj aD)),h ws hw fun vs hv=>hm vs (nM.mpr hv)⟩
def bR(n:Nat):FS:=fun ls post=>∃d:D,ls=[.d d]∧SmD n d∧cpOk d=true∧∀l,Cp l d→post l ls
theorem uO(ls:List L)(post:L→List L→Prop):¬bR 0 ls post:=by
 rintro⟨d,_,h,_⟩
 exact absurd h.dep (Nat.not_lt_zero _)
abbrev mV:FS:=bR 9
def lx(self:FS):W L:=(aC self (aVal (wVar 0) aNil))
def ly(self:FS):W L:=(aC self (aVal (wVar 0) aNil))
def kd(self:FS):W Fl:=(wSeq (wIf (aP (wUn (i7 "list") (wVar 0))) (wRet (bX 1 [] (wSrc (wVar 0)) (aI 0) bF (ly self))) bE)
  (wSeq (wIf (aP (wUn (i7 "tuple") (wVar 0))) (wRet (Ag (xj 1 [] (wSrc (wVar 0)) (aI 0) bF (lx self)))) bE)
  (wRet (fS 0))))
theorem sN:∀n ls post,ls.length=1→bR (n+1) ls post→kd (bR n) (ls++List.replicate 0 .un) (aL ls post):=by
 rintro n ls post - ⟨d,rfl,hd,hc,h⟩
 unfold kd
 cases d with
 | lst xs =>
  obtain⟨hs,hx⟩:=hd.lst
  have hn:noLs xs=true:=by simpa only[cpOk]using hc
  walk_at "w"
  refine⟨hs,AK xs _ _ (fun x hm Q hq=>?_) fun l a=>?_⟩
  ·
   unfold ly
   walk_at "w"
   exact⟨x,rfl,hx x hm,Bd x (uw hn hm),fun l c=>Ea c hq⟩
  ·
   walk_at "w"
   exact⟨_,aj aD,h _ (.lst hn)⟩
 | tup xs =>
  obtain⟨hs,hx⟩:=hd.tup
  have hn:uu xs=true:=by simpa only[cpOk]using hc
  walk_at "w"
  refine⟨hs,xM xs _ _ (fun x hm Q hq=>?_) fun l ls cs a=>?_⟩
  ·
   unfold lx
   walk_at "w"
   exact⟨x,rfl,hx x hm,uv hn hm,hq⟩
  ·
   rw[List.nil_append]
   walk_at "w"
   exact⟨_,aj aD,h _ (.tup cs)⟩
 | _ =>
  walk_at "w"
  exact⟨_,aj aD,h _ (.d rfl)⟩
def dF:FS:=fun ls post=>∃(ws:List Bool)(n:Nat),ls=[.d (.lst (ws.map fun w=>D.str (wayS w))),.d (.int (n:Int))]∧ws.length=n∧n≤99∧post (.d (.bl true)) ls
def fN:W L:=(jC (wUn (i7 "str") (wVar 0)) (wBin (Cd false) (wVar 0) (wTup (aVal (wC (.str "on")) (aVal (wC (.str "back")) aNil)))))
def eB:W Fl:=(wSeq (wIf (wOr (wNot (aP (wUn (i7 "list") (wVar 0)))) (aP (wBin opNe (aW bJ (aVal (wVar 0) aNil)) (wVar 1)))) (wRet (wC (.bl false))) bE)
  (wRet (aW EY (aVal (wFrz (bX 1 [] (wSrc (wVar 0)) (aI 0) bF fN)) aNil))))
theorem mj:∀ls post,ls.length=2→dF ls post→eB (ls++List.replicate 0 .un) (aL ls post):=by
 rintro ls post - ⟨ws,n,rfl,hl,hn,h⟩
 unfold eB
 walk_at "w"
 rw[if_neg (by omega)]
 refine⟨xF (by omega),a6 (enc:=fun w=>D.str (wayS w)) (h:=fun _=>D.bl true) ws _ _ (fun w hw Q hQ=>?_) fun l c=>?_⟩
 ·
  unfold fN
  walk_at "w"
  rw[Ga,Dq]
  exact⟨by decide,rfl,rfl,hQ⟩
 rw[List.nil_append]
 refine⟨ws.map fun _=>true,by rw[List.map_map];rfl,?_⟩
 walk_at "w"
 rw[show(ws.map fun _=>true).all id=true by simp]
 exact⟨_,aj (aj aD),h⟩
def eV:FS:=fun ls post=>∃(R:Ring)(q:Rat)(ws:List Bool)(t:D),ls=[.d (aR R),.d (onsW R),.d (whlW R),.d (frD q),.d (.tup [frD q,.lst (ws.map fun w=>D.str (wayS w)),t])]∧R.Ok∧(∀a∈R.asks,RB 60 a.size)∧ws.length=R.asks.length∧topW R ws=q∧post (.d (.bl true)) ls
def lz:W L:=(jC (wUn (i7 "int") (wVar 0)) (B7 (aP (wUn (i7 "bool") (wVar 0)))))
def ke:W Fl:=(wSeq (wIf (wOr (wNot (aP (wUn (i7 "tuple") (wVar 4)))) (wOr (aP (wBin opNe (aW bJ (aVal (wVar 4) aNil)) (wC (.int 3)))) (wOr (wNot (aP (wUn (i7 "tuple") (wBin opIx (wVar 4) (wC (.int 0)))))) (aP (wBin opNe (wBin opIx (wVar 4) (wC (.int 0))) (wVar 3)))))) (wRet (wC (.bl false))) bE)
  (wSeq (wIf (wNot (aP (aW EY (aVal (wFrz (bX 1 [] (wSrc (wBin opIx (wVar 4) (wC (.int 0)))) (aI 0) bF lz)) aNil)))) (wRet (wC (.bl false))) bE)
  (wSeq (wIf (wNot (aP (aC dF (aVal (wBin opIx (wVar 4) (wC (.int 1))) (aVal (wFrz (aW bJ (aVal (wBin opIx (wVar 0) (wC (.int 1))) aNil))) aNil))))) (wRet (wC (.bl false))) bE)
  (wRet (wBin opEq (aC gB (aVal (wVar 0) (aVal (wFrz (aC dP (aVal (wVar 0) (aVal (wVar 1) (aVal (wBin opIx (wVar 2) (wC (.int 0))) (aVal (wBin opIx (wVar 4) (wC (.int 1))) aNil)))))) (aVal (wBin opIx (wVar 2) (wC (.int 1))) aNil)))) (wVar 3))))))
theorem sO:∀ls post,ls.length=5→eV ls post→ke (ls++List.replicate 0 .un) (aL ls post):=by
 rintro ls post - ⟨R,q,ws,t,rfl,hR,hT,hw,hq,h⟩
 have few:=hR.few
 obtain⟨b0,b1⟩:=A4 hR hT
 unfold ke
 walk_at "w"
 refine⟨xF (by decide),?_⟩
 rw[show[D.int q.num,D.int (q.den:Int)]=([q.num,(q.den:Int)]:List Int).map D.int from rfl]
 refine a6 (h:=fun _=>D.bl true) _ _ _ (fun i hi Q hQ=>?_) fun l c1=>?_
 ·
  unfold lz
  walk_at "w"
  exact hQ
 rw[List.nil_append]
 refine⟨[true,true],rfl,?_⟩
 walk_at "w"
 refine⟨ws,R.asks.length,rfl,hw,by omega,?_⟩
 walk_at "w"
 unfold whlW
 walk_at "w"
 refine⟨R,unsL R,ws,rfl,hR,by simp[unsL,szL],hw,fun c2=>?_⟩
 walk_at "w"
 refine⟨R,_,_,strW R ws,rfl,hR,fun t ht=>Nat.lt_of_lt_of_le (oz hR hT ws t) (Nat.pow_le_pow_right (by decide) (by decide)),b0,b1,fun t ht=>rL hR hT hw t,?_⟩
 rw[D9 hR hT hw,hq]
 walk_at "w"
 exact⟨_,aj (aj (aj (aj (aj aD)))),by
  unfold whlW at h
  simpa using h⟩
def iI:FS:=fun ls post=>∃(R:Ring)(w:Wish)(T:Tr),ls=[.d (aR R),.d (dY w),.d (trD T)]∧R.Ok∧RB 1750 w.top∧T.Ok R w (List.replicate R.asks.length none)∧T.size≤300∧post (.d (.bl true)) ls
def kf:W Fl:=(wSeq (jD (aC d9 (aVal (wVar 0) (aVal (wVar 1) (aVal (wVar 2) aNil)))))
  (wRet (wC (.bl true))))
theorem sP:∀ls post,ls.length=3→iI ls post→kf (ls++List.replicate 0 .un) (aL ls post):=by
 rintro ls post - ⟨R,w,T,rfl,hR,hq,ht,hs,h⟩
 unfold kf
 walk_at "w"
 refine⟨R,w,T,rfl,hR,hq,ht,hs,?_⟩
 exact⟨_,aj (aj (aj aD)),h⟩
def fs_law:FS:=fun ls post=>∃ns:List Int,ls=[.d (.lst (ns.map .int))]∧ns.length≤63∧post (.d (.bl true)) ls
theorem Bv{ns:List Int}(hl:ns.length≤63):fs_law [.d (.lst (ns.map .int))] (fun r _=>r=.d (.bl true)):=⟨ns,rfl,hl,rfl⟩
def xP:W Fl:=(wRet (aC eV (aVal (wVar 1) (aVal (wVar 2) (aVal (wVar 3) (aVal (wVar 4) (aVal (wFrz (aC eU (aVal (wVar 1) aNil))) aNil)))))))
def Bw:W Fl:=(wSeq (jD (nI 5 (wC (.int 1))))
  xP)
def Bx:W Fl:=(wSeq (jD (nI 5 (wC (.int 0))))
  Bw)
def By:W L:=(wC .non)
def Bz:W Fl:=(wSeq (jD (z5 6 (wC (.int 1)) (wC (.str "on"))))
  Bx)
def BA:W Fl:=(wSeq (wIf (wNot (aP (nc 6 (aC iI (aVal (wVar 1) (aVal (wTup (aVal (wVar 4) (aVal (wC (.bl true)) (aVal (wFrz (bX 1 [] (wSrc (wBin opIx (wVar 1) (wC (.int 1)))) (aI 0) bF By)) (aVal (wC (.int 0)) aNil))))) (aVal (nc 6 (wBin opIx (wVar 6) (wC (.int 2)))) aNil))))))) (wRet (wC (.bl false))) bE)
  Bz)
def BB:W Fl:=(wSeq (wIf (wOr (wNot (aP (nc 6 (aC eV (aVal (wVar 1) (aVal (wVar 2) (aVal (wVar 3) (aVal (wVar 4) (aVal (wVar 6) aNil))))))))) (qq 5 (aP (wBin opNe (wVar 5) (wVar 1))))) (wRet (wC (.bl false))) bE)
  BA)
def BC:W Fl:=(wSeq (wSet 6 (nc 5 (aC eU (aVal (wVar 5) aNil))))
  BB)
def BD:W Fl:=(wSeq (wSet 5 (aC mV (aVal (wVar 1) aNil)))
  BC)
def BE:W L:=(wBin opIx (wVar 0) (wC (.int 3)))
def BF:W Fl:=(wSeq (wSet 4 (wFrz (aC gC (aVal (wVar 1) (aVal (wVar 2) (aVal (wVar 3) aNil))))))
  BD)
def BG:W Fl:=(wSeq (wSet 3 (wFrz (aC ft (aVal (wFrz (bX 1 [] (wSrc (wBin opIx (wVar 1) (wC (.int 1)))) (aI 0) bF BE)) aNil))))
  BF)
def BH:W Fl:=(wSeq (wSet 2 (wFrz (aC mf (aVal (wVar 1) aNil))))
  BG)
def Gq:W Fl:=(wSeq (wSet 1 (wFrz (aC iD (aVal (wVar 0) (aVal (wC (.int 0)) (aVal (wC (.int 7)) (aVal (wC (.int 6)) aNil)))))))
  BH)
theorem Gr:∀ls post,ls.length=1→fs_law ls post→Gq (ls++List.replicate 6 .un) (aL ls post):=by
 rintro ls post - ⟨ns,rfl,hl,h⟩
 unfold Gq
 walk_at "w"
 refine⟨ns,0,7,6,rfl,by decide,by decide,by decide,by decide,fun R hD=>?_⟩
 have hR:=hD.ok
 have few:=hD.few
 have hT1:S61 R:=fun a ha=>(hD.tt a ha).mono (by decide)
 obtain⟨b0,b1⟩:=A4 hR hD.tt
 walk_at "w"
 unfold BH
 walk_at "w"
 refine⟨R,rfl,hR,fun c1=>?_⟩
 walk_at "w"
 unfold BG
 walk_at "w"
 refine⟨Nat.le_trans few (by decide),a6 (enc:=askD) (h:=fun a=>frD a.size) R.asks _ _ (fun a ha Q hQ=>?_) fun l c2=>?_⟩
 ·
  unfold BE
  simp only[askD]at hQ ⊢
  walk_at "w"
  exact hQ
 rw[List.nil_append]
 walk_at "w"
 refine⟨szL R,by rw[szL,List.map_map];rfl,by rw[szL,List.length_map];omega,fun q hq=>?_,?_⟩
 ·
  obtain⟨a,ha,rfl⟩:=List.mem_map.mp hq
  exact hD.tt a ha
 have ew:D.tup [.lst ((szL R).map fun q=>D.int (dn (cbN (szL R)) q)),.int (cbN (szL R):Int)]=whlW R:=by
  unfold whlW unsL
  rw[List.map_map (f:=dn _)]
  rfl
 rw[ew]
 walk_at "w"
 unfold BF
 walk_at "w"
 refine⟨R,rfl,hR,hD.tt,by omega,fun ms hm hmin=>?_⟩
 walk_at "w"
 unfold BD
 walk_at "w"
 refine⟨aR R,rfl,(SmD.ring (by have:=hR.hi;omega) (by omega)).mono (by decide),by simp only[aR,cpOk,uu,nK,uk,Bool.and_self],fun l cl=>?_⟩
 obtain⟨a,b,rfl⟩:=HW cl
 have nr:=nK R.rooms
 have na:=uk R.asks
 walk_at "w"
 unfold BC
 walk_at "w"
 refine⟨R,rfl,hR,hT1,by omega,fun ws T hb ho hz c3=>?_⟩
 have tb:=A8 hR hT1 ws
 have nw:noLs (ws.map fun w=>D.str (wayS w))=true:=eK _ fun _ _=>rfl
 have nt:=qJ T
 have eq:topW R ws=topW R ms:=by
  have h1:=hb.2 ms hm
  have h2:=hmin ws hb.1
  grind
 walk_at "w"
 refine⟨by simp only[nw,nt,Bool.and_self],?_⟩
 rw[eq]at ho ⊢
 unfold BB
 walk_at "w"
 refine⟨na,R,topW R ms,ws,trD T,rfl,hR,hD.tt,hb.1,eq,?_⟩
 walk_at "w"
 have eR:D.tup [.lst (R.rooms.map frD),.lst (R.asks.map askD)]=aR R:=rfl
 rw[eR,Ft hR]
 refine⟨by simp only[nw,nt,Bool.and_self],qw hR,qw hR,?_⟩
 walk_at "w"
 unfold BA
 walk_at "w"
 refine⟨na,Nat.le_trans few (by decide),a6 (enc:=askD) (h:=fun _=>D.non) R.asks _ _ (fun a ha Q hQ=>?_) fun l2 c4=>?_⟩
 ·
  unfold By
  walk_at "w"
  exact hQ
 rw[List.nil_append]
 have eW:D.tup [frD (topW R ms),.bl true,.lst (R.asks.map fun _=>D.non),.int 0]=dY (dJ R (topW R ms)):=by
  unfold dY dJ elD
  rw[List.map_replicate,List.map_const']
  rfl
 rw[eW]
 refine⟨by decide,R,dJ R (topW R ms),T,rfl,hR,by rw[← eq];exact tb.mono (by decide),ho,by omega,?_⟩
 walk_at "w"
 unfold Bz
 walk_at "w"
 have l7:ws.length≤6:=by rw[hb.1];exact few
 refine⟨⟨_,_,rfl,trivial⟩,_,_,rfl,by rw[List.length_map];exact Nat.lt_of_le_of_lt l7 (by decide),?_⟩
 unfold Bx
 walk_at "w"
 refine⟨0,by decide,_,_,rfl,?_⟩
 unfold Bw
 walk_at "w"
 refine⟨1,by decide,_,_,rfl,?_⟩
 unfold xP
 walk_at "w"
 refine⟨R,rfl,hR,hT1,by omega,fun vs T2 hb2 ho2 hz2 c5=>?_⟩
 have eq2:topW R vs=topW R ms:=by
  have h1:=hb2.2 ms hm
  have h2:=hmin vs hb2.1
  grind
 walk_at "w"
 rw[eq2]
 refine⟨R,topW R ms,vs,trD T2,rfl,hR,hD.tt,hb2.1,eq2,?_⟩
 exact⟨_,aj aD,h⟩
structure Tx (K:PySem.W.Frag) (mg:Str→Option Value) (ad:Nat→Addr) (fd:Nat→FuncData):Prop where
 x_greatest_shared:FX K mg "greatest_shared" cT (ad 0) (fd 0) ["one","other"]
 x_least_common:FX K mg "least_common" fb (ad 1) (fd 1) ["one","other"]
 x_is_whole:FX K mg "is_whole" lR (ad 2) (fd 2) ["thing"]
 x_is_number_below:FX K mg "is_number_below" cU (ad 3) (fd 3) ["thing","many"]
 x_are_two_wholes:FX K mg "are_two_wholes" dz (ad 4) (fd 4) ["thing"]
 x_is_told_as:FX K mg "is_told_as" g9 (ad 5) (fd 5) ["thing","word","length"]
 x_lowest:FX K mg "lowest" rP (ad 6) (fd 6) ["top","bottom"]
 x_plus:FX K mg "plus" Bf (ad 7) (fd 7) ["one","other"]
 x_minus:FX K mg "minus" vT (ad 8) (fd 8) ["one","other"]
 x_times:FX K mg "times" vU (ad 9) (fd 9) ["one","other"]
 x_over:FX K mg "over" Bg (ad 10) (fd 10) ["one","other"]
 x_under:FX K mg "under" vV (ad 11) (fd 11) ["one","other"]
 x_sum_of:FX K mg "sum_of" rQ (ad 12) (fd 12) ["some"]
 x_is_cut:FX K mg "is_cut" rR (ad 13) (fd 13) ["ring","thing"]
 x_is_within:FX K mg "is_within" jI (ad 14) (fd 14) ["cut","place"]
 x_parts_places:FX K mg "parts_places" fc (ad 15) (fd 15) ["cut","one","other"]
 x_all_cuts:FX K mg "all_cuts" iU (ad 16) (fd 16) ["ring"]
 x_common_bottom:FX K mg "common_bottom" dZ (ad 17) (fd 17) ["some"]
 x_in_units:FX K mg "in_units" iV (ad 18) (fd 18) ["some","units"]
 x_weighed:FX K mg "weighed" hC (ad 19) (fd 19) ["ring","top"]
 x_other_way:FX K mg "other_way" jJ (ad 20) (fd 20) ["way"]
 x_is_over:FX K mg "is_over" oG (ad 21) (fd 21) ["ring","k","way","tie"]
 x_sent_over:FX K mg "sent_over" jK (ad 22) (fd 22) ["ring","sending","k","tie"]
 x_load_of:FX K mg "load_of" kO (ad 23) (fd 23) ["ring","sending","tie"]
 x_loads_of:FX K mg "loads_of" iW (ad 24) (fd 24) ["ring","sending"]
 x_strains_of:FX K mg "strains_of" eM (ad 25) (fd 25) ["ring","sending"]
 x_top_of:FX K mg "top_of" rS (ad 26) (fd 26) ["ring","sending"]
 x_sent_by:FX K mg "sent_by" kP (ad 27) (fd 27) ["ring","ways"]
 x_top_by:FX K mg "top_by" rT (ad 28) (fd 28) ["ring","ways"]
 x_turned_by:FX K mg "turned_by" fY (ad 29) (fd 29) ["elder","ways"]
 x_is_too_much:FX K mg "is_too_much" fZ (ad 30) (fd 30) ["wish","load","bound"]
 x_are_too_many:FX K mg "are_too_many" ff (ad 31) (fd 31) ["wish","ways"]
 x_is_split:FX K mg "is_split" lT (ad 32) (fd 32) ["thing"]
 x_times_over:FX K mg "times_over" eN (ad 33) (fd 33) ["ring","k","way","cut"]
 x_is_too_full:FX K mg "is_too_full" dN (ad 34) (fd 34) ["ring","wish","scale","fixed","cut"]
 x_can_stand:FX K mg "can_stand" jL (ad 35) (fd 35) ["ring","wish","scale","fixed","thing"]
 x_branch_of:FX K mg "branch_of" jM (ad 36) (fd 36) ["here","way"]
 x_look_at_tree:FX K mg "look_at_tree" c7 (ad 37) (fd 37) ["ring","wish","thing"]
 x_reason_against:FX K mg "reason_against" dA (ad 38) (fd 38) ["wish","bounds","fixed","loads"]
 x_searched:FX K mg "searched" iX (ad 39) (fd 39) ["ring","wish","sizes","bounds","fixed","loads"]
 x_bounds_of:FX K mg "bounds_of" d3 (ad 40) (fd 40) ["ring","scale"]
 x_ways_for:FX K mg "ways_for" iY (ad 41) (fd 41) ["ring","wish"]
 x_wish_for_less:FX K mg "wish_for_less" cD (ad 42) (fd 42) ["ring","top"]
 x_best_ways:FX K mg "best_ways" gb (ad 43) (fd 43) ["ring"]
 x__law_begun:FX K mg "_law_begun" hJ (ad 44) (fd 44) ["_law_script","_law_k"]
 x__law_take:FX K mg "_law_take" jO (ad 45) (fd 45) ["_law_state","_law_many"]
 x__law_names:FX K mg "_law_names" de (ad 46) (fd 46) ["_law_state","_law_many"]
 x__law_low:FX K mg "_law_low" lU (ad 47) (fd 47) ["_law_top_here","_law_bottom"]
 x__law_amount:FX K mg "_law_amount" gf (ad 48) (fd 48) ["_law_state","_law_least_here","_law_kind"]
 x__law_rooms:FX K mg "_law_rooms" hW (ad 49) (fd 49) ["_law_state","_law_ties","_law_kind"]
 x__law_ends:FX K mg "_law_ends" jP (ad 50) (fd 50) ["_law_state","_law_shape","_law_places","_law_k"]
 x__law_ring:FX K mg "_law_ring" jQ (ad 51) (fd 51) ["_law_script","_law_at","_law_most","_law_count"]
 x__law_on:FX K mg "_law_on" oJ (ad 52) (fd 52) ["_law_ring_here"]
 x__law_wholes:FX K mg "_law_wholes" dO (ad 53) (fd 53) ["_law_some"]
 x__law_all_ways:FX K mg "_law_all_ways" bN (ad 54) (fd 54) ["_law_many"]
 x__law_top:FX K mg "_law_top" lV (ad 55) (fd 55) ["_law_ring_here","_law_loads_here","_law_bottom"]
 x__law_loads:FX K mg "_law_loads" eO (ad 56) (fd 56) ["_law_ring_here","_law_on_here","_law_sizes","_law_ways"]
 x__law_least:FX K mg "_law_least" hX (ad 57) (fd 57) ["_law_ring_here","_law_on_here","_law_wholes_here"]
 x__law_copy:FX K mg "_law_copy" d5 (ad 58) (fd 58) ["_law_thing"]
 x__law_are_ways:FX K mg "_law_are_ways" cF (ad 59) (fd 59) ["_law_thing","_law_many"]
 x__law_good:FX K mg "_law_good" gh (ad 60) (fd 60) ["_law_ring_here","_law_on_here","_law_wholes_here","_law_least_here","_law_found"]
 x__law_lets:FX K mg "_law_lets" jS (ad 61) (fd 61) ["_law_ring_here","_law_wish","_law_tree"]
 x_law:FX K mg "law" yI (ad 62) (fd 62) ["_law_script"]
 z_abs:mg "abs"=none
 z_all:mg "all"=none
 z_bool:mg "bool"=none
 z_enumerate:mg "enumerate"=none
 z_int:mg "int"=none
 z_isinstance:mg "isinstance"=none
 z_len:mg "len"=none
 z_list:mg "list"=none
 z_range:mg "range"=none
 z_reversed:mg "reversed"=none
 z_str:mg "str"=none
 z_sum:mg "sum"=none
 z_tuple:mg "tuple"=none
 z_zip:mg "zip"=none
 g_BACK:m8 K mg "BACK" (.str "back")
 g_CUT:m8 K mg "CUT" (.str "cut")
 g_MOST_SEARCHED:m8 K mg "MOST_SEARCHED" (.int 7)
 g_MOST_WALKED:m8 K mg "MOST_WALKED" (.int 300)
 g_NOUGHT:m8 K mg "NOUGHT" (.tup [(.int 0),(.int 1)])
 g_ON:m8 K mg "ON" (.str "on")
 g_SPLIT:m8 K mg "SPLIT" (.str "split")
 g_TURNED:m8 K mg "TURNED" (.str "turned")
section
variable{P:Program}{w:World}{K:PySem.W.Frag}{mg:Str→Option Value}{base:Heap}{ad:Nat→Addr}{fd:Nat→FuncData}
theorem bI:ax lQ ["one","other"] (ak cT):=⟨rfl,rfl,rfl,by decide +kernel,rfl,by decide +kernel,by decide +kernel⟩
theorem eX(T:Tx K mg ad fd):FnOk P w K mg base CX0 1 (ad 0) (fd 0) ["one","other"] (spF K 2 bH) :=
 aT (k:=0) T.x_greatest_shared.f bI cV (fun cdv A outer s H E hr=>(ai (fT PassesOwn.never (pbc (pM hr.units) (ae 1) ag (aH _)) (ai (av (i:=2) bI.nd rfl (by walk_at "o") (ar cy (ae 0) (ae 1)))
  (ai (av (i:=0) bI.nd rfl (by walk_at "o") (ae 1))
  (ao (av (i:=1) bI.nd rfl (by walk_at "o") (ae 2))))))
  (ao (az (aG zr rfl T.z_abs (by decide +kernel) (af (ae 0) ah))))))
  jU
theorem pj:ax pT ["one","other"] (ak fb):=⟨rfl,rfl,rfl,by decide +kernel,rfl,by decide +kernel,by decide +kernel⟩
theorem pk(T:Tx K mg ad fd):FnOk P w K mg base CX0 2 (ad 1) (fd 1) ["one","other"] (spF K 2 d6) :=
 aT (k:=1) T.x_least_common.f pj fg (fun cdv A outer s H E hr=>(ao (az (ar aQ (ar gS (ae 0) (aE (eX T) T.x_greatest_shared hr (af (ae 0) (af (ae 1) ah)))) (ae 1)))))
  nu
theorem wx:ax yE ["thing"] (ak lR):=⟨rfl,rfl,rfl,by decide +kernel,rfl,by decide +kernel,by decide +kernel⟩
theorem kg(T:Tx K mg ad fd):FnOk P w K mg base CX0 1 (ad 2) (fd 2) ["thing"] (spF K 1 d7) :=
 aT (k:=0) T.x_is_whole.f wx iZ (fun cdv A outer s H E hr=>(ao (az (fA (fB zy rfl T.z_isinstance rfl T.z_int (by decide +kernel) (ae 0)) (gQ (DW (fB wX rfl T.z_isinstance rfl T.z_bool (by decide +kernel) (ae 0))))))))
  uE
theorem lA:ax lS ["thing","many"] (ak cU):=⟨rfl,rfl,rfl,by decide +kernel,rfl,by decide +kernel,by decide +kernel⟩
theorem lB(T:Tx K mg ad fd):FnOk P w K mg base CX0 2 (ad 3) (fd 3) ["thing","many"] (spF K 2 cG) :=
 aT (k:=1) T.x_is_number_below.f lA cW (fun cdv A outer s H E hr=>(ao (az (fA (aE (kg T) T.x_is_whole hr (af (ae 0) ah)) (gQ (xa Hf He ag (ae 0) (ae 1)))))))
  jV
theorem ml:ax nk ["thing"] (ak dz):=⟨rfl,rfl,rfl,by decide +kernel,rfl,by decide +kernel,by decide +kernel⟩
theorem mn(T:Tx K mg ad fd):FnOk P w K mg base CX0 2 (ad 4) (fd 4) ["thing"] (spF K 1 cX) :=
 aT (k:=1) T.x_are_two_wholes.f ml cg (fun cdv A outer s H E hr=>(ao (az (fA (fB gU rfl T.z_isinstance rfl T.z_tuple (by decide +kernel) (ae 0)) (fA (cw (eY hr.units) (aG bz rfl T.z_len (by decide +kernel) (af (ae 0) ah)) ag (aH _)) (fA (aE (kg T) T.x_is_whole hr (af (aq (ae 0) ag (fun _ _=>rfl)) ah)) (gQ (aE (kg T) T.x_is_whole hr (af (aq (ae 0) ag (fun _ _=>rfl)) ah)))))))))
  kS
theorem sQ:ax uy ["thing","word","length"] (ak g9):=⟨rfl,rfl,rfl,by decide +kernel,rfl,by decide +kernel,by decide +kernel⟩
theorem gD(T:Tx K mg ad fd):FnOk P w K mg base CX0 1 (ad 5) (fd 5) ["thing","word","length"] (spF K 3 cH) :=
 aT (k:=0) T.x_is_told_as.f sQ ib (fun cdv A outer s H E hr=>(ai (bL (PBw.pb (mz (kq (bG (fB gU rfl T.z_isinstance rfl T.z_tuple (by decide +kernel) (ae 0)))) (lG (pbc (pM hr.units) (aG bz rfl T.z_len (by decide +kernel) (af (ae 0) ah)) (ae 2) (aH _))))) (ao (az nU)) aN)
  (ao (az (fA (fB zz rfl T.z_isinstance rfl T.z_str (by decide +kernel) (aq (ae 0) ag (fun _ _=>rfl))) (gQ (cw (eY hr.units) (aq (ae 0) ag (fun _ _=>rfl)) (ae 1) (aH _))))))))
  pW
theorem pA:ax Dt ["top","bottom"] (ak rP):=⟨rfl,rfl,rfl,by decide +kernel,rfl,by decide +kernel,by decide +kernel⟩
theorem lC(T:Tx K mg ad fd):FnOk P w K mg base CX0 2 (ad 6) (fd 6) ["top","bottom"] (spF K 2 fE) :=
 aT (k:=1) T.x_lowest.f pA rX (fun cdv A outer s H E hr=>(ai (av (i:=2) pA.nd rfl (by walk_at "o") (au (aE (eX T) T.x_greatest_shared hr (af (ae 0) (af (ae 1) ah)))))
  (ai (bL (pbc qV (ae 1) ag (aH _)) (ao (av (i:=2) pA.nd rfl (by walk_at "o") (zg (ae 2)))) aN)
  (ao (az (bu (af (ar gS (ae 0) (ae 2)) (af (ar gS (ae 1) (ae 2)) ah))))))))
  yJ
theorem Gs:ax Ij ["one","other"] (ak Bf):=⟨rfl,rfl,rfl,by decide +kernel,rfl,by decide +kernel,by decide +kernel⟩
theorem Gu(T:Tx K mg ad fd):FnOk P w K mg base CX0 3 (ad 7) (fd 7) ["one","other"] (spF K 2 wa) :=
 aT (k:=2) T.x_plus.f Gs Bk (fun cdv A outer s H E hr=>(ao (az (aE (lC T) T.x_lowest hr (af (au (ar bf (ar aQ (aq (ae 0) ag (fun _ _=>rfl)) (aq (ae 1) ag (fun _ _=>rfl))) (ar aQ (aq (ae 1) ag (fun _ _=>rfl)) (aq (ae 0) ag (fun _ _=>rfl))))) (af (au (ar aQ (aq (ae 0) ag (fun _ _=>rfl)) (aq (ae 1) ag (fun _ _=>rfl)))) ah))))))
  Dy
theorem DE:ax Ge ["one","other"] (ak vT):=⟨rfl,rfl,rfl,by decide +kernel,rfl,by decide +kernel,by decide +kernel⟩
theorem DF(T:Tx K mg ad fd):FnOk P w K mg base CX0 3 (ad 8) (fd 8) ["one","other"] (spF K 2 nN) :=
 aT (k:=2) T.x_minus.f DE wb (fun cdv A outer s H E hr=>(ao (az (aE (lC T) T.x_lowest hr (af (ar gJ (ar aQ (aq (ae 0) ag (fun _ _=>rfl)) (aq (ae 1) ag (fun _ _=>rfl))) (ar aQ (aq (ae 1) ag (fun _ _=>rfl)) (aq (ae 0) ag (fun _ _=>rfl)))) (af (au (ar aQ (aq (ae 0) ag (fun _ _=>rfl)) (aq (ae 1) ag (fun _ _=>rfl)))) ah))))))
  Bl
theorem DG:ax Gf ["one","other"] (ak vU):=⟨rfl,rfl,rfl,by decide +kernel,rfl,by decide +kernel,by decide +kernel⟩
theorem DH(T:Tx K mg ad fd):FnOk P w K mg base CX0 3 (ad 9) (fd 9) ["one","other"] (spF K 2 rY) :=
 aT (k:=2) T.x_times.f DG wd (fun cdv A outer s H E hr=>(ao (az (aE (lC T) T.x_lowest hr (af (au (ar aQ (aq (ae 0) ag (fun _ _=>rfl)) (aq (ae 1) ag (fun _ _=>rfl)))) (af (au (ar aQ (aq (ae 0) ag (fun _ _=>rfl)) (aq (ae 1) ag (fun _ _=>rfl)))) ah))))))
  Bn
theorem Gv:ax Ik ["one","other"] (ak Bg):=⟨rfl,rfl,rfl,by decide +kernel,rfl,by decide +kernel,by decide +kernel⟩
theorem Gw(T:Tx K mg ad fd):FnOk P w K mg base CX0 3 (ad 10) (fd 10) ["one","other"] (spF K 2 we) :=
 aT (k:=2) T.x_over.f Gv Bo (fun cdv A outer s H E hr=>(ai (bL (pbc (eY hr.units) (aq (ae 1) ag (fun _ _=>rfl)) ag (aH _)) (ao qU) aN)
  (ao (az (aE (lC T) T.x_lowest hr (af (au (ar aQ (aq (ae 0) ag (fun _ _=>rfl)) (aq (ae 1) ag (fun _ _=>rfl)))) (af (au (ar aQ (aq (ae 0) ag (fun _ _=>rfl)) (aq (ae 1) ag (fun _ _=>rfl)))) ah)))))))
  Dz
theorem DI:ax Gg ["one","other"] (ak vV):=⟨rfl,rfl,rfl,by decide +kernel,rfl,by decide +kernel,by decide +kernel⟩
theorem DJ(T:Tx K mg ad fd):FnOk P w K mg base CX0 1 (ad 11) (fd 11) ["one","other"] (spF K 2 rZ) :=
 aT (k:=0) T.x_under.f DI wg (fun cdv A outer s H E hr=>(ao (az (cw qV (ar aQ (aq (ae 0) ag (fun _ _=>rfl)) (aq (ae 1) ag (fun _ _=>rfl))) (ar aQ (aq (ae 1) ag (fun _ _=>rfl)) (aq (ae 0) ag (fun _ _=>rfl))) (aH _)))))
  Bp
theorem lD:ax Du ["some"] (ak rQ):=⟨rfl,rfl,rfl,by decide +kernel,rfl,by decide +kernel,by decide +kernel⟩
theorem BI(T:Tx K mg ad fd):FnOk P w K mg base CX0 4 (ad 12) (fd 12) ["some"] (spF K 1 oM) :=
 aT (k:=3) T.x_sum_of.f lD r6 (fun cdv A outer s H E hr=>(ai (av (i:=1) lD.nd rfl (by walk_at "o") (pl_G T.g_NOUGHT rfl))
  (ai (dG PassesOwn.never rfl (aY (ae 0)) (dj (i:=2) lD.nd rfl (by walk_at "o")) (ao (av (i:=1) lD.nd rfl (by walk_at "o") (aE (Gu T) T.x_plus hr (af (ae 1) (af (ae 2) ah))))))
  (ao (az (bW 1))))))
  yK
theorem BJ:ax Dv ["ring","thing"] (ak rR):=⟨rfl,rfl,rfl,by decide +kernel,rfl,by decide +kernel,by decide +kernel⟩
theorem BK(T:Tx K mg ad fd):FnOk P w K mg base CX0 3 (ad 13) (fd 13) ["ring","thing"] (spF K 2 oO) :=
 aT (k:=2) T.x_is_cut.f BJ sf (fun cdv A outer s H E hr=>(ao (az (fA (aE (mn T) T.x_are_two_wholes hr (af (ae 1) ah)) (gQ (zU ag (tX.cons G4 (aq (ae 1) ag (fun _ _=>rfl)) (tX.cons G4 (aq (ae 1) ag (fun _ _=>rfl)) (tX.one qV (aG bz rfl T.z_len (by decide +kernel) (af (aq (ae 0) ag (fun _ _=>rfl)) ah)))))))))))
  yL
theorem uP:ax vW ["cut","place"] (ak jI):=⟨rfl,rfl,rfl,by decide +kernel,rfl,by decide +kernel,by decide +kernel⟩
theorem mW(T:Tx K mg ad fd):FnOk P w K mg base CX0 1 (ad 14) (fd 14) ["cut","place"] (spF K 2 eP) :=
 aT (k:=0) T.x_is_within.f uP jW (fun cdv A outer s H E hr=>(ao (az (xa He Hf (aq (ae 0) ag (fun _ _=>rfl)) (ae 1) (aq (ae 0) ag (fun _ _=>rfl))))))
  si
theorem pB:ax pU ["cut","one","other"] (ak fc):=⟨rfl,rfl,rfl,by decide +kernel,rfl,by decide +kernel,by decide +kernel⟩
theorem iJ(T:Tx K mg ad fd):FnOk P w K mg base CX0 2 (ad 15) (fd 15) ["cut","one","other"] (spF K 3 cI) :=
 aT (k:=1) T.x_parts_places.f pB fh (fun cdv A outer s H E hr=>(ao (az (cw (pM hr.units) (aE (mW T) T.x_is_within hr (af (ae 0) (af (ae 1) ah))) (aE (mW T) T.x_is_within hr (af (ae 0) (af (ae 2) ah))) (aH _)))))
  nv
theorem ki:ax qD ["ring"] (ak iU):=⟨rfl,rfl,rfl,by decide +kernel,rfl,by decide +kernel,by decide +kernel⟩
theorem wy(T:Tx K mg ad fd):FnOk P w K mg base CX0 1 (ad 16) (fd 16) ["ring"] (spF K 1 jX) :=
 aT (k:=0) T.x_all_cuts.f ki lW (fun cdv A outer s H E hr=>(ai (av (i:=1) ki.nd rfl (by walk_at "o") (b6 ah))
  (ai (dG PassesOwn.never rfl (cx rfl T.z_range (aG bz rfl T.z_len (by decide +kernel) (af (aq (ae 0) ag (fun _ _=>rfl)) ah))) (dj (i:=2) ki.nd rfl (by walk_at "o")) (ao (cQ (zM 1 (ba (sc:=(ak iU)) (N:=qD) (Nt:=["h"]) (Nf:=["g"]) (fi:=[2]) rfl rfl rfl (Ca rfl T.z_range (ae 2) (aG bz rfl T.z_len (by decide +kernel) (af (aq (ae 0) ag (fun _ _=>rfl)) ah))) rfl (by decide +kernel) (by decide +kernel) (by decide +kernel) (by decide) rfl (by decide +kernel) (by decide) (fun _ _ _ _=>(a9 (by decide) (show((["h"]:List Str)++(["g"]:List Str)).Nodup by decide +kernel) rfl (Or.inl rfl))) (fun _ _ _ _=>aX) (fun _ _ _ _=>(bu (af (ae 1) (af (ae 0) ah)))))))))
  (ao (az (bW 1))))))
  uF
theorem cj:ax oE ["some"] (ak dZ):=⟨rfl,rfl,rfl,by decide +kernel,rfl,by decide +kernel,by decide +kernel⟩
theorem nA(T:Tx K mg ad fd):FnOk P w K mg base CX0 3 (ad 17) (fd 17) ["some"] (spF K 1 dB) :=
 aT (k:=2) T.x_common_bottom.f cj d8 (fun cdv A outer s H E hr=>(ai (av (i:=1) cj.nd rfl (by walk_at "o") ag)
  (ai (dG PassesOwn.never rfl (aY (ae 0)) (dj (i:=2) cj.nd rfl (by walk_at "o")) (ao (av (i:=1) cj.nd rfl (by walk_at "o") (aE (pk T) T.x_least_common hr (af (ae 1) (af (aq (ae 2) ag (fun _ _=>rfl)) ah))))))
  (ao (az (bW 1))))))
  lX
theorem wz:ax qE ["some","units"] (ak iV):=⟨rfl,rfl,rfl,by decide +kernel,rfl,by decide +kernel,by decide +kernel⟩
theorem pC(T:Tx K mg ad fd):FnOk P w K mg base CX0 1 (ad 18) (fd 18) ["some","units"] (spF K 2 gi) :=
 aT (k:=0) T.x_in_units.f wz lY (fun cdv A outer s H E hr=>(ao (az (ba (sc:=(ak iV)) (N:=qE) (Nt:=["one"]) (Nf:=["units"]) (fi:=[1]) rfl rfl rfl (aY (ae 0)) rfl (by decide +kernel) (by decide +kernel) (by decide +kernel) (by decide) rfl (by decide +kernel) (by decide) (fun _ _ _ _=>(a9 (by decide) (show((["one"]:List Str)++(["units"]:List Str)).Nodup by decide +kernel) rfl (Or.inl rfl))) (fun _ _ _ _=>aX) (fun _ _ _ _=>(ar aQ (aq (ae 0) ag (fun _ _=>rfl)) (ar gS (ae 1) (aq (ae 0) ag (fun _ _=>rfl)))))))))
  uG
theorem i4:ax oF ["ring","top"] (ak hC):=⟨rfl,rfl,rfl,by decide +kernel,rfl,by decide +kernel,by decide +kernel⟩
theorem qK(T:Tx K mg ad fd):FnOk P w K mg base CX0 4 (ad 19) (fd 19) ["ring","top"] (spF K 2 i3) :=
 aT (k:=3) T.x_weighed.f i4 oR (fun cdv A outer s H E hr=>(ai (n6 i4.nd (j:=2) rfl (by walk_at "o") (sc:=(ak hC)) (N:=oF) (Nt:=["ask"]) (Nf:=[]) (fi:=[]) rfl rfl rfl (aY (aq (ae 0) ag (fun _ _=>rfl))) rfl (by decide +kernel) (by decide +kernel) (by decide +kernel) (by decide) rfl (by decide +kernel) (by decide) (fun _ _ _ _=>(a9 (by decide) (show((["ask"]:List Str)++([]:List Str)).Nodup by decide +kernel) rfl (Or.inl rfl))) (fun _ _ _ _=>aX) (fun _ _ _ _=>(aq (ae 0) ag (fun _ _=>rfl))))
  (ai (n6 i4.nd (j:=3) rfl (by walk_at "o") (sc:=(ak hC)) (N:=oF) (Nt:=["room"]) (Nf:=["top"]) (fi:=[1]) rfl rfl rfl (aY (aq (ae 0) ag (fun _ _=>rfl))) rfl (by decide +kernel) (by decide +kernel) (by decide +kernel) (by decide) rfl (by decide +kernel) (by decide) (fun _ _ _ _=>(a9 (by decide) (show((["room"]:List Str)++(["top"]:List Str)).Nodup by decide +kernel) rfl (Or.inl rfl))) (fun _ _ _ _=>aX) (fun _ _ _ _=>(aE (DH T) T.x_times hr (af (ae 1) (af (ae 0) ah)))))
  (ai (av (i:=4) i4.nd rfl (by walk_at "o") (au (ar aQ ag (aE (nA T) T.x_common_bottom hr (af (au (ar bf (ae 2) (ae 3))) ah)))))
  (ao (az (bu (af (ae 4) (af (au (aE (pC T) T.x_in_units hr (af (ae 2) (af (ae 4) ah)))) (af (au (aE (pC T) T.x_in_units hr (af (ae 3) (af (ae 4) ah)))) ah))))))))))
  wj
theorem uQ:ax vX ["way"] (ak jJ):=⟨rfl,rfl,rfl,by decide +kernel,rfl,by decide +kernel,by decide +kernel⟩
theorem uR(T:Tx K mg ad fd):FnOk P w K mg base CX0 1 (ad 20) (fd 20) ["way"] (spF K 1 ie) :=
 aT (k:=0) T.x_other_way.f uQ jY (fun cdv A outer s H E hr=>(ao (az (qj (pbc (eY hr.units) (ae 0) (pl_G T.g_ON rfl) (aH _)) (pl_G T.g_BACK rfl) (pl_G T.g_ON rfl)))))
  sj
theorem fO:ax Bh ["ring","k","way","tie"] (ak oG):=⟨rfl,rfl,rfl,by decide +kernel,rfl,by decide +kernel,by decide +kernel⟩
theorem mq(T:Tx K mg ad fd):FnOk P w K mg base CX0 1 (ad 21) (fd 21) ["ring","k","way","tie"] (spF K 4 fH) :=
 aT (k:=0) T.x_is_over.f fO oW (fun cdv A outer s H E hr=>(ai (av (i:=4) fO.nd rfl (by walk_at "o") (au (aG bz rfl T.z_len (by decide +kernel) (af (aq (ae 0) ag (fun _ _=>rfl)) ah))))
  (ai (av (i:=5) fO.nd rfl (by walk_at "o") (aq (aq (aq (ae 0) ag (fun _ _=>rfl)) (ae 1) (fun _ _=>rfl)) ag (fun _ _=>rfl)))
  (ai (av (i:=6) fO.nd rfl (by walk_at "o") (aq (aq (aq (ae 0) ag (fun _ _=>rfl)) (ae 1) (fun _ _=>rfl)) ag (fun _ _=>rfl)))
  (ai (av (i:=7) fO.nd rfl (by walk_at "o") (cw qV (ar cy (ar gJ (ae 3) (ae 5)) (ae 4)) (ar cy (ar gJ (ae 6) (ae 5)) (ae 4)) (aH _)))
  (ao (az (cw (eY hr.units) (ae 7) (cw (eY hr.units) (ae 2) (pl_G T.g_ON rfl) (aH _)) (aH _)))))))))
  wk
theorem uS:ax vY ["ring","sending","k","tie"] (ak jK):=⟨rfl,rfl,rfl,by decide +kernel,rfl,by decide +kernel,by decide +kernel⟩
theorem uT(T:Tx K mg ad fd):FnOk P w K mg base CX0 4 (ad 22) (fd 22) ["ring","sending","k","tie"] (spF K 4 ig) :=
 aT (k:=3) T.x_sent_over.f uS jZ (fun cdv A outer s H E hr=>(ai (bL (bG (aE (mq T) T.x_is_over hr (af (ae 0) (af (ae 2) (af (pl_G T.g_ON rfl) (af (ae 3) ah)))))) (ao (az (aq (ae 1) (ae 2) (fun _ _=>rfl)))) aN)
  (ao (az (aE (DF T) T.x_minus hr (af (aq (aq (aq (ae 0) ag (fun _ _=>rfl)) (ae 2) (fun _ _=>rfl)) ag (fun _ _=>rfl)) (af (aq (ae 1) (ae 2) (fun _ _=>rfl)) ah)))))))
  sk
theorem yP:ax uz ["ring","sending","tie"] (ak kO):=⟨rfl,rfl,rfl,by decide +kernel,rfl,by decide +kernel,by decide +kernel⟩
theorem yQ(T:Tx K mg ad fd):FnOk P w K mg base CX0 5 (ad 23) (fd 23) ["ring","sending","tie"] (spF K 3 lZ) :=
 aT (k:=4) T.x_load_of.f yP oY (fun cdv A outer s H E hr=>(ao (az (aE (BI T) T.x_sum_of hr (af (au (ba (sc:=(ak kO)) (N:=uz) (Nt:=["k"]) (Nf:=["ring","sending","tie"]) (fi:=[0,1,2]) rfl rfl rfl (cx rfl T.z_range (aG bz rfl T.z_len (by decide +kernel) (af (aq (ae 0) ag (fun _ _=>rfl)) ah))) rfl (by decide +kernel) (by decide +kernel) (by decide +kernel) (by decide) rfl (by decide +kernel) (by decide) (fun _ _ _ _=>(a9 (by decide) (show((["k"]:List Str)++(["ring","sending","tie"]:List Str)).Nodup by decide +kernel) rfl (Or.inl rfl))) (fun _ _ _ _=>aX) (fun _ _ _ _=>(aE (uT T) T.x_sent_over hr (af (ae 1) (af (ae 2) (af (ae 0) (af (ae 3) ah)))))))) ah)))))
  wm
theorem wA:ax qF ["ring","sending"] (ak iW):=⟨rfl,rfl,rfl,by decide +kernel,rfl,by decide +kernel,by decide +kernel⟩
theorem wB(T:Tx K mg ad fd):FnOk P w K mg base CX0 6 (ad 24) (fd 24) ["ring","sending"] (spF K 2 j2) :=
 aT (k:=5) T.x_loads_of.f wA l4 (fun cdv A outer s H E hr=>(ao (az (ba (sc:=(ak iW)) (N:=qF) (Nt:=["tie"]) (Nf:=["ring","sending"]) (fi:=[0,1]) rfl rfl rfl (cx rfl T.z_range (aG bz rfl T.z_len (by decide +kernel) (af (aq (ae 0) ag (fun _ _=>rfl)) ah))) rfl (by decide +kernel) (by decide +kernel) (by decide +kernel) (by decide) rfl (by decide +kernel) (by decide) (fun _ _ _ _=>(a9 (by decide) (show((["tie"]:List Str)++(["ring","sending"]:List Str)).Nodup by decide +kernel) rfl (Or.inl rfl))) (fun _ _ _ _=>aX) (fun _ _ _ _=>(aE (yQ T) T.x_load_of hr (af (ae 1) (af (ae 2) (af (ae 0) ah)))))))))
  uH
theorem sR:ax mF ["ring","sending"] (ak eM):=⟨rfl,rfl,rfl,by decide +kernel,rfl,by decide +kernel,by decide +kernel⟩
theorem sS(T:Tx K mg ad fd):FnOk P w K mg base CX0 7 (ad 25) (fd 25) ["ring","sending"] (spF K 2 gj) :=
 aT (k:=6) T.x_strains_of.f sR ij (fun cdv A outer s H E hr=>(ao (az (ba (sc:=(ak eM)) (N:=mF) (Nt:=["load","room"]) (Nf:=[]) (fi:=[]) rfl rfl rfl (zL rfl T.z_zip (aE (wB T) T.x_loads_of hr (af (ae 0) (af (ae 1) ah))) (aq (ae 0) ag (fun _ _=>rfl))) rfl (by decide +kernel) (by decide +kernel) (by decide +kernel) (by decide) rfl (by decide +kernel) (by decide) (fun _ _ _ _=>(qn rfl (cf (i:=0) (by decide) (show((["load","room"]:List Str)++([]:List Str)).Nodup by decide +kernel) rfl (Or.inl rfl) (cf (i:=1) (by decide) (show((["load","room"]:List Str)++([]:List Str)).Nodup by decide +kernel) rfl (Or.inl rfl) lK)))) (fun _ _ _ _=>aX) (fun _ _ _ _=>(aE (Gw T) T.x_over hr (af (ae 0) (af (ae 1) ah))))))))
  pX
theorem fP:ax Dw ["ring","sending"] (ak rS):=⟨rfl,rfl,rfl,by decide +kernel,rfl,by decide +kernel,by decide +kernel⟩
theorem BL(T:Tx K mg ad fd):FnOk P w K mg base CX0 8 (ad 26) (fd 26) ["ring","sending"] (spF K 2 oZ) :=
 aT (k:=7) T.x_top_of.f fP sr (fun cdv A outer s H E hr=>(ai (av (i:=2) fP.nd rfl (by walk_at "o") (au (aE (sS T) T.x_strains_of hr (af (ae 0) (af (ae 1) ah)))))
  (ai (av (i:=3) fP.nd rfl (by walk_at "o") ag)
  (ai (dG PassesOwn.never rfl (nG rfl T.z_enumerate (ae 2)) (tJ rfl (b9 (i:=4) fP.nd rfl (by walk_at "o") (b9 (i:=5) fP.nd rfl (by walk_at "o") nX))) (ao (bL (bG (aE (DJ T) T.x_under hr (af (aq (ae 2) (ae 3) (fun _ _=>rfl)) (af (ae 5) ah)))) (ao (av (i:=3) fP.nd rfl (by walk_at "o") (ae 4))) aN)))
  (ao (az (bu (af (aq (ae 2) (ae 3) (fun _ _=>rfl)) (af (ae 3) ah)))))))))
  yN
theorem yR:ax uA ["ring","ways"] (ak kP):=⟨rfl,rfl,rfl,by decide +kernel,rfl,by decide +kernel,by decide +kernel⟩
theorem yS(T:Tx K mg ad fd):FnOk P w K mg base CX0 1 (ad 27) (fd 27) ["ring","ways"] (spF K 2 l5) :=
 aT (k:=0) T.x_sent_by.f yR o4 (fun cdv A outer s H E hr=>(ao (az (ba (sc:=(ak kP)) (N:=uA) (Nt:=["ask","way"]) (Nf:=[]) (fi:=[]) rfl rfl rfl (zL rfl T.z_zip (aq (ae 0) ag (fun _ _=>rfl)) (ae 1)) rfl (by decide +kernel) (by decide +kernel) (by decide +kernel) (by decide) rfl (by decide +kernel) (by decide) (fun _ _ _ _=>(qn rfl (cf (i:=0) (by decide) (show((["ask","way"]:List Str)++([]:List Str)).Nodup by decide +kernel) rfl (Or.inl rfl) (cf (i:=1) (by decide) (show((["ask","way"]:List Str)++([]:List Str)).Nodup by decide +kernel) rfl (Or.inl rfl) lK)))) (fun _ _ _ _=>aX) (fun _ _ _ _=>(qj (pbc (eY hr.units) (ae 1) (pl_G T.g_ON rfl) (aH _)) (aq (ae 0) ag (fun _ _=>rfl)) (pl_G T.g_NOUGHT rfl)))))))
  wo
theorem BM:ax Dx ["ring","ways"] (ak rT):=⟨rfl,rfl,rfl,by decide +kernel,rfl,by decide +kernel,by decide +kernel⟩
theorem BN(T:Tx K mg ad fd):FnOk P w K mg base CX0 9 (ad 28) (fd 28) ["ring","ways"] (spF K 2 o5) :=
 aT (k:=8) T.x_top_by.f BM sx (fun cdv A outer s H E hr=>(ao (az (aq (aE (BL T) T.x_top_of hr (af (ae 0) (af (au (aE (yS T) T.x_sent_by hr (af (ae 0) (af (ae 1) ah)))) ah))) ag (fun _ _=>rfl)))))
  yO
theorem mX:ax oH ["elder","ways"] (ak fY):=⟨rfl,rfl,rfl,by decide +kernel,rfl,by decide +kernel,by decide +kernel⟩
theorem uU(T:Tx K mg ad fd):FnOk P w K mg base CX0 2 (ad 29) (fd 29) ["elder","ways"] (spF K 2 ik) :=
 aT (k:=1) T.x_turned_by.f mX j3 (fun cdv A outer s H E hr=>(ai (av (i:=2) mX.nd rfl (by walk_at "o") (au (qv rfl T.z_list rfl T.z_zip rfl (af (ae 0) (af (ae 1) ah)))))
  (ao (az (ba (sc:=(ak fY)) (N:=oH) (Nt:=["k","pair"]) (Nf:=[]) (fi:=[]) rfl rfl rfl (nG rfl T.z_enumerate (ae 2)) rfl (by decide +kernel) (by decide +kernel) (by decide +kernel) (by decide) rfl (by decide +kernel) (by decide) (fun _ _ _ _=>(qn rfl (cf (i:=0) (by decide) (show((["k","pair"]:List Str)++([]:List Str)).Nodup by decide +kernel) rfl (Or.inl rfl) (cf (i:=1) (by decide) (show((["k","pair"]:List Str)++([]:List Str)).Nodup by decide +kernel) rfl (Or.inl rfl) lK)))) (fun _ _ _ _=>(zw (PBw.pb (Ez (pbc w4 (aq (ae 1) ag (fun _ _=>rfl)) i9 (aH _)) (B6 (pbc (eY hr.units) (aq (ae 1) ag (fun _ _=>rfl)) (aE (uR T) T.x_other_way hr (af (aq (ae 1) ag (fun _ _=>rfl)) ah)) (aH _))))))) (fun _ _ _ _=>(ae 0)))))))
  sy
theorem p9:ax rV ["wish","load","bound"] (ak fZ):=⟨rfl,rfl,rfl,by decide +kernel,rfl,by decide +kernel,by decide +kernel⟩
theorem jA(T:Tx K mg ad fd):FnOk P w K mg base CX0 1 (ad 30) (fd 30) ["wish","load","bound"] (spF K 3 c8) :=
 aT (k:=0) T.x_is_too_much.f p9 gk (fun cdv A outer s H E hr=>(ao (az (IM (cw yb (ae 1) (ae 2) (aH _)) (gQ (fA (aq (ae 0) ag (fun _ _=>rfl)) (gQ (cw (eY hr.units) (ae 1) (ae 2) (aH _)))))))))
  o6
theorem pD:ax pV ["wish","ways"] (ak ff):=⟨rfl,rfl,rfl,by decide +kernel,rfl,by decide +kernel,by decide +kernel⟩
theorem iK(T:Tx K mg ad fd):FnOk P w K mg base CX0 3 (ad 31) (fd 31) ["wish","ways"] (spF K 2 cJ) :=
 aT (k:=2) T.x_are_too_many.f pD fj (fun cdv A outer s H E hr=>(ao (az (cw yb (aG bz rfl T.z_len (by decide +kernel) (af (au (aE (uU T) T.x_turned_by hr (af (aq (ae 0) ag (fun _ _=>rfl)) (af (ae 1) ah)))) ah)) (aq (ae 0) ag (fun _ _=>rfl)) (aH _)))))
  ny
theorem wD:ax yF ["thing"] (ak lT):=⟨rfl,rfl,rfl,by decide +kernel,rfl,by decide +kernel,by decide +kernel⟩
theorem pE(T:Tx K mg ad fd):FnOk P w K mg base CX0 2 (ad 32) (fd 32) ["thing"] (spF K 1 gm) :=
 aT (k:=1) T.x_is_split.f wD l6 (fun cdv A outer s H E hr=>(ao (az (aE (gD T) T.x_is_told_as hr (af (ae 0) (af (pl_G T.g_SPLIT rfl) (af ag ah)))))))
  uI
theorem sT:ax mG ["ring","k","way","cut"] (ak eN):=⟨rfl,rfl,rfl,by decide +kernel,rfl,by decide +kernel,by decide +kernel⟩
theorem sU(T:Tx K mg ad fd):FnOk P w K mg base CX0 3 (ad 33) (fd 33) ["ring","k","way","cut"] (spF K 4 gn) :=
 aT (k:=2) T.x_times_over.f sT ip (fun cdv A outer s H E hr=>(ai (bL (pbc vn (ae 2) i9 (aH _)) (ao (az (qj (bG (aE (iJ T) T.x_parts_places hr (af (ae 3) (af (aq (aq (aq (ae 0) ag (fun _ _=>rfl)) (ae 1) (fun _ _=>rfl)) ag (fun _ _=>rfl)) (af (aq (aq (aq (ae 0) ag (fun _ _=>rfl)) (ae 1) (fun _ _=>rfl)) ag (fun _ _=>rfl)) ah))))) ag ag))) aN)
  (ao (az (aG bz rfl T.z_len (by decide +kernel) (af (au (ba (sc:=(ak eN)) (N:=mG) (Nt:=["tie"]) (Nf:=["ring","k","way"]) (fi:=[0,1,2]) rfl rfl rfl (aY (ae 3)) rfl (by decide +kernel) (by decide +kernel) (by decide +kernel) (by decide) rfl (by decide +kernel) (by decide) (fun _ _ _ _=>(a9 (by decide) (show((["tie"]:List Str)++(["ring","k","way"]:List Str)).Nodup by decide +kernel) rfl (Or.inl rfl))) (fun _ _ _ _=>(zw (bG (aE (mq T) T.x_is_over hr (af (ae 1) (af (ae 2) (af (ae 3) (af (ae 0) ah)))))))) (fun _ _ _ _=>(ae 0)))) ah))))))
  pY
theorem fu:ax kQ ["ring","wish","scale","fixed","cut"] (ak dN):=⟨rfl,rfl,rfl,by decide +kernel,rfl,by decide +kernel,by decide +kernel⟩
theorem qa(T:Tx K mg ad fd):FnOk P w K mg base CX0 4 (ad 34) (fd 34) ["ring","wish","scale","fixed","cut"] (spF K 5 fk) :=
 aT (k:=3) T.x_is_too_full.f fu gp (fun cdv A outer s H E hr=>(ai (av (i:=5) fu.nd rfl (by walk_at "o") (aq (ae 2) ag (fun _ _=>rfl)))
  (ai (av (i:=6) fu.nd rfl (by walk_at "o") (au (aG (Hn rfl) rfl T.z_sum (by decide +kernel) (af (au (ba (sc:=(ak dN)) (N:=kQ) (Nt:=["k","size"]) (Nf:=["ring","fixed","cut"]) (fi:=[0,3,4]) rfl rfl rfl (nG rfl T.z_enumerate (aq (ae 2) ag (fun _ _=>rfl))) rfl (by decide +kernel) (by decide +kernel) (by decide +kernel) (by decide) rfl (by decide +kernel) (by decide) (fun _ _ _ _=>(qn rfl (cf (i:=0) (by decide) (show((["k","size"]:List Str)++(["ring","fixed","cut"]:List Str)).Nodup by decide +kernel) rfl (Or.inl rfl) (cf (i:=1) (by decide) (show((["k","size"]:List Str)++(["ring","fixed","cut"]:List Str)).Nodup by decide +kernel) rfl (Or.inl rfl) lK)))) (fun _ _ _ _=>aX) (fun _ _ _ _=>(ar aQ (ae 1) (aE (sU T) T.x_times_over hr (af (ae 2) (af (ae 0) (af (aq (ae 3) (ae 0) (fun _ _=>rfl)) (af (ae 4) ah))))))))) ah))))
  (ao (az (aE (jA T) T.x_is_too_much hr (af (ae 1) (af (ae 6) (af (au (ar bf (aq (ae 5) (aq (ae 4) ag (fun _ _=>rfl)) (fun _ _=>rfl)) (aq (ae 5) (aq (ae 4) ag (fun _ _=>rfl)) (fun _ _=>rfl)))) ah)))))))))
  o7
theorem uV:ax vZ ["ring","wish","scale","fixed","thing"] (ak jL):=⟨rfl,rfl,rfl,by decide +kernel,rfl,by decide +kernel,by decide +kernel⟩
theorem uW(T:Tx K mg ad fd):FnOk P w K mg base CX0 5 (ad 35) (fd 35) ["ring","wish","scale","fixed","thing"] (spF K 5 ir) :=
 aT (k:=4) T.x_can_stand.f uV j4 (fun cdv A outer s H E hr=>by exact(@ai _ _ _ _ _ (@bL _ _ _ _ _ _ _ _ (bG (aE (gD T) T.x_is_told_as hr (@af _ _ _ _ _ _ (ae 4) (@af _ _ _ _ _ _ (pl_G T.g_TURNED rfl) (@af _ _ _ _ _ _ ag ah (by kernel_rfl)) (by kernel_rfl)) (by kernel_rfl)))) (@ao _ _ _ (@az _ _ _ _ (aE (iK T) T.x_are_too_many hr (@af _ _ _ _ _ _ (ae 1) (@af _ _ _ _ _ _ (ae 3) ah (by kernel_rfl)) (by kernel_rfl))))) aN) (@ai _ _ _ _ _ (@bL _ _ _ _ _ _ _ _ (bG (aE (gD T) T.x_is_told_as hr (@af _ _ _ _ _ _ (ae 4) (@af _ _ _ _ _ _ (pl_G T.g_CUT rfl) (@af _ _ _ _ _ _ ag ah (by kernel_rfl)) (by kernel_rfl)) (by kernel_rfl)))) (@ao _ _ _ (@az _ _ _ _ (fA (aE (BK T) T.x_is_cut hr (@af _ _ _ _ _ _ (ae 0) (@af _ _ _ _ _ _ (@au _ _ _ (@kD _ _ _ _ _ _ _ _ _ (ae 4) ag trivial)) ah (by kernel_rfl)) (by kernel_rfl))) (gQ (aE (qa T) T.x_is_too_full hr (@af _ _ _ _ _ _ (ae 0) (@af _ _ _ _ _ _ (ae 1) (@af _ _ _ _ _ _ (ae 2) (@af _ _ _ _ _ _ (ae 3) (@af _ _ _ _ _ _ (@au _ _ _ (@kD _ _ _ _ _ _ _ _ _ (ae 4) ag trivial)) ah (by kernel_rfl)) (by kernel_rfl)) (by kernel_rfl)) (by kernel_rfl)) (by kernel_rfl))))))) aN) (@ao _ _ _ (@az _ _ _ _ (fA (aE (pE T) T.x_is_split hr (@af _ _ _ _ _ _ (ae 4) ah (by kernel_rfl))) (fA (aE (lB T) T.x_is_number_below hr (@af _ _ _ _ _ _ (@aq _ _ _ _ _ _ (ae 4) ag (fun _ _=>rfl)) (@af _ _ _ _ _ _ (@au _ _ _ (aG bz rfl T.z_len (by decide +kernel) (@af _ _ _ _ _ _ (ae 3) ah (by kernel_rfl)))) ah (by kernel_rfl)) (by kernel_rfl))) (gQ (cw vn (@aq _ _ _ _ _ _ (ae 3) (@aq _ _ _ _ _ _ (ae 4) ag (fun _ _=>rfl)) (fun _ _=>rfl)) i9 (aH _))))))))))
  sD
theorem iL:ax v3 ["here","way"] (ak jM):=⟨rfl,rfl,rfl,by decide +kernel,rfl,by decide +kernel,by decide +kernel⟩
theorem mY(T:Tx K mg ad fd):FnOk P w K mg base CX0 1 (ad 36) (fd 36) ["here","way"] (spF K 2 eQ) :=
 aT (k:=0) T.x_branch_of.f iL j5 (fun cdv A outer s H E hr=>(ai (av (i:=2) iL.nd rfl (by walk_at "o") (aq (ae 0) ag (fun _ _=>rfl)))
  (ai (av (i:=3) iL.nd rfl (by walk_at "o") (nZ EH rfl T.z_list (by decide +kernel) (af (aq (ae 0) ag (fun _ _=>rfl)) ah)))
  (ai (n4 3 (aq (ae 2) ag (fun _ _=>rfl)) (ae 1))
  (ao (az (bu (af (qj (pbc (eY hr.units) (ae 1) (pl_G T.g_ON rfl) (aH _)) (aq (ae 2) ag (fun _ _=>rfl)) (aq (ae 2) ag (fun _ _=>rfl))) (af (ae 3) (af (au (ar bf (aq (ae 0) ag (fun _ _=>rfl)) (b6 (af (ae 1) ah)))) ah))))))))))
  sE
theorem br:ax je ["ring","wish","thing"] (ak c7):=⟨rfl,rfl,rfl,by decide +kernel,rfl,by decide +kernel,by decide +kernel⟩
theorem pF(T:Tx K mg ad fd):FnOk P w K mg base CX0 6 (ad 37) (fd 37) ["ring","wish","thing"] (spF K 3 d9) :=
 aT (k:=5) T.x_look_at_tree.f br fm (fun cdv A outer s H E hr=>by exact(@ai _ _ _ _ _ (@av _ _ _ 3 _ _ _ br.nd rfl (by walk_at "o") (@au _ _ _ (aE (qK T) T.x_weighed hr (@af _ _ _ _ _ _ (ae 0) (@af _ _ _ _ _ _ (@aq _ _ _ _ _ _ (ae 1) ag (fun _ _=>rfl)) ah (by kernel_rfl)) (by kernel_rfl)))) (by kernel_rfl) (by first | exact .inl rfl | exact .inr rfl)) (@ai _ _ _ _ _ (@av _ _ _ 4 _ _ _ br.nd rfl (by walk_at "o") (@b6 _ _ _ _ _ (@af _ _ _ _ _ _ (@bu _ _ _ _ _ _ (@af _ _ _ _ _ _ (ae 2) (@af _ _ _ _ _ _ (@au _ _ _ (ba (sc:=(ak c7)) (N:=je) (Nt:=[ "ask" ]) (Nf:=[]) (fi:=[]) rfl rfl rfl (aY (@aq _ _ _ _ _ _ (ae 0) ag (fun _ _=>rfl))) rfl (by decide +kernel) (by decide +kernel) (by decide +kernel) (by decide) rfl (by decide +kernel) (by decide) (fun _ _ _ _=>(a9 (by decide) (show(([ "ask" ]:List Str)++([]:List Str)).Nodup by decide +kernel) rfl (Or.inl rfl))) (fun _ _ _ _=>aX) (fun _ _ _ _=>i9))) (@af _ _ _ _ _ _ (@au _ _ _ (@b6 _ _ _ _ _ ah)) ah (by kernel_rfl)) (by kernel_rfl)) (by kernel_rfl))) ah (by kernel_rfl))) (by kernel_rfl) (by first | exact .inl rfl | exact .inr rfl)) (@ai _ _ _ _ _ (@av _ _ _ 5 _ _ _ br.nd rfl (by walk_at "o") ag (by kernel_rfl) (by first | exact .inl rfl | exact .inr rfl)) (@ao _ _ _ (fT PassesOwn.never (Hu 4) (@ai _ _ _ _ _ (@av _ _ _ 6 _ _ _ br.nd rfl (by walk_at "o") (@au _ _ _ (Hh 4)) (by kernel_rfl) (by first | exact .inl rfl | exact .inr rfl)) (@ai _ _ _ _ _ (Ht GH (i:=5) br.nd rfl (by walk_at "o") ag) (@ai _ _ _ _ _ (@bL _ _ _ _ _ _ _ _ (PBw.pb (mz (pbc yb (ae 5) (pl_G T.g_MOST_WALKED rfl) (aH _)) (lG (kq (bG (aE (uW T) T.x_can_stand hr (@af _ _ _ _ _ _ (ae 0) (@af _ _ _ _ _ _ (ae 1) (@af _ _ _ _ _ _ (ae 3) (@af _ _ _ _ _ _ (@aq _ _ _ _ _ _ (ae 6) ag (fun _ _=>rfl)) (@af _ _ _ _ _ _ (@aq _ _ _ _ _ _ (ae 6) ag (fun _ _=>rfl)) ah (by kernel_rfl)) (by kernel_rfl)) (by kernel_rfl)) (by kernel_rfl)) (by kernel_rfl)))))))) (@ao _ _ _ qU) aN) (@ao _ _ _ (@bL _ _ _ _ _ _ _ _ (bG (aE (pE T) T.x_is_split hr (@af _ _ _ _ _ _ (@aq _ _ _ _ _ _ (ae 6) ag (fun _ _=>rfl)) ah (by kernel_rfl)))) (@ai _ _ _ _ _ (cQ (da 4 (aE (mY T) T.x_branch_of hr (@af _ _ _ _ _ _ (ae 6) (@af _ _ _ _ _ _ (pl_G T.g_BACK rfl) ah (by kernel_rfl)) (by kernel_rfl))))) (@ao _ _ _ (cQ (da 4 (aE (mY T) T.x_branch_of hr (@af _ _ _ _ _ _ (ae 6) (@af _ _ _ _ _ _ (pl_G T.g_ON rfl) ah (by kernel_rfl)) (by kernel_rfl))))))) aN)))))))))))
  nz
theorem cZ:ax nq ["wish","bounds","fixed","loads"] (ak dA):=⟨rfl,rfl,rfl,by decide +kernel,rfl,by decide +kernel,by decide +kernel⟩
theorem mr(T:Tx K mg ad fd):FnOk P w K mg base CX0 4 (ad 38) (fd 38) ["wish","bounds","fixed","loads"] (spF K 4 cY) :=
 aT (k:=3) T.x_reason_against.f cZ dC (fun cdv A outer s H E hr=>(ai (bL (bG (aE (iK T) T.x_are_too_many hr (af (ae 0) (af (ae 2) ah)))) (ao (az (bu (af (pl_G T.g_TURNED rfl) ah)))) aN)
  (ai (dG PassesOwn.never rfl (aY (ae 1)) (tJ rfl (b9 (i:=4) cZ.nd rfl (by walk_at "o") (b9 (i:=5) cZ.nd rfl (by walk_at "o") nX))) (ao (bL (bG (aE (jA T) T.x_is_too_much hr (af (ae 0) (af (au (ar bf (aq (ae 3) (aq (ae 4) ag (fun _ _=>rfl)) (fun _ _=>rfl)) (aq (ae 3) (aq (ae 4) ag (fun _ _=>rfl)) (fun _ _=>rfl)))) (af (ae 5) ah))))) (ao (az (bu (af (pl_G T.g_CUT rfl) (af (aq (ae 4) ag (fun _ _=>rfl)) (af (aq (ae 4) ag (fun _ _=>rfl)) ah)))))) aN)))
  (ao (az i9)))))
  kU
theorem cn:ax qG ["ring","wish","sizes","bounds","fixed","loads"] (ak iX):=⟨rfl,rfl,rfl,by decide +kernel,rfl,by decide +kernel,by decide +kernel⟩
theorem mZ(T:Tx K mg ad fd):∀ n,FnOk P w K mg base CX0 (5+n) (ad 39) (fd 39) ["ring","wish","sizes","bounds","fixed","loads"] (spF K 6 (bO n))
 |0=>z6 wq
 | n+1=>aT (k:=5+n) T.x_searched.f cn (l8 (bO n)) (fun cdv A outer s H E hr=>by exact(@ai _ _ _ _ _ (@av _ _ _ 6 _ _ _ cn.nd rfl (by walk_at "o") (@au _ _ _ (@eH _ _ _ _ _ (vk 4 rfl T.z_len) (aG bz rfl T.z_len PySem.boot_len (@af _ _ _ _ _ _ (ae 4) ah (by kernel_rfl))))) (by kernel_rfl) (by first | exact .inl rfl | exact .inr rfl)) (@ai _ _ _ _ _ (@av _ _ _ 7 _ _ _ cn.nd rfl (by walk_at "o") (fV 4 (aE (mr T) T.x_reason_against hr (@af _ _ _ _ _ _ (ae 1) (@af _ _ _ _ _ _ (@aq _ _ _ _ _ _ (ae 3) (@ar _ _ _ _ _ _ _ _ gJ (aG bz rfl T.z_len (by decide +kernel) (@af _ _ _ _ _ _ (ae 2) ah (by kernel_rfl))) (ae 6)) (fun _ _=>rfl)) (@af _ _ _ _ _ _ (ae 4) (@af _ _ _ _ _ _ (ae 5) ah (by kernel_rfl)) (by kernel_rfl)) (by kernel_rfl)) (by kernel_rfl)) (hk:=by omega))) (by kernel_rfl) (by first | exact .inl rfl | exact .inr rfl)) (@ai _ _ _ _ _ (@bL _ _ _ _ _ _ _ _ (pbc w4 (ae 7) i9 (aH _)) (@ao _ _ _ (@az _ _ _ _ (@rh _ _ _ _ _ _ (@af _ _ _ _ _ _ gI (@af _ _ _ _ _ _ (bW 7) ah (by kernel_rfl)) (by kernel_rfl))))) aN) (@ai _ _ _ _ _ (@bL _ _ _ _ _ _ _ _ (pbc (eY hr.units) (ae 6) (aG bz rfl T.z_len (by decide +kernel) (@af _ _ _ _ _ _ (ae 2) ah (by kernel_rfl))) (aH _)) (@ao _ _ _ (@az _ _ _ _ (@rh _ _ _ _ _ _ (@af _ _ _ _ _ _ gI (@af _ _ _ _ _ _ (bW 4) ah (by kernel_rfl)) (by kernel_rfl))))) aN) (@ai _ _ _ _ _ (@av _ _ _ 8 _ _ _ cn.nd rfl (by walk_at "o") (@b6 _ _ _ _ _ ah) (by kernel_rfl) (by first | exact .inl rfl | exact .inr rfl)) (@ai _ _ _ _ _ (dG PassesOwn.never rfl (aY (@bu _ _ _ _ _ _ (@af _ _ _ _ _ _ (pl_G T.g_ON rfl) (@af _ _ _ _ _ _ (pl_G T.g_BACK rfl) ah (by kernel_rfl)) (by kernel_rfl)))) (dj (i:=9) cn.nd rfl (by walk_at "o")) (@ai _ _ _ _ _ (n6 cn.nd (j:=10) rfl (by walk_at "o") (sc:=(ak iX)) (N:=qG) (Nt:=[ "tie" ,"load" ]) (Nf:=[ "ring" ,"k" ,"way" ,"sizes" ]) (fi:=[0,6,9,2]) rfl rfl rfl (nG rfl T.z_enumerate (ae 5)) rfl (by decide +kernel) (by decide +kernel) (by decide +kernel) (by decide) rfl (by decide +kernel) (by decide) (fun _ _ _ _=>(qn rfl (cf (i:=0) (by decide) (show(([ "tie" ,"load" ]:List Str)++([ "ring" ,"k" ,"way" ,"sizes" ]:List Str)).Nodup by decide +kernel) rfl (Or.inl rfl) (cf (i:=1) (by decide) (show(([ "tie" ,"load" ]:List Str)++([ "ring" ,"k" ,"way" ,"sizes" ]:List Str)).Nodup by decide +kernel) rfl (Or.inl rfl) lK)))) (fun _ _ _ _=>aX) (fun _ _ _ _=>(@ar _ _ _ _ _ _ _ _ bf (ae 1) (@qj _ _ _ _ _ _ _ _ (bG (aE (mq T) T.x_is_over hr (@af _ _ _ _ _ _ (ae 2) (@af _ _ _ _ _ _ (ae 3) (@af _ _ _ _ _ _ (ae 4) (@af _ _ _ _ _ _ (ae 0) ah (by kernel_rfl)) (by kernel_rfl)) (by kernel_rfl)) (by kernel_rfl)) (hk:=by omega))) (@aq _ _ _ _ _ _ (ae 5) (ae 3) (fun _ _=>rfl)) ag)))) (@ai _ _ _ _ _ (@av _ _ _ 11 _ _ _ cn.nd rfl (by walk_at "o") (aE (mZ T n) T.x_searched hr (@af _ _ _ _ _ _ (ae 0) (@af _ _ _ _ _ _ (ae 1) (@af _ _ _ _ _ _ (ae 2) (@af _ _ _ _ _ _ (ae 3) (@af _ _ _ _ _ _ (Fo 4 (@b6 _ _ _ _ _ (@af _ _ _ _ _ _ (ae 9) ah (by kernel_rfl)))) (@af _ _ _ _ _ _ (ae 10) ah (by kernel_rfl)) (by kernel_rfl)) (by kernel_rfl)) (by kernel_rfl)) (by kernel_rfl)) (by kernel_rfl)) (hk:=by omega)) (by kernel_rfl) (by first | exact .inl rfl | exact .inr rfl)) (@ai _ _ _ _ _ (@bL _ _ _ _ _ _ _ _ (vq 11 (pbc (eY hr.units) (fV 11 (@aq _ _ _ _ _ _ (ae 11) ag (fun _ _=>rfl))) gI (aH _))) (@ao _ _ _ (@az _ _ _ _ (bW 11))) aN) (@ao _ _ _ (cQ (da 8 (fV 11 (@aq _ _ _ _ _ _ (ae 11) ag (fun _ _=>rfl)))))))))) (@ao _ _ _ (@az _ _ _ _ (@rh _ _ _ _ _ _ (@af _ _ _ _ _ _ gI (@af _ _ _ _ _ _ (@bu _ _ _ _ _ _ (@af _ _ _ _ _ _ (pl_G T.g_SPLIT rfl) (@af _ _ _ _ _ _ (ae 6) (@af _ _ _ _ _ _ (@eH _ _ _ _ _ (gT 8 ag (fun _ _=>rfl)) (@aq _ _ _ _ _ _ (ae 8) ag (fun _ _=>rfl))) (@af _ _ _ _ _ _ (@eH _ _ _ _ _ (gT 8 ag (fun _ _=>rfl)) (@aq _ _ _ _ _ _ (ae 8) ag (fun _ _=>rfl))) ah (by kernel_rfl)) (by kernel_rfl)) (by kernel_rfl)) (by kernel_rfl))) ah (by kernel_rfl)) (by kernel_rfl))))))))))))
  (uJ n)
theorem wF(T:Tx K mg ad fd):FnOk P w K mg base CX0 14 (ad 39) (fd 39) ["ring","wish","sizes","bounds","fixed","loads"] (spF K 6 o8):=mZ T 9
theorem df:ax jN ["ring","scale"] (ak d3):=⟨rfl,rfl,rfl,by decide +kernel,rfl,by decide +kernel,by decide +kernel⟩
theorem uX(T:Tx K mg ad fd):FnOk P w K mg base CX0 3 (ad 40) (fd 40) ["ring","scale"] (spF K 2 iy) :=
 aT (k:=2) T.x_bounds_of.f df j6 (fun cdv A outer s H E hr=>(ai (av (i:=2) df.nd rfl (by walk_at "o") (aq (ae 1) ag (fun _ _=>rfl)))
  (ai (av (i:=3) df.nd rfl (by walk_at "o") (b6 (af (au (ba (sc:=(ak d3)) (N:=jN) (Nt:=["cut"]) (Nf:=["most"]) (fi:=[2]) rfl rfl rfl (aY (aE (wy T) T.x_all_cuts hr (af (ae 0) ah))) rfl (by decide +kernel) (by decide +kernel) (by decide +kernel) (by decide) rfl (by decide +kernel) (by decide) (fun _ _ _ _=>(a9 (by decide) (show((["cut"]:List Str)++(["most"]:List Str)).Nodup by decide +kernel) rfl (Or.inl rfl))) (fun _ _ _ _=>aX) (fun _ _ _ _=>(bu (af (ae 0) (af (au (ar bf (aq (ae 1) (aq (ae 0) ag (fun _ _=>rfl)) (fun _ _=>rfl)) (aq (ae 1) (aq (ae 0) ag (fun _ _=>rfl)) (fun _ _=>rfl)))) ah)))))) ah)))
  (ai (dG PassesOwn.never rfl (Fk rfl T.z_reversed (qv rfl T.z_list rfl T.z_zip rfl (af (aq (ae 0) ag (fun _ _=>rfl)) (af (aq (ae 1) ag (fun _ _=>rfl)) ah)))) (tJ rfl (b9 (i:=4) df.nd rfl (by walk_at "o") (b9 (i:=5) df.nd rfl (by walk_at "o") nX))) (ao (cQ (da 3 (ba (sc:=(ak d3)) (N:=jN) (Nt:=["cut","bound"]) (Nf:=["ask","size"]) (fi:=[4,5]) rfl rfl rfl (aY (eH (gT 3 (zg ag) (fun _ _=>rfl)) (aq (ae 3) (zg ag) (fun _ _=>rfl)))) rfl (by decide +kernel) (by decide +kernel) (by decide +kernel) (by decide) rfl (by decide +kernel) (by decide) (fun _ _ _ _=>(qn rfl (cf (i:=0) (by decide) (show((["cut","bound"]:List Str)++(["ask","size"]:List Str)).Nodup by decide +kernel) rfl (Or.inl rfl) (cf (i:=1) (by decide) (show((["cut","bound"]:List Str)++(["ask","size"]:List Str)).Nodup by decide +kernel) rfl (Or.inl rfl) lK)))) (fun _ _ _ _=>aX) (fun _ _ _ _=>(bu (af (ae 0) (af (ar gJ (ae 1) (qj (bG (aE (iJ T) T.x_parts_places hr (af (ae 0) (af (aq (ae 2) ag (fun _ _=>rfl)) (af (aq (ae 2) ag (fun _ _=>rfl)) ah))))) (ae 3) ag)) ah)))))))))
  (ao (az (bW 3)))))))
  sH
theorem pG:ax qH ["ring","wish"] (ak iY):=⟨rfl,rfl,rfl,by decide +kernel,rfl,by decide +kernel,by decide +kernel⟩
theorem wG(T:Tx K mg ad fd):FnOk P w K mg base CX0 15 (ad 41) (fd 41) ["ring","wish"] (spF K 2 j7) :=
 aT (k:=14) T.x_ways_for.f pG l9 (fun cdv A outer s H E hr=>(ai (bL (pbc yb (aG bz rfl T.z_len (by decide +kernel) (af (aq (ae 0) ag (fun _ _=>rfl)) ah)) (pl_G T.g_MOST_SEARCHED rfl) (aH _)) (ao qU) aN)
  (ai (av (i:=2) pG.nd rfl (by walk_at "o") (au (aE (qK T) T.x_weighed hr (af (ae 0) (af (aq (ae 1) ag (fun _ _=>rfl)) ah)))))
  (ao (az (aE (wF T) T.x_searched hr (af (ae 0) (af (ae 1) (af (aq (ae 2) ag (fun _ _=>rfl)) (af (au (aE (uX T) T.x_bounds_of hr (af (ae 0) (af (ae 2) ah)))) (af (b6 ah) (af (au (ba (sc:=(ak iY)) (N:=qH) (Nt:=["room"]) (Nf:=[]) (fi:=[]) rfl rfl rfl (aY (aq (ae 0) ag (fun _ _=>rfl))) rfl (by decide +kernel) (by decide +kernel) (by decide +kernel) (by decide) rfl (by decide +kernel) (by decide) (fun _ _ _ _=>(a9 (by decide) (show((["room"]:List Str)++([]:List Str)).Nodup by decide +kernel) rfl (Or.inl rfl))) (fun _ _ _ _=>aX) (fun _ _ _ _=>ag))) ah))))))))))))
  uK
theorem nB:ax hG ["ring","top"] (ak cD):=⟨rfl,rfl,rfl,by decide +kernel,rfl,by decide +kernel,by decide +kernel⟩
theorem nC(T:Tx K mg ad fd):FnOk P w K mg base CX0 1 (ad 42) (fd 42) ["ring","top"] (spF K 2 dD) :=
 aT (k:=0) T.x_wish_for_less.f nB ee (fun cdv A outer s H E hr=>(ao (az (bu (af (ae 1) (af nU (af (au (ba (sc:=(ak cD)) (N:=hG) (Nt:=["ask"]) (Nf:=[]) (fi:=[]) rfl rfl rfl (aY (aq (ae 0) ag (fun _ _=>rfl))) rfl (by decide +kernel) (by decide +kernel) (by decide +kernel) (by decide) rfl (by decide +kernel) (by decide) (fun _ _ _ _=>(a9 (by decide) (show((["ask"]:List Str)++([]:List Str)).Nodup by decide +kernel) rfl (Or.inl rfl))) (fun _ _ _ _=>aX) (fun _ _ _ _=>i9))) (af ag ah))))))))
  ma
theorem dg:ax oI ["ring"] (ak gb):=⟨rfl,rfl,rfl,by decide +kernel,rfl,by decide +kernel,by decide +kernel⟩
theorem m4(T:Tx K mg ad fd):FnOk P w K mg base CX0 16 (ad 43) (fd 43) ["ring"] (spF K 1 eU) :=
 aT (k:=15) T.x_best_ways.f dg j8 (fun cdv A outer s H E hr=>(ai (n6 dg.nd (j:=1) rfl (by walk_at "o") (sc:=(ak gb)) (N:=oI) (Nt:=["ask"]) (Nf:=[]) (fi:=[]) rfl rfl rfl (aY (aq (ae 0) ag (fun _ _=>rfl))) rfl (by decide +kernel) (by decide +kernel) (by decide +kernel) (by decide) rfl (by decide +kernel) (by decide) (fun _ _ _ _=>(a9 (by decide) (show((["ask"]:List Str)++([]:List Str)).Nodup by decide +kernel) rfl (Or.inl rfl))) (fun _ _ _ _=>aX) (fun _ _ _ _=>(pl_G T.g_ON rfl)))
  (ao (fT PassesOwn.never (bG nU) (ai (av (i:=2) dg.nd rfl (by walk_at "o") (fV 1 (aE (BN T) T.x_top_by hr (af (ae 0) (af (ae 1) ah)))))
  (ai (av (i:=3) dg.nd rfl (by walk_at "o") (aE (wG T) T.x_ways_for hr (af (ae 0) (af (au (aE (nC T) T.x_wish_for_less hr (af (ae 0) (af (ae 2) ah)))) ah))))
  (ai (bL (vq 3 (pbc (eY hr.units) (fV 3 (aq (ae 3) ag (fun _ _=>rfl))) gI (aH _))) (ao (az (rh (af (bW 2) (af (bW 1) (af (Af 3 1) ah)))))) aN)
  (ao (av (i:=1) dg.nd rfl (by walk_at "o") (Af 3 1))))))))))
  sI
theorem gE:ax uB ["_law_script","_law_k"] (ak hJ):=⟨rfl,rfl,rfl,by decide +kernel,rfl,by decide +kernel,by decide +kernel⟩
theorem gF(T:Tx K mg ad fd):FnOk P w K mg base CX0 1 (ad 44) (fd 44) ["_law_script","_law_k"] (spF K 2 cK) :=
 aT (k:=0) T.x__law_begun.f gE iz (fun cdv A outer s H E hr=>(ai (av (i:=2) gE.nd rfl (by walk_at "o") ag)
  (ai (bL (pbc qV (ae 1) (aG bz rfl T.z_len (by decide +kernel) (af (ae 0) ah)) (aH _)) (ao (av (i:=2) gE.nd rfl (by walk_at "o") (aq (ae 0) (ae 1) (fun _ _=>rfl)))) aN)
  (ao (az (b6 (af (ae 2) (af (ar cy (ar bf (ar bf (ar cy (ae 2) ag) (ar aQ (ar aQ ag (ae 1)) (ae 1))) ag) ag) (af (cw IP (ae 2) (ar zq ag ag) (aH _)) ah)))))))))
  pZ
theorem dh:ax v5 ["_law_state","_law_many"] (ak jO):=⟨rfl,rfl,rfl,by decide +kernel,rfl,by decide +kernel,by decide +kernel⟩
theorem aO(T:Tx K mg ad fd):FnOk P w K mg base CX0 1 (ad 45) (fd 45) ["_law_state","_law_many"] (spF K 2 aJ) :=
 aT (k:=0) T.x__law_take.f dh j9 (fun cdv A outer s H E hr=>(ai (bL (bG (eH (gT 0 ag (fun _ _=>rfl)) (aq (ae 0) ag (fun _ _=>rfl)))) (ai (av (i:=2) dh.nd rfl (by walk_at "o") (ar cy (eH (gT 0 ag (fun _ _=>rfl)) (aq (ae 0) ag (fun _ _=>rfl))) (ae 1)))
  (ai (n4 0 ag (ar gS (eH (gT 0 ag (fun _ _=>rfl)) (aq (ae 0) ag (fun _ _=>rfl))) (ae 1)))
  (ai (n4 0 ag (cw yb (eH (gT 0 ag (fun _ _=>rfl)) (aq (ae 0) ag (fun _ _=>rfl))) ag (aH _)))
  (ao (az (bW 2)))))) aN)
  (ai (av (i:=3) dh.nd rfl (by walk_at "o") ag)
  (ai (dG PassesOwn.never rfl (cx rfl T.z_range (ar bf ag (ar aQ ag (nZ DY rfl T.z_int (by decide +kernel) (af (cw yb (ae 1) (ar zq ag ag) (aH _)) ah))))) (dj (i:=4) dh.nd rfl (by walk_at "o")) (ai (n4 0 ag (ar cy (ar bf (ar aQ (eH (gT 0 ag (fun _ _=>rfl)) (aq (ae 0) ag (fun _ _=>rfl))) ag) ag) ag))
  (ao (av (i:=3) dh.nd rfl (by walk_at "o") (au (ar bf (ar aQ (ae 3) ag) (ar cy (ar aQ (eH (gT 0 ag (fun _ _=>rfl)) (aq (ae 0) ag (fun _ _=>rfl))) (eH (gT 0 ag (fun _ _=>rfl)) (aq (ae 0) ag (fun _ _=>rfl)))) ag)))))))
  (ao (az (ar cy (ar gS (ae 3) ag) (ae 1))))))))
  sJ
theorem cL:ax hU ["_law_state","_law_many"] (ak de):=⟨rfl,rfl,rfl,by decide +kernel,rfl,by decide +kernel,by decide +kernel⟩
theorem sV(T:Tx K mg ad fd):FnOk P w K mg base CX0 2 (ad 46) (fd 46) ["_law_state","_law_many"] (spF K 2 gu) :=
 aT (k:=1) T.x__law_names.f cL iA (fun cdv A outer s H E hr=>(ai (av (i:=2) cL.nd rfl (by walk_at "o") gI)
  (ai (av (i:=3) cL.nd rfl (by walk_at "o") (au (ET (ba (sc:=(ak de)) (N:=hU) (Nt:=["_law_k"]) (Nf:=["_law_letters","_law_state"]) (fi:=[2,0]) rfl rfl rfl (cx rfl T.z_range (ar bf ag (cA (aO T) T.x__law_take hr 0 0 (bC 0 (af ag ah))))) rfl (by decide +kernel) (by decide +kernel) (by decide +kernel) (by decide) rfl (by decide +kernel) (by decide) (fun _ _ _ _=>(a9 (by decide) (show((["_law_k"]:List Str)++(["_law_letters","_law_state"]:List Str)).Nodup by decide +kernel) rfl (Or.inl rfl))) (fun _ _ _ _=>aX) (fun _ _ _ _=>(aq (ae 1) (cA (aO T) T.x__law_take hr 0 2 (bC 2 (af ag ah))) (fun _ _=>rfl)))))))
  (ai (av (i:=4) cL.nd rfl (by walk_at "o") (au (cA (aO T) T.x__law_take hr 0 0 (bC 0 (af (au (aG bz rfl T.z_len (by decide +kernel) (af (ae 3) ah))) ah)))))
  (ai (av (i:=5) cL.nd rfl (by walk_at "o") (au (cA (aO T) T.x__law_take hr 0 0 (bC 0 (af ag ah)))))
  (ao (az (ba (sc:=(ak de)) (N:=hU) (Nt:=["_law_k"]) (Nf:=["_law_base","_law_at","_law_letters","_law_turn"]) (fi:=[3,4,2,5]) rfl rfl rfl (cx rfl T.z_range (ae 1)) rfl (by decide +kernel) (by decide +kernel) (by decide +kernel) (by decide) rfl (by decide +kernel) (by decide) (fun _ _ _ _=>(a9 (by decide) (show((["_law_k"]:List Str)++(["_law_base","_law_at","_law_letters","_law_turn"]:List Str)).Nodup by decide +kernel) rfl (Or.inl rfl))) (fun _ _ _ _=>aX) (fun _ _ _ _=>(ar bf (ar bf (kD (ae 1) trivial (ae 2)) (aq (ae 3) (ar cy (ar bf (ae 4) (ae 0)) ag) (fun _ _=>rfl))) (kD (ae 1) (ar bf (ae 2) ag) trivial)))))))))))
  p5
theorem eD:ax yG ["_law_top_here","_law_bottom"] (ak lU):=⟨rfl,rfl,rfl,by decide +kernel,rfl,by decide +kernel,by decide +kernel⟩
theorem pH(T:Tx K mg ad fd):FnOk P w K mg base CX0 1 (ad 47) (fd 47) ["_law_top_here","_law_bottom"] (spF K 2 eh) :=
 aT (k:=0) T.x__law_low.f eD me (fun cdv A outer s H E hr=>(ai (av (i:=2) eD.nd rfl (by walk_at "o") (au (aG zr rfl T.z_abs (by decide +kernel) (af (ae 0) ah))))
  (ai (av (i:=3) eD.nd rfl (by walk_at "o") (au (aG zr rfl T.z_abs (by decide +kernel) (af (ae 1) ah))))
  (ai (fT PassesOwn.never (pbc (pM hr.units) (ae 2) ag (aH _)) (ao (DZ (i:=2) (j:=3) rfl eD.nd rfl rfl (by decide) rfl rfl (ar cy (ae 3) (ae 2)) (ae 2) rfl)))
  (ai (bL (pbc qV (ae 1) ag (aH _)) (ao (av (i:=3) eD.nd rfl (by walk_at "o") (ar gJ ag (ae 3)))) aN)
  (ao (az (bu (af (ar gS (ae 0) (ae 3)) (af (ar gS (ae 1) (ae 3)) ah))))))))))
  uM
theorem fv:ax rW ["_law_state","_law_least_here","_law_kind"] (ak gf):=⟨rfl,rfl,rfl,by decide +kernel,rfl,by decide +kernel,by decide +kernel⟩
theorem fw(T:Tx K mg ad fd):FnOk P w K mg base CX0 2 (ad 48) (fd 48) ["_law_state","_law_least_here","_law_kind"] (spF K 3 b8) :=
 aT (k:=1) T.x__law_amount.f fv gv (fun cdv A outer s H E hr=>by exact(@ai _ _ _ _ _ (@av _ _ _ 3 _ _ _ fv.nd rfl (by walk_at "o") (@au _ _ _ (@ar _ _ _ _ _ _ _ _ bf ag (cA (aO T) T.x__law_take hr 0 0 (bC 0 (@af _ _ _ _ _ _ (@aq _ _ _ _ _ _ (@b6 _ _ _ _ _ (@af _ _ _ _ _ _ ag (@af _ _ _ _ _ _ ag (@af _ _ _ _ _ _ ag (@af _ _ _ _ _ _ ag (@af _ _ _ _ _ _ ag ah (by kernel_rfl)) (by kernel_rfl)) (by kernel_rfl)) (by kernel_rfl)) (by kernel_rfl))) (ae 2) (fun _ _=>rfl)) ah (by kernel_rfl)))))) (by kernel_rfl) (by first | exact .inl rfl | exact .inr rfl)) (@ai _ _ _ _ _ (@av _ _ _ 4 _ _ _ fv.nd rfl (by walk_at "o") (@au _ _ _ (@ar _ _ _ _ _ _ _ _ bf (ae 1) (cA (aO T) T.x__law_take hr 0 0 (bC 0 (@af _ _ _ _ _ _ (@aq _ _ _ _ _ _ (@b6 _ _ _ _ _ (@af _ _ _ _ _ _ ag (@af _ _ _ _ _ _ ag (@af _ _ _ _ _ _ ag (@af _ _ _ _ _ _ ag (@af _ _ _ _ _ _ (@ar _ _ _ _ _ _ _ _ zq ag ag) ah (by kernel_rfl)) (by kernel_rfl)) (by kernel_rfl)) (by kernel_rfl)) (by kernel_rfl))) (ae 2) (fun _ _=>rfl)) ah (by kernel_rfl)))))) (by kernel_rfl) (by first | exact .inl rfl | exact .inr rfl)) (@ao _ _ _ (@az _ _ _ _ (aE (pH T) T.x__law_low hr (@af _ _ _ _ _ _ (ae 4) (@af _ _ _ _ _ _ (ae 3) ah (by kernel_rfl)) (by kernel_rfl))))))))
  o9
theorem bS:ax uC ["_law_state","_law_ties","_law_kind"] (ak hW):=⟨rfl,rfl,rfl,by decide +kernel,rfl,by decide +kernel,by decide +kernel⟩
theorem sW(T:Tx K mg ad fd):FnOk P w K mg base CX0 3 (ad 49) (fd 49) ["_law_state","_law_ties","_law_kind"] (spF K 3 gw) :=
 aT (k:=2) T.x__law_rooms.f bS iB (fun cdv A outer s H E hr=>(ai (av (i:=3) bS.nd rfl (by walk_at "o") (au (cA (aO T) T.x__law_take hr 0 0 (bC 0 (af ag ah)))))
  (ai (av (i:=4) bS.nd rfl (by walk_at "o") (au (cA (fw T) T.x__law_amount hr 0 0 (bC 0 (af ag (af (ae 2) ah))))))
  (ai (bL (pbc (eY hr.units) (ae 3) ag (aH _)) (ao (av (i:=4) bS.nd rfl (by walk_at "o") (bu (af ag (af ag ah))))) aN)
  (ai (av (i:=5) bS.nd rfl (by walk_at "o") (b6 (af (ae 4) ah)))
  (ai (fT PassesOwn.never (pbc qV (eH (vk 5 rfl T.z_len) (aG bz rfl T.z_len PySem.boot_len (af (ae 5) ah))) (ae 1) (aH _)) (ai (av (i:=6) bS.nd rfl (by walk_at "o") (au (cA (fw T) T.x__law_amount hr 0 0 (bC 0 (af ag (af (ae 2) ah))))))
  (ao (cQ (da 5 (aq (b6 (af (ae 4) (af (ae 6) ah))) (nZ DY rfl T.z_int (by decide +kernel) (af (cw (eY hr.units) (ae 3) ag (aH _)) ah)) (fun _ _=>rfl)))))))
  (ao (az (bW 5)))))))))
  p6
theorem iM:ax v7 ["_law_state","_law_shape","_law_places","_law_k"] (ak jP):=⟨rfl,rfl,rfl,by decide +kernel,rfl,by decide +kernel,by decide +kernel⟩
theorem uY(T:Tx K mg ad fd):FnOk P w K mg base CX0 2 (ad 50) (fd 50) ["_law_state","_law_shape","_law_places","_law_k"] (spF K 4 iC) :=
 aT (k:=1) T.x__law_ends.f iM ka (fun cdv A outer s H E hr=>(ai (av (i:=4) iM.nd rfl (by walk_at "o") (au (cA (aO T) T.x__law_take hr 0 0 (bC 0 (af (ae 2) ah)))))
  (ai (av (i:=5) iM.nd rfl (by walk_at "o") (ar cy (ar bf (ar bf (ae 4) ag) (cA (aO T) T.x__law_take hr 0 0 (bC 0 (af (ar gJ (ae 2) ag) ah)))) (ae 2)))
  (ai (bL (pbc (eY hr.units) (ae 1) ag (aH _)) (ao (az (bu (af (ar cy (ae 3) (ae 2)) (af (ar cy (ar bf (ae 3) (ar gS (ae 2) ag)) (ae 2)) ah))))) aN)
  (ai (bL (pbc (eY hr.units) (ae 1) ag (aH _)) (ao (az (bu (af (au (ar aQ (ar cy (ae 3) ag) (ar gJ (ae 2) ag))) (af (au (ar aQ (ar gJ ag (ar cy (ae 3) ag)) (ar gJ (ae 2) ag))) ah))))) aN)
  (ai (bL (pbc (eY hr.units) (ae 1) ag (aH _)) (ao (az (bu (af ag (af (au (ar bf ag (ar cy (ae 5) (ar gJ (ae 2) ag)))) ah))))) aN)
  (ao (az (bu (af (ae 4) (af (ae 5) ah)))))))))))
  sL
theorem aU:ax v8 ["_law_script","_law_at","_law_most","_law_count"] (ak jQ):=⟨rfl,rfl,rfl,by decide +kernel,rfl,by decide +kernel,by decide +kernel⟩
theorem uZ(T:Tx K mg ad fd):FnOk P w K mg base CX0 4 (ad 51) (fd 51) ["_law_script","_law_at","_law_most","_law_count"] (spF K 4 iD) :=
 aT (k:=3) T.x__law_ring.f aU kb (fun cdv A outer s H E hr=>by exact(@ai _ _ _ _ _ (@av _ _ _ 4 _ _ _ aU.nd rfl (by walk_at "o") (aE (gF T) T.x__law_begun hr (@af _ _ _ _ _ _ (ae 0) (@af _ _ _ _ _ _ (ae 1) ah (by kernel_rfl)) (by kernel_rfl))) (by kernel_rfl) (by first | exact .inl rfl | exact .inr rfl)) (@ai _ _ _ _ _ (@av _ _ _ 5 _ _ _ aU.nd rfl (by walk_at "o") (@au _ _ _ (@ar _ _ _ _ _ _ _ _ bf ag (cA (aO T) T.x__law_take hr 0 4 (bC 4 (@af _ _ _ _ _ _ (@ar _ _ _ _ _ _ _ _ gJ (ae 2) ag) ah (by kernel_rfl)))))) (by kernel_rfl) (by first | exact .inl rfl | exact .inr rfl)) (@ai _ _ _ _ _ (@av _ _ _ 6 _ _ _ aU.nd rfl (by walk_at "o") (@au _ _ _ (cA (aO T) T.x__law_take hr 0 4 (bC 4 (@af _ _ _ _ _ _ (@au _ _ _ (@ar _ _ _ _ _ _ _ _ bf (ae 3) ag)) ah (by kernel_rfl))))) (by kernel_rfl) (by first | exact .inl rfl | exact .inr rfl)) (@ai _ _ _ _ _ (@av _ _ _ 7 _ _ _ aU.nd rfl (by walk_at "o") (@au _ _ _ (@b6 _ _ _ _ _ (@af _ _ _ _ _ _ (@au _ _ _ (cA (aO T) T.x__law_take hr 0 4 (bC 4 (@af _ _ _ _ _ _ ag ah (by kernel_rfl))))) (@af _ _ _ _ _ _ (@au _ _ _ (cA (aO T) T.x__law_take hr 0 4 (bC 4 (@af _ _ _ _ _ _ ag ah (by kernel_rfl))))) ah (by kernel_rfl)) (by kernel_rfl)))) (by kernel_rfl) (by first | exact .inl rfl | exact .inr rfl)) (@ai _ _ _ _ _ (@av _ _ _ 8 _ _ _ aU.nd rfl (by walk_at "o") (@au _ _ _ (cA (aO T) T.x__law_take hr 0 4 (bC 4 (@af _ _ _ _ _ _ ag ah (by kernel_rfl))))) (by kernel_rfl) (by first | exact .inl rfl | exact .inr rfl)) (@ai _ _ _ _ _ (@av _ _ _ 9 _ _ _ aU.nd rfl (by walk_at "o") (@au _ _ _ (cA (sV T) T.x__law_names hr 0 4 (bC 4 (@af _ _ _ _ _ _ (ae 6) ah (by kernel_rfl))))) (by kernel_rfl) (by first | exact .inl rfl | exact .inr rfl)) (@ai _ _ _ _ _ (@av _ _ _ 10 _ _ _ aU.nd rfl (by walk_at "o") (@au _ _ _ (aE (sW T) T.x__law_rooms hr (@af _ _ _ _ _ _ (aE (gF T) T.x__law_begun hr (@af _ _ _ _ _ _ (ae 0) (@af _ _ _ _ _ _ (@au _ _ _ (@ar _ _ _ _ _ _ _ _ bf (ae 1) ag)) ah (by kernel_rfl)) (by kernel_rfl))) (@af _ _ _ _ _ _ (ae 5) (@af _ _ _ _ _ _ (@aq _ _ _ _ _ _ (ae 7) ag (fun _ _=>rfl)) ah (by kernel_rfl)) (by kernel_rfl)) (by kernel_rfl)))) (by kernel_rfl) (by first | exact .inl rfl | exact .inr rfl)) (@ai _ _ _ _ _ (@av _ _ _ 4 _ _ _ aU.nd rfl (by walk_at "o") (aE (gF T) T.x__law_begun hr (@af _ _ _ _ _ _ (ae 0) (@af _ _ _ _ _ _ (@au _ _ _ (@ar _ _ _ _ _ _ _ _ bf (ae 1) ag)) ah (by kernel_rfl)) (by kernel_rfl))) (by kernel_rfl) (by first | exact .inl rfl | exact .inr rfl)) (@ai _ _ _ _ _ (@av _ _ _ 11 _ _ _ aU.nd rfl (by walk_at "o") (@b6 _ _ _ _ _ ah) (by kernel_rfl) (by first | exact .inl rfl | exact .inr rfl)) (@ai _ _ _ _ _ (dG PassesOwn.never rfl (cx rfl T.z_range (ae 6)) (dj (i:=12) aU.nd rfl (by walk_at "o")) (@ai _ _ _ _ _ (EK (tJ rfl (b9 (i:=13) aU.nd rfl (by walk_at "o") (b9 (i:=14) aU.nd rfl (by walk_at "o") nX))) (cA (uY T) T.x__law_ends hr 0 4 (bC 4 (@af _ _ _ _ _ _ (ae 8) (@af _ _ _ _ _ _ (ae 5) (@af _ _ _ _ _ _ (ae 12) ah (by kernel_rfl)) (by kernel_rfl)) (by kernel_rfl))))) (@ao _ _ _ (cQ (da 11 (@bu _ _ _ _ _ _ (@af _ _ _ _ _ _ (@aq _ _ _ _ _ _ (ae 9) (ae 12) (fun _ _=>rfl)) (@af _ _ _ _ _ _ (ae 13) (@af _ _ _ _ _ _ (ae 14) (@af _ _ _ _ _ _ (@au _ _ _ (cA (fw T) T.x__law_amount hr 0 4 (bC 4 (@af _ _ _ _ _ _ ag (@af _ _ _ _ _ _ (@aq _ _ _ _ _ _ (ae 7) ag (fun _ _=>rfl)) ah (by kernel_rfl)) (by kernel_rfl))))) ah (by kernel_rfl)) (by kernel_rfl)) (by kernel_rfl)) (by kernel_rfl)))))))) (@ao _ _ _ (@az _ _ _ _ (@bu _ _ _ _ _ _ (@af _ _ _ _ _ _ (ae 10) (@af _ _ _ _ _ _ (ae 11) ah (by kernel_rfl)) (by kernel_rfl))))))))))))))))
  sM
theorem bT:ax Bi ["_law_ring_here"] (ak oJ):=⟨rfl,rfl,rfl,by decide +kernel,rfl,by decide +kernel,by decide +kernel⟩
theorem yT(T:Tx K mg ad fd):FnOk P w K mg base CX0 1 (ad 52) (fd 52) ["_law_ring_here"] (spF K 1 mf) :=
 aT (k:=0) T.x__law_on.f bT pf (fun cdv A outer s H E hr=>(ai (av (i:=1) bT.nd rfl (by walk_at "o") (b6 ah))
  (ai (dG PassesOwn.never rfl (aY (aq (ae 0) ag (fun _ _=>rfl))) (tJ rfl (b9 (i:=2) bT.nd rfl (by walk_at "o") (b9 (i:=3) bT.nd rfl (by walk_at "o") (b9 (i:=4) bT.nd rfl (by walk_at "o") (b9 (i:=5) bT.nd rfl (by walk_at "o") nX))))) (ai (av (i:=6) bT.nd rfl (by walk_at "o") (b6 ah))
  (ai (av (i:=7) bT.nd rfl (by walk_at "o") (ae 3))
  (ai (fT PassesOwn.never (pbc (pM hr.units) (ae 7) (ae 4) (aH _)) (ai (cQ (da 6 (ae 7)))
  (ao (av (i:=7) bT.nd rfl (by walk_at "o") (ar cy (ar bf (ae 7) ag) (aG bz rfl T.z_len (by decide +kernel) (af (aq (ae 0) ag (fun _ _=>rfl)) ah)))))))
  (ao (cQ (da 1 (ae 6))))))))
  (ao (az (bW 1))))))
  wu
theorem bp:ax kR ["_law_some"] (ak dO):=⟨rfl,rfl,rfl,by decide +kernel,rfl,by decide +kernel,by decide +kernel⟩
theorem qc(T:Tx K mg ad fd):FnOk P w K mg base CX0 1 (ad 53) (fd 53) ["_law_some"] (spF K 1 ft) :=
 aT (k:=0) T.x__law_wholes.f bp gz (fun cdv A outer s H E hr=>(ai (av (i:=1) bp.nd rfl (by walk_at "o") ag)
  (ai (dG PassesOwn.never rfl (aY (ae 0)) (dj (i:=2) bp.nd rfl (by walk_at "o")) (ai (av (i:=3) bp.nd rfl (by walk_at "o") (ae 1))
  (ai (av (i:=4) bp.nd rfl (by walk_at "o") (aq (ae 2) ag (fun _ _=>rfl)))
  (ai (fT PassesOwn.never (pbc (pM hr.units) (ae 4) ag (aH _)) (ao (DZ (i:=3) (j:=4) rfl bp.nd rfl rfl (by decide) rfl rfl (ae 4) (ar cy (ae 3) (ae 4)) rfl)))
  (ao (av (i:=1) bp.nd rfl (by walk_at "o") (au (ar aQ (ar gS (ae 1) (ae 3)) (aq (ae 2) ag (fun _ _=>rfl))))))))))
  (ao (az (bu (af (au (ba (sc:=(ak dO)) (N:=kR) (Nt:=["_law_part"]) (Nf:=["_law_bottom"]) (fi:=[1]) rfl rfl rfl (aY (ae 0)) rfl (by decide +kernel) (by decide +kernel) (by decide +kernel) (by decide) rfl (by decide +kernel) (by decide) (fun _ _ _ _=>(a9 (by decide) (show((["_law_part"]:List Str)++(["_law_bottom"]:List Str)).Nodup by decide +kernel) rfl (Or.inl rfl))) (fun _ _ _ _=>aX) (fun _ _ _ _=>(ar aQ (aq (ae 0) ag (fun _ _=>rfl)) (ar gS (ae 1) (aq (ae 0) ag (fun _ _=>rfl))))))) (af (ae 1) ah))))))))
  ph
theorem ck:ax d4 ["_law_many"] (ak bN):=⟨rfl,rfl,rfl,by decide +kernel,rfl,by decide +kernel,by decide +kernel⟩
theorem nD(T:Tx K mg ad fd):FnOk P w K mg base CX0 1 (ad 54) (fd 54) ["_law_many"] (spF K 1 dE) :=
 aT (k:=0) T.x__law_all_ways.f ck eA (fun cdv A outer s H E hr=>(ai (av (i:=1) ck.nd rfl (by walk_at "o") (b6 (af (au (b6 ah)) ah)))
  (ai (dG PassesOwn.never rfl (cx rfl T.z_range (ae 0)) (dj (i:=2) ck.nd rfl (by walk_at "o")) (ao (av (i:=1) ck.nd rfl (by walk_at "o") (ar bf (ba (sc:=(ak bN)) (N:=d4) (Nt:=["_law_ways"]) (Nf:=[]) (fi:=[]) rfl rfl rfl (aY (ae 1)) rfl (by decide +kernel) (by decide +kernel) (by decide +kernel) (by decide) rfl (by decide +kernel) (by decide) (fun _ _ _ _=>(a9 (by decide) (show((["_law_ways"]:List Str)++([]:List Str)).Nodup by decide +kernel) rfl (Or.inl rfl))) (fun _ _ _ _=>aX) (fun _ _ _ _=>(ar bf (ae 0) (b6 (af gI ah))))) (ba (sc:=(ak bN)) (N:=d4) (Nt:=["_law_ways"]) (Nf:=[]) (fi:=[]) rfl rfl rfl (aY (ae 1)) rfl (by decide +kernel) (by decide +kernel) (by decide +kernel) (by decide) rfl (by decide +kernel) (by decide) (fun _ _ _ _=>(a9 (by decide) (show((["_law_ways"]:List Str)++([]:List Str)).Nodup by decide +kernel) rfl (Or.inl rfl))) (fun _ _ _ _=>aX) (fun _ _ _ _=>(ar bf (ae 0) (b6 (af gI ah)))))))))
  (ao (az (bW 1))))))
  mh
theorem c6:ax yH ["_law_ring_here","_law_loads_here","_law_bottom"] (ak lV):=⟨rfl,rfl,rfl,by decide +kernel,rfl,by decide +kernel,by decide +kernel⟩
theorem pJ(T:Tx K mg ad fd):FnOk P w K mg base CX0 2 (ad 55) (fd 55) ["_law_ring_here","_law_loads_here","_law_bottom"] (spF K 3 gB) :=
 aT (k:=1) T.x__law_top.f c6 mi (fun cdv A outer s H E hr=>(ai (av (i:=3) c6.nd rfl (by walk_at "o") (bu (af ag (af ag ah))))
  (ai (dG PassesOwn.never rfl (cx rfl T.z_range (aG bz rfl T.z_len (by decide +kernel) (af (ae 1) ah))) (dj (i:=4) c6.nd rfl (by walk_at "o")) (ai (av (i:=5) c6.nd rfl (by walk_at "o") (aq (aq (ae 0) ag (fun _ _=>rfl)) (ae 4) (fun _ _=>rfl)))
  (ai (av (i:=6) c6.nd rfl (by walk_at "o") (bu (af (au (ar aQ (aq (ae 1) (ae 4) (fun _ _=>rfl)) (aq (ae 5) ag (fun _ _=>rfl)))) (af (au (ar aQ (ae 2) (aq (ae 5) ag (fun _ _=>rfl)))) ah))))
  (ao (bL (pbc qV (ar aQ (aq (ae 3) ag (fun _ _=>rfl)) (aq (ae 6) ag (fun _ _=>rfl))) (ar aQ (aq (ae 6) ag (fun _ _=>rfl)) (aq (ae 3) ag (fun _ _=>rfl))) (aH _)) (ao (av (i:=3) c6.nd rfl (by walk_at "o") (ae 6))) aN)))))
  (ao (az (aE (pH T) T.x__law_low hr (af (aq (ae 3) ag (fun _ _=>rfl)) (af (aq (ae 3) ag (fun _ _=>rfl)) ah))))))))
  uN
theorem dQ:ax mH ["_law_ring_here","_law_on_here","_law_sizes","_law_ways"] (ak eO):=⟨rfl,rfl,rfl,by decide +kernel,rfl,by decide +kernel,by decide +kernel⟩
theorem lE(T:Tx K mg ad fd):FnOk P w K mg base CX0 1 (ad 56) (fd 56) ["_law_ring_here","_law_on_here","_law_sizes","_law_ways"] (spF K 4 dP) :=
 aT (k:=0) T.x__law_loads.f dQ iG (fun cdv A outer s H E hr=>(ai (n6 dQ.nd (j:=4) rfl (by walk_at "o") (sc:=(ak eO)) (N:=mH) (Nt:=["_law_room"]) (Nf:=[]) (fi:=[]) rfl rfl rfl (aY (aq (ae 0) ag (fun _ _=>rfl))) rfl (by decide +kernel) (by decide +kernel) (by decide +kernel) (by decide) rfl (by decide +kernel) (by decide) (fun _ _ _ _=>(a9 (by decide) (show((["_law_room"]:List Str)++([]:List Str)).Nodup by decide +kernel) rfl (Or.inl rfl))) (fun _ _ _ _=>aX) (fun _ _ _ _=>ag))
  (ai (dG PassesOwn.never rfl (cx rfl T.z_range (aG bz rfl T.z_len (by decide +kernel) (af (ae 3) ah))) (dj (i:=5) dQ.nd rfl (by walk_at "o")) (ao (dG PassesOwn.never rfl (cx rfl T.z_range (eH (vk 4 rfl T.z_len) (aG bz rfl T.z_len PySem.boot_len (af (ae 4) ah)))) (dj (i:=6) dQ.nd rfl (by walk_at "o")) (ao (bL (pbc (eY hr.units) (cw G7 (ae 6) (aq (ae 1) (ae 5) (fun _ _=>rfl)) rfl) (cw (eY hr.units) (aq (ae 3) (ae 5) (fun _ _=>rfl)) gI (aH _)) (aH _)) (ao (n4 4 (ae 6) (ar bf (eH (gT 4 (ae 6) (fun _ _=>rfl)) (aq (ae 4) (ae 6) (fun _ _=>rfl))) (aq (ae 2) (ae 5) (fun _ _=>rfl))))) aN)))))
  (ao (az (bW 4))))))
  p7
theorem cM:ax uD ["_law_ring_here","_law_on_here","_law_wholes_here"] (ak hX):=⟨rfl,rfl,rfl,by decide +kernel,rfl,by decide +kernel,by decide +kernel⟩
theorem sX(T:Tx K mg ad fd):FnOk P w K mg base CX0 3 (ad 57) (fd 57) ["_law_ring_here","_law_on_here","_law_wholes_here"] (spF K 3 gC) :=
 aT (k:=2) T.x__law_least.f cM iH (fun cdv A outer s H E hr=>(ai (av (i:=3) cM.nd rfl (by walk_at "o") i9)
  (ai (dG PassesOwn.never rfl (aY (aE (nD T) T.x__law_all_ways hr (af (au (aG bz rfl T.z_len (by decide +kernel) (af (aq (ae 0) ag (fun _ _=>rfl)) ah))) ah))) (dj (i:=4) cM.nd rfl (by walk_at "o")) (ai (av (i:=5) cM.nd rfl (by walk_at "o") (au (aE (pJ T) T.x__law_top hr (af (ae 0) (af (au (aE (lE T) T.x__law_loads hr (af (ae 0) (af (ae 1) (af (aq (ae 2) ag (fun _ _=>rfl)) (af (ae 4) ah)))))) (af (aq (ae 2) ag (fun _ _=>rfl)) ah))))))
  (ao (bL (PBw.pb (mz (pbc vn (ae 3) i9 (aH _)) (lG (pbc qV (ar aQ (aq (ae 5) ag (fun _ _=>rfl)) (aq (ae 3) ag (fun _ _=>rfl))) (ar aQ (aq (ae 3) ag (fun _ _=>rfl)) (aq (ae 5) ag (fun _ _=>rfl))) (aH _))))) (ao (av (i:=3) cM.nd rfl (by walk_at "o") (ae 5))) aN))))
  (ao (az (bW 3))))))
  p8
theorem u3:ax jR ["_law_thing"] (ak d5):=⟨rfl,rfl,rfl,by decide +kernel,rfl,by decide +kernel,by decide +kernel⟩
theorem gG(T:Tx K mg ad fd):∀ n,FnOk P w K mg base CX0 (1+n) (ad 58) (fd 58) ["_law_thing"] (spF K 1 (bR n))
 |0=>z6 uO
 | n+1=>aT (k:=1+n) T.x__law_copy.f u3 (kd (bR n)) (fun cdv A outer s H E hr=>(ai (bL (bG (fB wY rfl T.z_isinstance rfl T.z_list (by decide +kernel) (ae 0))) (ao (az (ba (sc:=(ak d5)) (N:=jR) (Nt:=["_law_one"]) (Nf:=[]) (fi:=[]) rfl rfl rfl (aY (ae 0)) rfl (by decide +kernel) (by decide +kernel) (by decide +kernel) (by decide) rfl (by decide +kernel) (by decide) (fun _ _ _ _=>(a9 (by decide) (show((["_law_one"]:List Str)++([]:List Str)).Nodup by decide +kernel) rfl (Or.inl rfl))) (fun _ _ _ _=>aX) (fun _ _ _ _=>(aE (gG T n) T.x__law_copy hr (af (ae 0) ah) (hk:=by omega)))))) aN)
  (ai (bL (bG (fB gU rfl T.z_isinstance rfl T.z_tuple (by decide +kernel) (ae 0))) (ao (az (CF (CC (sc:=(ak d5)) (N:=jR) (Nt:=["_law_one"]) (Nf:=[]) (fi:=[]) rfl rfl rfl (aY (ae 0)) rfl (by decide +kernel) (by decide +kernel) (by decide +kernel) (by decide) rfl (by decide +kernel) (by decide) (fun _ _ _ _=>(a9 (by decide) (show((["_law_one"]:List Str)++([]:List Str)).Nodup by decide +kernel) rfl (Or.inl rfl))) (fun _ _ _ _=>aX) (fun _ _ _ _=>(aE (gG T n) T.x__law_copy hr (af (ae 0) ah) (hk:=by omega)))) rfl T.z_tuple))) aN)
  (ao (az (bW 0))))))
  (sN n)
theorem u4(T:Tx K mg ad fd):FnOk P w K mg base CX0 10 (ad 58) (fd 58) ["_law_thing"] (spF K 1 mV):=gG T 9
theorem nE:ax ia ["_law_thing","_law_many"] (ak cF):=⟨rfl,rfl,rfl,by decide +kernel,rfl,by decide +kernel,by decide +kernel⟩
theorem nF(T:Tx K mg ad fd):FnOk P w K mg base CX0 1 (ad 59) (fd 59) ["_law_thing","_law_many"] (spF K 2 dF) :=
 aT (k:=0) T.x__law_are_ways.f nE eB (fun cdv A outer s H E hr=>(ai (bL (PBw.pb (mz (kq (bG (fB wY rfl T.z_isinstance rfl T.z_list (by decide +kernel) (ae 0)))) (lG (pbc (pM hr.units) (aG bz rfl T.z_len (by decide +kernel) (af (ae 0) ah)) (ae 1) (aH _))))) (ao (az nU)) aN)
  (ao (az (aG (D1 rfl) rfl T.z_all (by decide +kernel) (af (au (ba (sc:=(ak cF)) (N:=ia) (Nt:=["_law_way"]) (Nf:=[]) (fi:=[]) rfl rfl rfl (aY (ae 0)) rfl (by decide +kernel) (by decide +kernel) (by decide +kernel) (by decide) rfl (by decide +kernel) (by decide) (fun _ _ _ _=>(a9 (by decide) (show((["_law_way"]:List Str)++([]:List Str)).Nodup by decide +kernel) rfl (Or.inl rfl))) (fun _ _ _ _=>aX) (fun _ _ _ _=>(fA (fB zz rfl T.z_isinstance rfl T.z_str (by decide +kernel) (ae 0)) (gQ (cw G7 (ae 0) (bu (af gI (af gI ah))) rfl)))))) ah))))))
  mj
theorem u5:ax oK ["_law_ring_here","_law_on_here","_law_wholes_here","_law_least_here","_law_found"] (ak gh):=⟨rfl,rfl,rfl,by decide +kernel,rfl,by decide +kernel,by decide +kernel⟩
theorem m5(T:Tx K mg ad fd):FnOk P w K mg base CX0 3 (ad 60) (fd 60) ["_law_ring_here","_law_on_here","_law_wholes_here","_law_least_here","_law_found"] (spF K 5 eV) :=
 aT (k:=2) T.x__law_good.f u5 ke (fun cdv A outer s H E hr=>(ai (bL (PBw.pb (mz (kq (bG (fB gU rfl T.z_isinstance rfl T.z_tuple (by decide +kernel) (ae 4)))) (mz (pbc (pM hr.units) (aG bz rfl T.z_len (by decide +kernel) (af (ae 4) ah)) ag (aH _)) (mz (kq (bG (fB gU rfl T.z_isinstance rfl T.z_tuple (by decide +kernel) (aq (ae 4) ag (fun _ _=>rfl))))) (lG (pbc (pM hr.units) (aq (ae 4) ag (fun _ _=>rfl)) (ae 3) (aH _))))))) (ao (az nU)) aN)
  (ai (bL (kq (bG (aG (D1 rfl) rfl T.z_all (by decide +kernel) (af (au (ba (sc:=(ak gh)) (N:=oK) (Nt:=["_law_part"]) (Nf:=[]) (fi:=[]) rfl rfl rfl (aY (aq (ae 4) ag (fun _ _=>rfl))) rfl (by decide +kernel) (by decide +kernel) (by decide +kernel) (by decide) rfl (by decide +kernel) (by decide) (fun _ _ _ _=>(a9 (by decide) (show((["_law_part"]:List Str)++([]:List Str)).Nodup by decide +kernel) rfl (Or.inl rfl))) (fun _ _ _ _=>aX) (fun _ _ _ _=>(fA (fB zy rfl T.z_isinstance rfl T.z_int (by decide +kernel) (ae 0)) (gQ (DW (fB wX rfl T.z_isinstance rfl T.z_bool (by decide +kernel) (ae 0)))))))) ah)))) (ao (az nU)) aN)
  (ai (bL (kq (bG (aE (nF T) T.x__law_are_ways hr (af (aq (ae 4) ag (fun _ _=>rfl)) (af (au (aG bz rfl T.z_len (by decide +kernel) (af (aq (ae 0) ag (fun _ _=>rfl)) ah))) ah))))) (ao (az nU)) aN)
  (ao (az (cw (eY hr.units) (aE (pJ T) T.x__law_top hr (af (ae 0) (af (au (aE (lE T) T.x__law_loads hr (af (ae 0) (af (ae 1) (af (aq (ae 2) ag (fun _ _=>rfl)) (af (aq (ae 4) ag (fun _ _=>rfl)) ah)))))) (af (aq (ae 2) ag (fun _ _=>rfl)) ah)))) (ae 3) (aH _))))))))
  sO
theorem u6:ax v9 ["_law_ring_here","_law_wish","_law_tree"] (ak jS):=⟨rfl,rfl,rfl,by decide +kernel,rfl,by decide +kernel,by decide +kernel⟩
theorem u7(T:Tx K mg ad fd):FnOk P w K mg base CX0 7 (ad 61) (fd 61) ["_law_ring_here","_law_wish","_law_tree"] (spF K 3 iI) :=
 aT (k:=6) T.x__law_lets.f u6 kf (fun cdv A outer s H E hr=>(ai (Hs (fun _ _ z=>z) (ao (cQ (aE (pF T) T.x_look_at_tree hr (af (ae 0) (af (ae 1) (af (ae 2) ah)))))))
  (ao (az nU))))
  sP
theorem pK:ax Gh ["_law_script"] (ak yI):=⟨rfl,rfl,rfl,by decide +kernel,rfl,by decide +kernel,by decide +kernel⟩
theorem Ir(T:Tx K mg ad fd):FnOk P w K mg base CX0 17 (ad 62) (fd 62) ["_law_script"] (spF K 1 fs_law) :=
 aT (k:=16) T.x_law.f pK Gq (fun cdv A outer s H E hr=>by exact(@ai _ _ _ _ _ (@av _ _ _ 1 _ _ _ pK.nd rfl (by walk_at "o") (@au _ _ _ (aE (uZ T) T.x__law_ring hr (@af _ _ _ _ _ _ (ae 0) (@af _ _ _ _ _ _ ag (@af _ _ _ _ _ _ ag (@af _ _ _ _ _ _ ag ah (by kernel_rfl)) (by kernel_rfl)) (by kernel_rfl)) (by kernel_rfl)))) (by kernel_rfl) (by first | exact .inl rfl | exact .inr rfl)) (@ai _ _ _ _ _ (@av _ _ _ 2 _ _ _ pK.nd rfl (by walk_at "o") (@au _ _ _ (aE (yT T) T.x__law_on hr (@af _ _ _ _ _ _ (ae 1) ah (by kernel_rfl)))) (by kernel_rfl) (by first | exact .inl rfl | exact .inr rfl)) (@ai _ _ _ _ _ (@av _ _ _ 3 _ _ _ pK.nd rfl (by walk_at "o") (@au _ _ _ (aE (qc T) T.x__law_wholes hr (@af _ _ _ _ _ _ (@au _ _ _ (ba (sc:=(ak yI)) (N:=Gh) (Nt:=[ "_law_ask" ]) (Nf:=[]) (fi:=[]) rfl rfl rfl (aY (@aq _ _ _ _ _ _ (ae 1) ag (fun _ _=>rfl))) rfl (by decide +kernel) (by decide +kernel) (by decide +kernel) (by decide) rfl (by decide +kernel) (by decide) (fun _ _ _ _=>(a9 (by decide) (show(([ "_law_ask" ]:List Str)++([]:List Str)).Nodup by decide +kernel) rfl (Or.inl rfl))) (fun _ _ _ _=>aX) (fun _ _ _ _=>(@aq _ _ _ _ _ _ (ae 0) ag (fun _ _=>rfl))))) ah (by kernel_rfl)))) (by kernel_rfl) (by first | exact .inl rfl | exact .inr rfl)) (@ai _ _ _ _ _ (@av _ _ _ 4 _ _ _ pK.nd rfl (by walk_at "o") (@au _ _ _ (aE (sX T) T.x__law_least hr (@af _ _ _ _ _ _ (ae 1) (@af _ _ _ _ _ _ (ae 2) (@af _ _ _ _ _ _ (ae 3) ah (by kernel_rfl)) (by kernel_rfl)) (by kernel_rfl)))) (by kernel_rfl) (by first | exact .inl rfl | exact .inr rfl)) (@ai _ _ _ _ _ (@av _ _ _ 5 _ _ _ pK.nd rfl (by walk_at "o") (aE (u4 T) T.x__law_copy hr (@af _ _ _ _ _ _ (ae 1) ah (by kernel_rfl))) (by kernel_rfl) (by first | exact .inl rfl | exact .inr rfl)) (@ai _ _ _ _ _ (@av _ _ _ 6 _ _ _ pK.nd rfl (by walk_at "o") (fV 5 (aE (m4 T) T.x_best_ways hr (@af _ _ _ _ _ _ (ae 5) ah (by kernel_rfl)))) (by kernel_rfl) (by first | exact .inl rfl | exact .inr rfl)) (@ai _ _ _ _ _ (@bL _ _ _ _ _ _ _ _ (PBw.pb (mz (kq (bG (fV 6 (aE (m5 T) T.x__law_good hr (@af _ _ _ _ _ _ (ae 1) (@af _ _ _ _ _ _ (ae 2) (@af _ _ _ _ _ _ (ae 3) (@af _ _ _ _ _ _ (ae 4) (@af _ _ _ _ _ _ (ae 6) ah (by kernel_rfl)) (by kernel_rfl)) (by kernel_rfl)) (by kernel_rfl)) (by kernel_rfl)))))) (lG (vq 5 (pbc (pM hr.units) (ae 5) (ae 1) (aH _)))))) (@ao _ _ _ (@az _ _ _ _ nU)) aN) (@ai _ _ _ _ _ (@bL _ _ _ _ _ _ _ _ (kq (bG (fV 6 (aE (u7 T) T.x__law_lets hr (@af _ _ _ _ _ _ (ae 1) (@af _ _ _ _ _ _ (@bu _ _ _ _ _ _ (@af _ _ _ _ _ _ (ae 4) (@af _ _ _ _ _ _ nU (@af _ _ _ _ _ _ (@au _ _ _ (ba (sc:=(ak yI)) (N:=Gh) (Nt:=[ "_law_ask" ]) (Nf:=[]) (fi:=[]) rfl rfl rfl (aY (@aq _ _ _ _ _ _ (ae 1) ag (fun _ _=>rfl))) rfl (by decide +kernel) (by decide +kernel) (by decide +kernel) (by decide) rfl (by decide +kernel) (by decide) (fun _ _ _ _=>(a9 (by decide) (show(([ "_law_ask" ]:List Str)++([]:List Str)).Nodup by decide +kernel) rfl (Or.inl rfl))) (fun _ _ _ _=>aX) (fun _ _ _ _=>i9))) (@af _ _ _ _ _ _ ag ah (by kernel_rfl)) (by kernel_rfl)) (by kernel_rfl)) (by kernel_rfl))) (@af _ _ _ _ _ _ (fV 6 (@aq _ _ _ _ _ _ (ae 6) ag (fun _ _=>rfl))) ah (by kernel_rfl)) (by kernel_rfl)) (by kernel_rfl)))))) (@ao _ _ _ (@az _ _ _ _ nU)) aN) (@ai _ _ _ _ _ (cQ (Cs 6 ag gI (fun _ _=>rfl))) (@ai _ _ _ _ _ (cQ (qt 5 ag (fun _ _=>rfl))) (@ai _ _ _ _ _ (cQ (qt 5 ag (fun _ _=>rfl))) (@ao _ _ _ (@az _ _ _ _ (aE (m5 T) T.x__law_good hr (@af _ _ _ _ _ _ (ae 1) (@af _ _ _ _ _ _ (ae 2) (@af _ _ _ _ _ _ (ae 3) (@af _ _ _ _ _ _ (ae 4) (@af _ _ _ _ _ _ (@au _ _ _ (aE (m4 T) T.x_best_ways hr (@af _ _ _ _ _ _ (ae 1) ah (by kernel_rfl)))) ah (by kernel_rfl)) (by kernel_rfl)) (by kernel_rfl)) (by kernel_rfl)) (by kernel_rfl)))))))))))))))))
  Gr
end
def adF(i:Nat):Addr:=([21,28,35,42,49,56,127,134,141,148,155,162,169,176,183,190,195,207,212,200,219,226,233,238,243,248,255,260,267,272,279,286,293,322,317,312,305,298,344,337,332,327,349,354,361,368,387,375,382,394,401,408,420,413,437,432,425,444,461,456,466,451,471]:List Addr).getD i 0
abbrev md0:Value:=(.str "ringloads.divisors" 187)
abbrev md1:Value:=(.str "ringloads.names" 206)
abbrev md2:Value:=(.str "ringloads.ratios" 324)
abbrev md3:Value:=(.str "ringloads.cuts" 387)
abbrev md4:Value:=(.str "ringloads.units" 420)
abbrev md5:Value:=(.str "ringloads.ways" 443)
abbrev md6:Value:=(.str "ringloads.loads" 470)
abbrev md7:Value:=(.str "ringloads.sendings" 512)
abbrev md8:Value:=(.str "ringloads.wishes" 528)
abbrev md9:Value:=(.str "ringloads.trees" 553)
abbrev md10:Value:=(.str "ringloads.search" 609)
abbrev md11:Value:=(.str "ringloads.best" 643)
abbrev md12:Value:=(.str "law_ringloads_k50_best_ways_told" 657)
def fdF(i:Nat):FuncData:=[fdM "greatest_shared" cT md0 20,fdM "least_common" fb md0 27,fdM "is_whole" lR md1 34,fdM "is_number_below" cU md1 41,fdM "are_two_wholes" dz md1 48,fdM "is_told_as" g9 md1 55,fdM "lowest" rP md2 126,fdM "plus" Bf md2 133,fdM "minus" vT md2 140,fdM "times" vU md2 147,fdM "over" Bg md2 154,fdM "under" vV md2 161,fdM "sum_of" rQ md2 168,fdM "is_cut" rR md3 175,fdM "is_within" jI md3 182,fdM "parts_places" fc md3 189,fdM "all_cuts" iU md3 194,fdM "common_bottom" dZ md4 206,fdM "in_units" iV md4 211,fdM "weighed" hC md4 199,fdM "other_way" jJ md5 218,fdM "is_over" oG md5 225,fdM "sent_over" jK md6 232,fdM "load_of" kO md6 237,fdM "loads_of" iW md6 242,fdM "strains_of" eM md6 247,fdM "top_of" rS md6 254,fdM "sent_by" kP md7 259,fdM "top_by" rT md7 266,fdM "turned_by" fY md8 271,fdM "is_too_much" fZ md8 278,fdM "are_too_many" ff md8 285,fdM "is_split" lT md9 292,fdM "times_over" eN md9 321,fdM "is_too_full" dN md9 316,fdM "can_stand" jL md9 311,fdM "branch_of" jM md9 304,fdM "look_at_tree" c7 md9 297,fdM "reason_against" dA md10 343,fdM "searched" iX md10 336,fdM "bounds_of" d3 md10 331,fdM "ways_for" iY md10 326,fdM "wish_for_less" cD md11 348,fdM "best_ways" gb md11 353,fdM "_law_begun" hJ md12 360,fdM "_law_take" jO md12 367,fdM "_law_names" de md12 386,fdM "_law_low" lU md12 374,fdM "_law_amount" gf md12 381,fdM "_law_rooms" hW md12 393,fdM "_law_ends" jP md12 400,fdM "_law_ring" jQ md12 407,fdM "_law_on" oJ md12 419,fdM "_law_wholes" dO md12 412,fdM "_law_all_ways" bN md12 436,fdM "_law_top" lV md12 431,fdM "_law_loads" eO md12 424,fdM "_law_least" hX md12 443,fdM "_law_copy" d5 md12 460,fdM "_law_are_ways" cF md12 455,fdM "_law_good" gh md12 465,fdM "_law_lets" jS md12 450,fdM "law" yI md12 470].getD i (fdM "law" yI md0 0)
theorem tx{Pm:Params}{h:Heap}{mg:Str→Option Value}(X:(Hd.Kf Pm).In h)(G:h.Ns mainGlobals mg):Tx (Hd.Kf Pm) mg adF fdF where
 x_greatest_shared:=FX.mk' X G (a:=21) (c:=20) (md:=md0) (by kernel_rfl) (by kernel_rfl) (by kernel_rfl) (by kernel_rfl) fun _ _ _ _ _ _ u l=>match u,l with | [_,_],_=>rfl
 x_least_common:=FX.mk' X G (a:=28) (c:=27) (md:=md0) (by kernel_rfl) (by kernel_rfl) (by kernel_rfl) (by kernel_rfl) fun _ _ _ _ _ _ u l=>match u,l with | [_,_],_=>rfl
 x_is_whole:=FX.mk' X G (a:=35) (c:=34) (md:=md1) (by kernel_rfl) (by kernel_rfl) (by kernel_rfl) (by kernel_rfl) fun _ _ _ _ _ _ u l=>match u,l with | [_],_=>rfl
 x_is_number_below:=FX.mk' X G (a:=42) (c:=41) (md:=md1) (by kernel_rfl) (by kernel_rfl) (by kernel_rfl) (by kernel_rfl) fun _ _ _ _ _ _ u l=>match u,l with | [_,_],_=>rfl
 x_are_two_wholes:=FX.mk' X G (a:=49) (c:=48) (md:=md1) (by kernel_rfl) (by kernel_rfl) (by kernel_rfl) (by kernel_rfl) fun _ _ _ _ _ _ u l=>match u,l with | [_],_=>rfl
 x_is_told_as:=FX.mk' X G (a:=56) (c:=55) (md:=md1) (by kernel_rfl) (by kernel_rfl) (by kernel_rfl) (by kernel_rfl) fun _ _ _ _ _ _ u l=>match u,l with | [_,_,_],_=>rfl
 x_lowest:=FX.mk' X G (a:=127) (c:=126) (md:=md2) (by kernel_rfl) (by kernel_rfl) (by kernel_rfl) (by kernel_rfl) fun _ _ _ _ _ _ u l=>match u,l with | [_,_],_=>rfl
 x_plus:=FX.mk' X G (a:=134) (c:=133) (md:=md2) (by kernel_rfl) (by kernel_rfl) (by kernel_rfl) (by kernel_rfl) fun _ _ _ _ _ _ u l=>match u,l with | [_,_],_=>rfl
 x_minus:=FX.mk' X G (a:=141) (c:=140) (md:=md2) (by kernel_rfl) (by kernel_rfl) (by kernel_rfl) (by kernel_rfl) fun _ _ _ _ _ _ u l=>match u,l with | [_,_],_=>rfl
 x_times:=FX.mk' X G (a:=148) (c:=147) (md:=md2) (by kernel_rfl) (by kernel_rfl) (by kernel_rfl) (by kernel_rfl) fun _ _ _ _ _ _ u l=>match u,l with | [_,_],_=>rfl
 x_over:=FX.mk' X G (a:=155) (c:=154) (md:=md2) (by kernel_rfl) (by kernel_rfl) (by kernel_rfl) (by kernel_rfl) fun _ _ _ _ _ _ u l=>match u,l with | [_,_],_=>rfl
 x_under:=FX.mk' X G (a:=162) (c:=161) (md:=md2) (by kernel_rfl) (by kernel_rfl) (by kernel_rfl) (by kernel_rfl) fun _ _ _ _ _ _ u l=>match u,l with | [_,_],_=>rfl
 x_sum_of:=FX.mk' X G (a:=169) (c:=168) (md:=md2) (by kernel_rfl) (by kernel_rfl) (by kernel_rfl) (by kernel_rfl) fun _ _ _ _ _ _ u l=>match u,l with | [_],_=>rfl
 x_is_cut:=FX.mk' X G (a:=176) (c:=175) (md:=md3) (by kernel_rfl) (by kernel_rfl) (by kernel_rfl) (by kernel_rfl) fun _ _ _ _ _ _ u l=>match u,l with | [_,_],_=>rfl
 x_is_within:=FX.mk' X G (a:=183) (c:=182) (md:=md3) (by kernel_rfl) (by kernel_rfl) (by kernel_rfl) (by kernel_rfl) fun _ _ _ _ _ _ u l=>match u,l with | [_,_],_=>rfl
 x_parts_places:=FX.mk' X G (a:=190) (c:=189) (md:=md3) (by kernel_rfl) (by kernel_rfl) (by kernel_rfl) (by kernel_rfl) fun _ _ _ _ _ _ u l=>match u,l with | [_,_,_],_=>rfl
 x_all_cuts:=FX.mk' X G (a:=195) (c:=194) (md:=md3) (by kernel_rfl) (by kernel_rfl) (by kernel_rfl) (by kernel_rfl) fun _ _ _ _ _ _ u l=>match u,l with | [_],_=>rfl
 x_common_bottom:=FX.mk' X G (a:=207) (c:=206) (md:=md4) (by kernel_rfl) (by kernel_rfl) (by kernel_rfl) (by kernel_rfl) fun _ _ _ _ _ _ u l=>match u,l with | [_],_=>rfl
 x_in_units:=FX.mk' X G (a:=212) (c:=211) (md:=md4) (by kernel_rfl) (by kernel_rfl) (by kernel_rfl) (by kernel_rfl) fun _ _ _ _ _ _ u l=>match u,l with | [_,_],_=>rfl
 x_weighed:=FX.mk' X G (a:=200) (c:=199) (md:=md4) (by kernel_rfl) (by kernel_rfl) (by kernel_rfl) (by kernel_rfl) fun _ _ _ _ _ _ u l=>match u,l with | [_,_],_=>rfl
 x_other_way:=FX.mk' X G (a:=219) (c:=218) (md:=md5) (by kernel_rfl) (by kernel_rfl) (by kernel_rfl) (by kernel_rfl) fun _ _ _ _ _ _ u l=>match u,l with | [_],_=>rfl
 x_is_over:=FX.mk' X G (a:=226) (c:=225) (md:=md5) (by kernel_rfl) (by kernel_rfl) (by kernel_rfl) (by kernel_rfl) fun _ _ _ _ _ _ u l=>match u,l with | [_,_,_,_],_=>rfl
 x_sent_over:=FX.mk' X G (a:=233) (c:=232) (md:=md6) (by kernel_rfl) (by kernel_rfl) (by kernel_rfl) (by kernel_rfl) fun _ _ _ _ _ _ u l=>match u,l with | [_,_,_,_],_=>rfl
 x_load_of:=FX.mk' X G (a:=238) (c:=237) (md:=md6) (by kernel_rfl) (by kernel_rfl) (by kernel_rfl) (by kernel_rfl) fun _ _ _ _ _ _ u l=>match u,l with | [_,_,_],_=>rfl
 x_loads_of:=FX.mk' X G (a:=243) (c:=242) (md:=md6) (by kernel_rfl) (by kernel_rfl) (by kernel_rfl) (by kernel_rfl) fun _ _ _ _ _ _ u l=>match u,l with | [_,_],_=>rfl
 x_strains_of:=FX.mk' X G (a:=248) (c:=247) (md:=md6) (by kernel_rfl) (by kernel_rfl) (by kernel_rfl) (by kernel_rfl) fun _ _ _ _ _ _ u l=>match u,l with | [_,_],_=>rfl
 x_top_of:=FX.mk' X G (a:=255) (c:=254) (md:=md6) (by kernel_rfl) (by kernel_rfl) (by kernel_rfl) (by kernel_rfl) fun _ _ _ _ _ _ u l=>match u,l with | [_,_],_=>rfl
 x_sent_by:=FX.mk' X G (a:=260) (c:=259) (md:=md7) (by kernel_rfl) (by kernel_rfl) (by kernel_rfl) (by kernel_rfl) fun _ _ _ _ _ _ u l=>match u,l with | [_,_],_=>rfl
 x_top_by:=FX.mk' X G (a:=267) (c:=266) (md:=md7) (by kernel_rfl) (by kernel_rfl) (by kernel_rfl) (by kernel_rfl) fun _ _ _ _ _ _ u l=>match u,l with | [_,_],_=>rfl
 x_turned_by:=FX.mk' X G (a:=272) (c:=271) (md:=md8) (by kernel_rfl) (by kernel_rfl) (by kernel_rfl) (by kernel_rfl) fun _ _ _ _ _ _ u l=>match u,l with | [_,_],_=>rfl
 x_is_too_much:=FX.mk' X G (a:=279) (c:=278) (md:=md8) (by kernel_rfl) (by kernel_rfl) (by kernel_rfl) (by kernel_rfl) fun _ _ _ _ _ _ u l=>match u,l with | [_,_,_],_=>rfl
 x_are_too_many:=FX.mk' X G (a:=286) (c:=285) (md:=md8) (by kernel_rfl) (by kernel_rfl) (by kernel_rfl) (by kernel_rfl) fun _ _ _ _ _ _ u l=>match u,l with | [_,_],_=>rfl
 x_is_split:=FX.mk' X G (a:=293) (c:=292) (md:=md9) (by kernel_rfl) (by kernel_rfl) (by kernel_rfl) (by kernel_rfl) fun _ _ _ _ _ _ u l=>match u,l with | [_],_=>rfl
 x_times_over:=FX.mk' X G (a:=322) (c:=321) (md:=md9) (by kernel_rfl) (by kernel_rfl) (by kernel_rfl) (by kernel_rfl) fun _ _ _ _ _ _ u l=>match u,l with | [_,_,_,_],_=>rfl
 x_is_too_full:=FX.mk' X G (a:=317) (c:=316) (md:=md9) (by kernel_rfl) (by kernel_rfl) (by kernel_rfl) (by kernel_rfl) fun _ _ _ _ _ _ u l=>match u,l with | [_,_,_,_,_],_=>rfl
 x_can_stand:=FX.mk' X G (a:=312) (c:=311) (md:=md9) (by kernel_rfl) (by kernel_rfl) (by kernel_rfl) (by kernel_rfl) fun _ _ _ _ _ _ u l=>match u,l with | [_,_,_,_,_],_=>rfl
 x_branch_of:=FX.mk' X G (a:=305) (c:=304) (md:=md9) (by kernel_rfl) (by kernel_rfl) (by kernel_rfl) (by kernel_rfl) fun _ _ _ _ _ _ u l=>match u,l with | [_,_],_=>rfl
 x_look_at_tree:=FX.mk' X G (a:=298) (c:=297) (md:=md9) (by kernel_rfl) (by kernel_rfl) (by kernel_rfl) (by kernel_rfl) fun _ _ _ _ _ _ u l=>match u,l with | [_,_,_],_=>rfl
 x_reason_against:=FX.mk' X G (a:=344) (c:=343) (md:=md10) (by kernel_rfl) (by kernel_rfl) (by kernel_rfl) (by kernel_rfl) fun _ _ _ _ _ _ u l=>match u,l with | [_,_,_,_],_=>rfl
 x_searched:=FX.mk' X G (a:=337) (c:=336) (md:=md10) (by kernel_rfl) (by kernel_rfl) (by kernel_rfl) (by kernel_rfl) fun _ _ _ _ _ _ u l=>match u,l with | [_,_,_,_,_,_],_=>rfl
 x_bounds_of:=FX.mk' X G (a:=332) (c:=331) (md:=md10) (by kernel_rfl) (by kernel_rfl) (by kernel_rfl) (by kernel_rfl) fun _ _ _ _ _ _ u l=>match u,l with | [_,_],_=>rfl
 x_ways_for:=FX.mk' X G (a:=327) (c:=326) (md:=md10) (by kernel_rfl) (by kernel_rfl) (by kernel_rfl) (by kernel_rfl) fun _ _ _ _ _ _ u l=>match u,l with | [_,_],_=>rfl
 x_wish_for_less:=FX.mk' X G (a:=349) (c:=348) (md:=md11) (by kernel_rfl) (by kernel_rfl) (by kernel_rfl) (by kernel_rfl) fun _ _ _ _ _ _ u l=>match u,l with | [_,_],_=>rfl
 x_best_ways:=FX.mk' X G (a:=354) (c:=353) (md:=md11) (by kernel_rfl) (by kernel_rfl) (by kernel_rfl) (by kernel_rfl) fun _ _ _ _ _ _ u l=>match u,l with | [_],_=>rfl
 x__law_begun:=FX.mk' X G (a:=361) (c:=360) (md:=md12) (by kernel_rfl) (by kernel_rfl) (by kernel_rfl) (by kernel_rfl) fun _ _ _ _ _ _ u l=>match u,l with | [_,_],_=>rfl
 x__law_take:=FX.mk' X G (a:=368) (c:=367) (md:=md12) (by kernel_rfl) (by kernel_rfl) (by kernel_rfl) (by kernel_rfl) fun _ _ _ _ _ _ u l=>match u,l with | [_,_],_=>rfl
 x__law_names:=FX.mk' X G (a:=387) (c:=386) (md:=md12) (by kernel_rfl) (by kernel_rfl) (by kernel_rfl) (by kernel_rfl) fun _ _ _ _ _ _ u l=>match u,l with | [_,_],_=>rfl
 x__law_low:=FX.mk' X G (a:=375) (c:=374) (md:=md12) (by kernel_rfl) (by kernel_rfl) (by kernel_rfl) (by kernel_rfl) fun _ _ _ _ _ _ u l=>match u,l with | [_,_],_=>rfl
 x__law_amount:=FX.mk' X G (a:=382) (c:=381) (md:=md12) (by kernel_rfl) (by kernel_rfl) (by kernel_rfl) (by kernel_rfl) fun _ _ _ _ _ _ u l=>match u,l with | [_,_,_],_=>rfl
 x__law_rooms:=FX.mk' X G (a:=394) (c:=393) (md:=md12) (by kernel_rfl) (by kernel_rfl) (by kernel_rfl) (by kernel_rfl) fun _ _ _ _ _ _ u l=>match u,l with | [_,_,_],_=>rfl
 x__law_ends:=FX.mk' X G (a:=401) (c:=400) (md:=md12) (by kernel_rfl) (by kernel_rfl) (by kernel_rfl) (by kernel_rfl) fun _ _ _ _ _ _ u l=>match u,l with | [_,_,_,_],_=>rfl
 x__law_ring:=FX.mk' X G (a:=408) (c:=407) (md:=md12) (by kernel_rfl) (by kernel_rfl) (by kernel_rfl) (by kernel_rfl) fun _ _ _ _ _ _ u l=>match u,l with | [_,_,_,_],_=>rfl
 x__law_on:=FX.mk' X G (a:=420) (c:=419) (md:=md12) (by kernel_rfl) (by kernel_rfl) (by kernel_rfl) (by kernel_rfl) fun _ _ _ _ _ _ u l=>match u,l with | [_],_=>rfl
 x__law_wholes:=FX.mk' X G (a:=413) (c:=412) (md:=md12) (by kernel_rfl) (by kernel_rfl) (by kernel_rfl) (by kernel_rfl) fun _ _ _ _ _ _ u l=>match u,l with | [_],_=>rfl
 x__law_all_ways:=FX.mk' X G (a:=437) (c:=436) (md:=md12) (by kernel_rfl) (by kernel_rfl) (by kernel_rfl) (by kernel_rfl) fun _ _ _ _ _ _ u l=>match u,l with | [_],_=>rfl
 x__law_top:=FX.mk' X G (a:=432) (c:=431) (md:=md12) (by kernel_rfl) (by kernel_rfl) (by kernel_rfl) (by kernel_rfl) fun _ _ _ _ _ _ u l=>match u,l with | [_,_,_],_=>rfl
 x__law_loads:=FX.mk' X G (a:=425) (c:=424) (md:=md12) (by kernel_rfl) (by kernel_rfl) (by kernel_rfl) (by kernel_rfl) fun _ _ _ _ _ _ u l=>match u,l with | [_,_,_,_],_=>rfl
 x__law_least:=FX.mk' X G (a:=444) (c:=443) (md:=md12) (by kernel_rfl) (by kernel_rfl) (by kernel_rfl) (by kernel_rfl) fun _ _ _ _ _ _ u l=>match u,l with | [_,_,_],_=>rfl
 x__law_copy:=FX.mk' X G (a:=461) (c:=460) (md:=md12) (by kernel_rfl) (by kernel_rfl) (by kernel_rfl) (by kernel_rfl) fun _ _ _ _ _ _ u l=>match u,l with | [_],_=>rfl
 x__law_are_ways:=FX.mk' X G (a:=456) (c:=455) (md:=md12) (by kernel_rfl) (by kernel_rfl) (by kernel_rfl) (by kernel_rfl) fun _ _ _ _ _ _ u l=>match u,l with | [_,_],_=>rfl
 x__law_good:=FX.mk' X G (a:=466) (c:=465) (md:=md12) (by kernel_rfl) (by kernel_rfl) (by kernel_rfl) (by kernel_rfl) fun _ _ _ _ _ _ u l=>match u,l with | [_,_,_,_,_],_=>rfl
 x__law_lets:=FX.mk' X G (a:=451) (c:=450) (md:=md12) (by kernel_rfl) (by kernel_rfl) (by kernel_rfl) (by kernel_rfl) fun _ _ _ _ _ _ u l=>match u,l with | [_,_,_],_=>rfl
 x_law:=FX.mk' X G (a:=471) (c:=470) (md:=md12) (by kernel_rfl) (by kernel_rfl) (by kernel_rfl) (by kernel_rfl) fun _ _ _ _ _ _ u l=>match u,l with | [_],_=>rfl
 z_abs:=PySem.W.mg_none_of X G (by kernel_rfl)
 z_all:=PySem.W.mg_none_of X G (by kernel_rfl)
 z_bool:=PySem.W.mg_none_of X G (by kernel_rfl)
 z_enumerate:=PySem.W.mg_none_of X G (by kernel_rfl)
 z_int:=PySem.W.mg_none_of X G (by kernel_rfl)
 z_isinstance:=PySem.W.mg_none_of X G (by kernel_rfl)
 z_len:=PySem.W.mg_none_of X G (by kernel_rfl)
 z_list:=PySem.W.mg_none_of X G (by kernel_rfl)
 z_range:=PySem.W.mg_none_of X G (by kernel_rfl)
 z_reversed:=PySem.W.mg_none_of X G (by kernel_rfl)
 z_str:=PySem.W.mg_none_of X G (by kernel_rfl)
 z_sum:=PySem.W.mg_none_of X G (by kernel_rfl)
 z_tuple:=PySem.W.mg_none_of X G (by kernel_rfl)
 z_zip:=PySem.W.mg_none_of X G (by kernel_rfl)
 g_BACK:=kB (PySem.W.mg_of X G (v:=(.str "back" 447)) (by kernel_rfl))
 g_CUT:=kB (PySem.W.mg_of X G (v:=(.str "cut" 555)) (by kernel_rfl))
 g_MOST_SEARCHED:=wZ (PySem.W.mg_of X G (v:=(.int 7 611)) (by kernel_rfl))
 g_MOST_WALKED:=wZ (PySem.W.mg_of X G (v:=(.int 300 561)) (by kernel_rfl))
 g_NOUGHT:=Cf (PySem.W.mg_of X G (v:=.ref 120) (by kernel_rfl)) (show(Hd.Kf Pm).lookup 120=some (Obj.mk (.type "tuple") none (.seq #[(.int 0 326),(.int 1 327)] 0) #[]) by kernel_rfl) ⟨_,_,[L2.V.int 0,L2.V.int 1],_,rfl,rfl,rfl,by decide,(.cons ⟨_,rfl⟩ (.cons ⟨_,rfl⟩ .nil)),fun K H=>(.cons (.int _) (.cons (.int _) .nil))⟩
 g_ON:=kB (PySem.W.mg_of X G (v:=(.str "on" 445)) (by kernel_rfl))
 g_SPLIT:=kB (PySem.W.mg_of X G (v:=(.str "split" 559)) (by kernel_rfl))
 g_TURNED:=kB (PySem.W.mg_of X G (v:=(.str "turned" 557)) (by kernel_rfl))
theorem walkF(w:World)(mg:Str→Option Value)(fa:Addr)(h:Heap)(X:(Hd.Kf w.params).In h)(G:h.Ns mainGlobals mg) (hmg:mg "law"=some (.ref fa)) :
  ∃ fd:FuncData,(∀(s:Shared)(u:Value),BindsTo s fd ⟨[u],[]⟩ [("_law_script",u)])∧∀ base:Heap,(Hd.Kf w.params).In base→base.Ns mainGlobals mg→FnOk PySem.Challenge.pw_ringloads_k50_best_ways_told w (Hd.Kf w.params) mg base CX0 17 fa fd ["_law_script"] (spF (Hd.Kf w.params) 1 fs_law):=by
 have T:=tx X G
 have e:=hmg.symm.trans T.x_law.m
 cases e
 exact⟨_,fun s v=>.of_eq rfl,fun base _ _=>Ir T⟩
theorem walk{l:PySem.W.OpenLaw}{q:Program}{loose:List Str}{XP:(Str→Option Value)→Heap→Prop}{YP:World→Heap→Prop}{d:DefRec}{K:Params→PySem.W.Frag}(hn:l.most=some 63)(hq:PyProof.Rows.importsNone q=true)(hdf:d.params.defaults=[])
  (hY:∀(w:World)(h:Heap),YP w h→(K w.params).In h)
  (F:∀(w:World)(mg:Str→Option Value)(fa:Addr)(h:Heap),(K w.params).In h→h.Ns mainGlobals mg→mg d.name=some (.ref fa) →
   ∃ fd:FuncData,(∀(s:Shared)(u:Value),BindsTo s fd ⟨[u],[]⟩ [("_law_script",u)])∧∀ base:Heap,(K w.params).In base→base.Ns mainGlobals mg→FnOk l.prog w (K w.params) mg base CX0 17 fa fd ["_law_script"] (spF (K w.params) 1 fs_law)) :
  PySem.W.WalkO q loose XP YP l.row.toRowW d [] (fun f vs=>PySem.call f vs) :=
 L2.walk_of (n:=63) (k:=17) (x:="_law_script") (CX:=fun _=>CX0) (sp:=fun w=>spF (K w.params) 1 fs_law) hn hq (by decide) hdf ⟨rfl,by decide,by decide,rfl⟩ hY F (fun _ H a ns hl hO hS=>zB hl hO hS (Bv hl)) fun _ _ _ _ _ z=>z
end My
open PySem PySem.W PyProof.Rows
abbrev PySem.W.Fast.tw1982033246471636089:PySem.Program:=PySem.Challenge.pw_ringloads_k50_best_ways_told
theorem PySem.W.Fast.te1982033246471636089:PySem.Challenge.pw_ringloads_k50_best_ways_told=PySem.W.Fast.tw1982033246471636089:=rfl
set_option maxRecDepth 100000 in
theorem PySem.Challenge.cw_ringloads_k50_best_ways_told_holds : PySem.Challenge.rw_ringloads_k50_best_ways_told.Holds := by
 w_on;o_law
 refine PySem.W.holds_open (q:=Hd.q) (loose:=Hd.loose) (Xt:=Hd.Xt) (XP:=XL Hd.q []) (Yf:=Hook.obs Hd.Hk) (Ya:=Hook.val Hd.Hk) (YP:=Hook.says Hd.Hk) (N:=_) Hd.left (Hook.of Hd.Hk) (Hook.keeps Hd.Hk) (fun s e=>xl_of s (Bool.and_eq_true_iff.mp e).1) XL.keeps (by rfl) (by rfl) (by rfl) (fun s e=>recFacts_of (Bool.and_eq_true_iff.mp e).2) (by rfl) (by assumption) (by decide +kernel) ⟨rfl,rfl,rfl,rfl,rfl,by decide +kernel⟩ ?hw ?hc
 case hw=>w_witness2
 case hc=>exact My.walk (l:=PySem.Challenge.rw_ringloads_k50_best_ways_told) (K:=Hd.Kf) rfl (by decide +kernel) rfl (fun w h Y=>PySem.W.kIn_of Y) My.walkF