import PyProof.Rows.All
import Wide.All
import OpenK.AllK
import Wide.FinOn
import Lean
import PyProof.EqAt
import PyProof.EqKinds
import PyProof.TupleCall
import PyProof.ExcArgs
import KE.KIsAll
import PyProof.ExcInit
import PyProof.StationsW
import PyProof.NsDelKeeps
import PyProof.RulesAs
import PyProof.PassesOwn
import PyProof.ExcBaseAll.ValueError
import PyProof.InstStoreFacts
import PyProof.Rows.EqDataRows
import PyProof.ReprRoads
import PyProof.Rows.Range3
import PyProof.ConsumeWalk
import PyProof.FString5
import PyProof.ReprLen
import PyProof.Rows.TupAdd
import PyProof.Rows.RuleIs
import PyProof.ListNew
import KE.KRevIter
import PyProof.Rows.SeqMore2
import PyProof.ListRange
import KE.KEqDict
import PyProof.NeKinds
import PySem.Challenge.RW_ringloads_k30_slides_done
set_option Elab.async false
set_option linter.all false
set_option maxRecDepth 100000
namespace L2
open PySem PySem.Spec PyProof.Rows
abbrev Key:=Sum Int Str
def vj:Key→Value→Bool
 | .inl k,v=>Value.isInt k v
 | .inr x,v=>Value.isStrOf x v
def keyH (w:World):Key→Int
 | .inl k=>hashInt k
 | .inr x=>hashStr w x
theorem bB:∀{k:Key} {v:Value},vj k v=true→(∃i t,k=Sum.inl i∧v=Value.int i t)∨(∃x t,k=Sum.inr x∧v=Value.str x t)
 | .inl i,v,h=>by
  obtain ⟨t,e⟩:=Value.isInt_shape (k:=i) (v:=v) h
  exact .inl ⟨i,t,rfl,e⟩
 | .inr x,v,h=>by
  obtain ⟨t,e⟩:=Value.isStrOf_shape (x:=x) (v:=v) h
  exact .inr ⟨x,t,rfl,e⟩
theorem wk (i:Int) (t:Tok):vj (.inl i) (.int i t)=true:=by simp [vj,Value.isInt]
theorem wm (x:Str) (t:Tok):vj (.inr x) (.str x t)=true:=by simp [vj,Value.isStrOf]
theorem DH (a b:Int):decide ((Sum.inl a:Key)=Sum.inl b)=(a == b):=by
 by_cases e:a=b
 ·
  subst e;simp
 ·
  have h:¬(Sum.inl a:Key)=Sum.inl b:=fun q=>e (Sum.inl.inj q)
  rw [decide_eq_false h]
  exact (beq_eq_false_iff_ne.mpr e).symm
theorem DI (a b:Str):decide ((Sum.inr a:Key)=Sum.inr b)=decide (a=b):=by
 by_cases e:a=b
 ·
  subst e;simp
 ·
  have h:¬(Sum.inr a:Key)=Sum.inr b:=fun q=>e (Sum.inr.inj q)
  rw [decide_eq_false h,decide_eq_false e]
theorem DJ (a:Int) (b:Str):decide ((Sum.inl a:Key)=Sum.inr b)=false:=decide_eq_false (fun q=>nomatch q)
theorem DK (a:Str) (b:Int):decide ((Sum.inr a:Key)=Sum.inl b)=false:=decide_eq_false (fun q=>nomatch q)
def fQ (prog:Program) (w:World):PySem.KeyKind prog w Key where
 is:=vj
 hash:=keyH w
 inj:=fun v a b ha hb=>by
  rcases bB ha with ⟨i,t,rfl,rfl⟩|⟨x,t,rfl,rfl⟩
  ·
   rcases bB hb with ⟨j,u,rfl,e⟩|⟨y,u,rfl,e⟩
   ·
    injection e with e1 _;rw [e1]
   ·
    exact nomatch e
  ·
   rcases bB hb with ⟨j,u,rfl,e⟩|⟨y,u,rfl,e⟩
   ·
    exact nomatch e
   ·
    injection e with e1 _;rw [e1]
 byValue:=fun k v h=>by
  rcases bB h with ⟨i,t,rfl,rfl⟩|⟨x,t,rfl,rfl⟩<;>rfl
 pyHash:=fun hv h=>by
  rcases bB hv with ⟨i,t,rfl,rfl⟩|⟨x,t,rfl,rfl⟩
  ·
   exact wpAny_pyHash_int h
  ·
   exact wpAny_pyHash_str h
 eqBool:=fun hu hv h=>by
  rcases bB hu with ⟨i,t,rfl,rfl⟩|⟨x,t,rfl,rfl⟩
  ·
   rcases bB hv with ⟨j,u,rfl,rfl⟩|⟨y,u,rfl,rfl⟩
   ·
    rw [DH] at h;exact wpAny_eqBool_int h
   ·
    rw [DJ] at h;exact SeqAt.EqAt.int_str i t y u _ _ _ _ h
  ·
   rcases bB hv with ⟨j,u,rfl,rfl⟩|⟨y,u,rfl,rfl⟩
   ·
    rw [DK] at h;exact SeqAt.EqAt.str_int x t j u _ _ _ _ h
   ·
    rw [DI] at h;exact wpAny_eqBool_str h
 «strs»:=fun k x t v h=>by
  rcases bB h with ⟨i,u,rfl,e⟩|⟨y,u,rfl,e⟩
  ·
   exact nomatch e
  ·
   injection e with e1 _
   subst e1
   cases v<;>rfl
theorem rJ (prog:Program) (w:World) (i:Int) (t:Tok):(fQ prog w).is (.inl i) (.int i t)=true:=wk i t
theorem rK (prog:Program) (w:World) (x:Str) (t:Tok):(fQ prog w).is (.inr x) (.str x t)=true:=wm x t
end L2
namespace L2
open PySem PySem.Spec PyProof.Rows
inductive V where
 | non|bl (b:Bool)|int (i:Int)|str (x:Str)|byt (b:Array UInt8)|flt (b:UInt64)|ref (a:Addr)|ty (n:String)
 deriving DecidableEq
def RelV:V→Value→Prop
 | .non,u=>u=Value.none
 | .bl b,u=>u=Value.bool b
 | .int i,u=>∃t,u=Value.int i t
 | .str x,u=>∃t,u=Value.str x t
 | .byt b,u=>∃t,u=Value.bytes b t
 | .flt b,u=>∃t,u=Value.float b t
 | .ref a,u=>u=Value.ref a
 | .ty n,u=>u=Value.type n
abbrev Vals:List V→List Value→Prop:=Paired RelV
theorem Vals.length {xs:List V} {us:List Value} (r:Vals xs us):xs.length=us.length:=Paired.length r
theorem Vals.get:∀{xs:List V} {us:List Value} {i:Nat} {x:V},Vals xs us→xs[i]?=some x→∃u,us[i]?=some u∧RelV x u
 | _,_,_,_,.nil,e=>by simp at e
 | _,_,0,_,.cons r _,e=>by simp at e;subst e;exact ⟨_,rfl,r⟩
 | _,_,i+1,x,.cons _ t,e=>by
  obtain ⟨u,h1,h2⟩:=Vals.get (i:=i) (x:=x) t (by simpa using e)
  exact ⟨u,by simpa using h1,h2⟩
theorem Vals.set {x:V} {u:Value} (r:RelV x u):∀{xs:List V} {us:List Value} (i:Nat),Vals xs us→Vals (xs.set i x) (us.set i u)
 | _,_,_,.nil=>.nil
 | _,_,0,.cons _ t=>.cons r t
 | _,_,i+1,.cons q t=>.cons q (Vals.set r i t)
theorem Vals.append:∀{xs ys:List V} {us ws:List Value},Vals xs us→Vals ys ws→Vals (xs++ys) (us++ws)
 | _,_,_,_,.nil,s=>s
 | _,_,_,_,.cons r t,s=>.cons r (Vals.append t s)
theorem Vals.take:∀{xs:List V} {us:List Value} (n:Nat),Vals xs us→Vals (xs.take n) (us.take n)
 | _,_,0,_=>.nil
 | _,_,_+1,.nil=>.nil
 | _,_,n+1,.cons r t=>.cons r (Vals.take n t)
theorem Vals.drop:∀{xs:List V} {us:List Value} (n:Nat),Vals xs us→Vals (xs.drop n) (us.drop n)
 | _,_,0,r=>r
 | _,_,_+1,.nil=>.nil
 | _,_,n+1,.cons _ t=>Vals.drop n t
def RelO:Option V→Option Value→Prop
 | some v,some u=>RelV v u
 | none,none=>True
 | _,_=>False
def KV {κ:Type}:List (κ×V)→List (κ×Value)→Prop:=Paired fun (p:κ×V) (q:κ×Value)=>p.1=q.1∧RelV p.2 q.2
def kV:Key→V
 | .inl i=>.int i
 | .inr x=>.str x
inductive HO where
 | lst (xs:List V)
 | tup (xs:List V)
 | dK (kvs:List (Key×V))|dT (kvs:List (List Key×V))
 | set (S:Int→Bool) (n:Nat)
 | ins (C dx:Addr) (fs:List (Str×V))
 | own (x:Addr)
 | xd (fs:List (Str×V))
 | met (f x:Addr)
 | rng (lo hi:Int)
 | frz (o:Obj) (u:HO)
 | tbl (ps:Array Value)
 | ext (φ:Heap→Prop)
abbrev Hp:=Addr→Option HO
def upd (H:Hp) (a:Addr) (o:HO):Hp:=fun b=>if b=a then some o else H b
theorem aW {H:Hp} {a:Addr} {o:HO}:upd H a o a=some o:=by unfold upd;rw [if_pos rfl]
theorem ax {H:Hp} {a b:Addr} {o:HO} (h:b≠a):upd H a o b=H b:=by unfold upd;rw [if_neg h]
theorem bg {H:Hp} {a b:Addr} {o:HO} (h:H a=some o) (h':H b=none):a≠b:=by
 intro e;subst e;rw [h] at h';cases h'
section
variable (P:Program) (w:World)
def cQ (H:Hp) (h:Heap) (a:Addr):HO→Prop
 | .lst xs=>xs.length≤sizeLine∧∃ (its:List Value) (n:Nat),Vals xs its∧h.get? a=some { cls:=.type "list",data:=.seq its.toArray n }
 | .tup xs=>xs.length≤sizeLine∧∃its:List Value,Vals xs its∧IsTup h a its.toArray
 | .dK kvs=>kvs.length≤sizeLine∧(a == sysModules)=false∧∃vs,KV kvs vs∧h.DictOf (fQ P w) a vs
 | .dT kvs=>kvs.length≤sizeLine∧(a == sysModules)=false∧∃xs:List (List Key×Addr×Value),
   Paired (fun (p:List Key×V) (q:List Key×Addr×Value)=>p.1=q.1∧H q.2.1=some (.tup (p.1.map kV))∧RelV p.2 q.2.2) kvs xs ∧
   ∃o es ep,h.get? a=some o∧o.ExactDict∧o.data=.dict es ep∧es.toList=xs.map (entryOfKey (tupleKind (fQ P w)))∧(xs.map (·.1)).Nodup
 | .set S n=>h.SetOf (intKind P w) a S n
 | .ins C dx fs=>H dx=some (.own a)∧fs.length≤1000∧dx≠a∧h.get? a=some (PySem.W.instObj C dx) ∧
   ∃mA,h.Ns1 dx mA∧(∀f,RelO (fs.lookup f) (mA f))∧PySem.Within mA (fs.map (·.1))
 | .own _=>∃o,h.get? a=some o
 | .xd fs=>∃mA,h.Ns1 a mA∧∀f,RelO (fs.lookup f) (mA f)
 | .rng lo hi=>∃ t u v,h.get? a=some { cls:=.type "range",data:=.fields #[.int lo t,.int hi u,.int 1 v] }
 | .frz o u=>h.get? a=some o∧cQ H h a u
 | .tbl ps=>h.get? a=some { cls:=.none,data:=.fields ps }
 | .met f x=>h.get? a=some (PySem.W.methodObj (.ref f) (.ref x))
 | .ext φ=>φ h∧(∃o,h.get? a=some o)∧∀h1 h2:Heap,φ h1→(∀o,h1.get? a=some o→h2.get? a=some o)→φ h2
def HOk (H:Hp) (h:Heap):Prop:=∀a o,H a=some o→cQ P w H h a o
end
section
variable {P:Program} {w:World} {H H':Hp} {h h':Heap} {a:Addr} {o:HO}
theorem cQ.lt (x:cQ P w H h a o):a <h.objs.size:=by
 cases o with
 | lst xs=>obtain ⟨_,_,_,_,e⟩:=x;exact Heap.lt_size e
 | tup xs=>obtain ⟨_,_,_,p⟩:=x;exact p.lt
 | dK kvs=>obtain ⟨_,_,_,_,o,_,_,e,_⟩:=x;exact Heap.lt_size e
 | dT kvs=>obtain ⟨_,_,_,_,o,_,_,e,_⟩:=x;exact Heap.lt_size e
 | set S n=>obtain ⟨o,_,_,_,e,_⟩:=x;exact Heap.lt_size e
 | ins C dx fs=>obtain ⟨_,_,_,e,_⟩:=x;exact Heap.lt_size e
 | own y=>obtain ⟨_,e⟩:=x;exact Heap.lt_size e
 | xd fs=>obtain ⟨_,⟨_,_,_,e,_⟩,_⟩:=x;exact Heap.lt_size e
 | rng lo hi=>obtain ⟨_,_,_,e⟩:=x;exact Heap.lt_size e
 | frz ob u=>obtain ⟨e,_⟩:=x;exact Heap.lt_size e
 | tbl ps=>exact Heap.lt_size (show h.get? a=some _ from x)
 | met f y=>exact Heap.lt_size (show h.get? a=some _ from x)
 | ext φ=>obtain ⟨_,⟨_,e⟩,_⟩:=x;exact Heap.lt_size e
theorem Paired.mapP {α β:Type} {F G:α→β→Prop}:∀{l₁:List α} {l₂:List β},Paired F l₁ l₂→(∀a b,F a b→G a b)→Paired G l₁ l₂
 | _,_,.nil,_=>.nil
 | _,_,.cons r t,f=>.cons (f _ _ r) (Paired.mapP t f)
theorem cQ.stay (x:cQ P w H h a o) (k:∀b u,(b=a∨H b=some (.own a))→h.get? b=some u→h'.get? b=some u)
  (ho:∀b,H b=some (.own a)→H' b=some (.own a)) (ht:∀b xs,H b=some (.tup xs)→H' b=some (.tup xs)):cQ P w H' h' a o:=by
 induction o with
 | lst xs=>obtain ⟨z,its,n,r,e⟩:=x;exact ⟨z,its,n,r,k _ _ (.inl rfl) e⟩
 | tup xs=>obtain ⟨z,its,r,ob,e,c⟩:=x;exact ⟨z,its,r,ob,k _ _ (.inl rfl) e,c⟩
 | dK kvs=>obtain ⟨z,y,vs,r,ob,es,ep,e,c⟩:=x;exact ⟨z,y,vs,r,ob,es,ep,k _ _ (.inl rfl) e,c⟩
 | dT kvs =>
  obtain ⟨z,y,xs,r,ob,es,ep,e,c⟩:=x
  exact ⟨z,y,xs,Paired.mapP r fun p q z=>⟨z.1,ht _ _ z.2.1,z.2.2⟩,ob,es,ep,k _ _ (.inl rfl) e,c⟩
 | set S n=>obtain ⟨ob,es,ep,t,e,c⟩:=x;exact ⟨ob,es,ep,t,k _ _ (.inl rfl) e,c⟩
 | ins C dx fs =>
  obtain ⟨d,z,ne,e,mA,⟨od,es,ep,e2,c⟩,r⟩:=x
  exact ⟨ho _ d,z,ne,k _ _ (.inl rfl) e,mA,⟨od,es,ep,k _ _ (.inr d) e2,c⟩,r⟩
 | own y=>obtain ⟨ob,e⟩:=x;exact ⟨ob,k _ _ (.inl rfl) e⟩
 | xd fs=>obtain ⟨mA,⟨od,es,ep,e,c⟩,r⟩:=x;exact ⟨mA,⟨od,es,ep,k _ _ (.inl rfl) e,c⟩,r⟩
 | rng lo hi=>obtain ⟨t,u,v,e⟩:=x;exact ⟨t,u,v,k _ _ (.inl rfl) e⟩
 | frz ob u ih=>obtain ⟨e,q⟩:=x;exact ⟨k _ _ (.inl rfl) e,ih q⟩
 | tbl ps =>
  have e:h.get? a=some { cls:=.none,data:=.fields ps }:=x
  show h'.get? a=some { cls:=.none,data:=.fields ps }
  exact k a _ (.inl rfl) e
 | met f y =>
  have e:h.get? a=some (PySem.W.methodObj (.ref f) (.ref y)):=x
  show h'.get? a=some (PySem.W.methodObj (.ref f) (.ref y))
  exact k a _ (.inl rfl) e
 | ext φ=>obtain ⟨p,⟨o,e⟩,st⟩:=x;exact ⟨st _ _ p fun o q=>k _ _ (.inl rfl) q,⟨o,k _ _ (.inl rfl) e⟩,st⟩
theorem HOk.lt (x:HOk P w H h) (e:H a=some o):a <h.objs.size:=(x a o e).lt
theorem HOk.fresh (x:HOk P w H h) (e:h.objs.size≤a):H a=none:=by
 cases q:H a with
 | none=>rfl
 | some u=>exact absurd (Nat.lt_of_lt_of_le (x.lt q) e) (Nat.lt_irrefl _)
theorem HOk.kept (x:HOk P w H h) (k:∀b u,h.get? b=some u→h'.get? b=some u):HOk P w H h':=fun a o e =>
 (x a o e).stay (fun b u _ q=>k b u q) (fun _ q=>q) fun _ _ q=>q
theorem HOk.laid (x:HOk P w H h) (k:∀b u,h.get? b=some u→h'.get? b=some u) (hp:h.objs.size≤a) (new:cQ P w (upd H a o) h' a o):HOk P w (upd H a o) h':=fun b u e=>by
 have hn:=x.fresh hp
 by_cases hb:b=a
 ·
  subst hb;rw [aW] at e;cases e;exact new
 ·
  rw [ax hb] at e
  exact (x b u e).stay (fun c v _ q=>k c v q) (fun c q=>by rw [ax (bg q hn)];exact q) fun c xs q=>by rw [ax (bg q hn)];exact q
end
def Rd (H:Hp) (a:Addr) (u:HO):Prop:=H a=some u∨∃o,H a=some (.frz o u)
theorem Rd.ok {P:Program} {w:World} {H:Hp} {h:Heap} {a:Addr} {u:HO} (r:Rd H a u) (x:HOk P w H h):cQ P w H h a u:=by
 rcases r with r|⟨o,r⟩
 ·
  exact x a u r
 ·
  obtain ⟨_,q⟩:=x a _ r
  exact q
def Mut:Option HO→Prop
 | some (.lst _)=>True
 | some (.dK _)=>True
 | some (.dT _)=>True
 | some (.set _ _)=>True
 | some (.ins _ _ _)=>True
 | some (.ext _)=>True
 | _=>False
section
variable {P:Program} {w:World} {H:Hp} {h h':Heap} {x e:Addr} {o':HO}
theorem HOk.write (ok:HOk P w H h) (mu:Mut (H x)) (he:e=x∨H e=some (.own x)) (k:∀b u,b≠e→h.get? b=some u→h'.get? b=some u) (heo:∃u,h'.get? e=some u)
  (new:cQ P w (upd H x o') h' x o'):HOk P w (upd H x o') h':=fun b u q=>by
 have nown:∀c y,H c=some (.own y)→c≠x:=fun c y r z=>by subst z;rw [r] at mu;exact mu
 have ntup:∀c xs,H c=some (.tup xs)→c≠x:=fun c xs r z=>by subst z;rw [r] at mu;exact mu
 by_cases hb:b=x
 ·
  subst hb;rw [aW] at q;cases q;exact new
 ·
  rw [ax hb] at q
  by_cases hbe:b=e
  ·
   have q':H b=some (.own x):=by
    rcases he with z|z
    ·
     exact absurd (hbe.trans z) hb
    ·
     rw [hbe];exact z
   rw [q] at q';cases q'
   obtain ⟨v,hv⟩:=heo
   exact ⟨v,by rw [hbe];exact hv⟩
  ·
   refine (ok b u q).stay (fun c v hc r=>k c v ?_ r) (fun c r=>by rw [ax (nown c b r)];exact r) fun c xs r=>by rw [ax (ntup c xs r)];exact r
   rcases hc with rfl|hc
   ·
    exact hbe
   ·
    rintro rfl
    rcases he with z|z
    ·
     exact nown c b hc z
    ·
     rw [hc] at z;cases z;exact hb rfl
end
structure Un (fs ex:List Addr) (H H':Hp) (h h':Heap):Prop where
 keep:∀b o,h.get? b=some o→H b=none→b∉fs→b∉ex→h'.get? b=some o
 slot:∀b o,h.get? b=some o→H b=none→b∈fs→b∉ex→∃sl,h'.get? b=some { o with slots:=sl }
 free:∀b o,h.get? b=some o→H b=none→b∉ex→H' b=none
 there:∀b o,h.get? b=some o→b∉ex→∃o',h'.get? b=some o'
 tups:∀b xs,H b=some (.tup xs)→H' b=some (.tup xs)
 frzs:∀b o u,H b=some (.frz o u)→H' b=some (.frz o u)
 tbls:∀b ps,H b=some (.tbl ps)→∃more,H' b=some (.tbl (ps++more))
section
variable {fs fs' ex ex':List Addr} {H H1 H2:Hp} {h h1 h2 h':Heap} {a x e:Addr} {o:HO}
theorem Un.any (u:Un fs ex H H1 h h1) {b:Addr} {ob:Obj} (q:h.get? b=some ob) (n:H b=none) (hx:b∉ex):∃sl,h1.get? b=some { ob with slots:=sl }:=by
 by_cases hb:b∈fs
 ·
  exact u.slot b ob q n hb hx
 ·
  exact ⟨ob.slots,u.keep b ob q n hb hx⟩
theorem Un.trans (a:Un fs ex H H1 h h1) (b:Un fs ex H1 H2 h1 h2):Un fs ex H H2 h h2 where
 keep:=fun c ob q n hc hx=>b.keep c ob (a.keep c ob q n hc hx) (a.free c ob q n hx) hc hx
 slot:=fun c ob q n hc hx=>by
  obtain ⟨sl,e1⟩:=a.slot c ob q n hc hx
  obtain ⟨sl',e2⟩:=b.slot c _ e1 (a.free c ob q n hx) hc hx
  exact ⟨sl',e2⟩
 free:=fun c ob q n hx=>by
  obtain ⟨o',e1⟩:=a.there c ob q hx
  exact b.free c o' e1 (a.free c ob q n hx) hx
 there:=fun c ob q hx=>by
  obtain ⟨o',e1⟩:=a.there c ob q hx
  exact b.there c o' e1 hx
 tups:=fun c xs q=>b.tups c xs (a.tups c xs q)
 frzs:=fun c ob xs q=>b.frzs c ob xs (a.frzs c ob xs q)
 tbls:=fun c ps q=>by
  obtain ⟨m1,e1⟩:=a.tbls c ps q
  obtain ⟨m2,e2⟩:=b.tbls c _ e1
  exact ⟨m1++m2,by rw [e2,Array.append_assoc]⟩
theorem Un.kept (k:∀b u,h.get? b=some u→h'.get? b=some u):Un fs ex H H h h' :=
 ⟨fun b ob q _ _ _=>k b ob q,fun b ob q _ _ _=>⟨ob.slots,k b ob q⟩,fun _ _ _ n _=>n,fun b ob q _=>⟨ob,k b ob q⟩,fun _ _ q=>q,fun _ _ _ q=>q,fun _ ps q=>⟨#[],by rw [q];simp⟩⟩
theorem Un.refl:Un fs ex H H h h:=Un.kept fun _ _ q=>q
theorem Un.laid (k:∀b u,h.get? b=some u→h'.get? b=some u) (hp:h.objs.size≤a) (hn:H a=none):Un fs ex H (upd H a o) h h' where
 keep:=fun b u q _ _ _=>k b u q
 slot:=fun b u q _ _ _=>⟨u.slots,k b u q⟩
 free:=fun b u q n _=>by rw [ax (Nat.ne_of_lt (Nat.lt_of_lt_of_le (Heap.lt_size q) hp))];exact n
 there:=fun b u q _=>⟨u,k b u q⟩
 tups:=fun b xs q=>by rw [ax (bg q hn)];exact q
 frzs:=fun b u xs q=>by rw [ax (bg q hn)];exact q
 tbls:=fun b ps q=>⟨#[],by rw [ax (bg q hn),q];simp⟩
theorem Un.write (mu:Mut (H x)) (he:e=x∨H e=some (.own x)) (k:∀b u,b≠e→h.get? b=some u→h'.get? b=some u) (heo:∃u,h'.get? e=some u):Un fs ex H (upd H x o) h h':=by
 have hx:∀b,H b=none→b≠x:=fun b n z=>by subst z;rw [n] at mu;exact mu
 have hb:∀b,H b=none→b≠e:=fun b n z=>by
  subst z
  rcases he with r|r
  ·
   exact hx b n r
  ·
   rw [n] at r;cases r
 have hm:∀b u,H b=some u→¬Mut (some u)→b≠x:=fun b u q nm z=>by subst z;rw [q] at mu;exact nm mu
 refine ⟨fun b u q n _ _=>k b u (hb b n) q,fun b u q n _ _=>⟨u.slots,k b u (hb b n) q⟩,fun b u q n _=>by rw [ax (hx b n)];exact n,fun b u q _=>?_,
  fun b xs q=>by rw [ax (hm b _ q fun z=>z)];exact q,fun b u xs q=>by rw [ax (hm b _ q fun z=>z)];exact q,fun b ps q=>⟨#[],by rw [ax (hm b _ q fun z=>z),q];simp⟩⟩
 by_cases hbe:b=e
 ·
  subst hbe;exact heo
 ·
  exact ⟨u,k b u hbe q⟩
end
def trk (h:Heap) (H:Hp):List Addr:=(List.range h.objs.size).filter fun a=>(H a).isSome
def hidT (h:Heap) (H:Hp):Heap:=PySem.W.hideAll h (trk h H)
theorem wo (h:Heap) (H:Hp):(hidT h H).objs.size=h.objs.size:=PySem.W.hideAll_size _ _
theorem zv {h:Heap} {H:Hp} {b:Addr} {o:Obj} (e:h.get? b=some o) (n:H b=none):(hidT h H).get? b=some o :=
 PySem.W.hideAll_get _ e fun hm=>by
  have q:(H b).isSome=true:=(List.mem_filter.mp hm).2
  rw [n] at q;simp at q
theorem BI {h:Heap} {H:Hp} {b:Addr} {o:Obj} (e:(hidT h H).get? b=some o):h.get? b=some o∧H b=none:=by
 have e':h.get? b=some o:=PySem.W.of_hideAll (trk h H) e
 refine ⟨e',?_⟩
 cases q:H b with
 | none=>rfl
 | some x =>
  have hm:b∈trk h H:=List.mem_filter.mpr ⟨List.mem_range.mpr (Heap.lt_size e'),by simp [q]⟩
  have z:(hidT h H).get? b=none:=PySem.W.hideAll_none (trk h H) hm
  rw [z] at e;cases e
def BJ (g h:Heap) (L:Addr):List (Addr×Obj):=(List.range h.objs.size).filterMap fun a=>if a=L∨(g.get? a).isSome=true then none else (h.get? a).map fun o=>(a,o)
def rest (g h:Heap) (L d:Addr):List (Addr×Obj):=(BJ g h L).filter fun p=>decide (p.1≠d)
end L2
namespace L2
open PySem PySem.Spec PyProof.Rows
structure Mod (K:PySem.W.Frag) (mg:Str→Option Value) (base:Heap):Prop where
 kin:K.In base
 glob:base.Ns mainGlobals mg
 blt:∃ mb,base.Ns builtinsNs mb∧∀ x:Str,x≠"__name__"→mb x=bootBuiltins x
 nolimit:base.NoLimit
/-- the context: a def's body (or a comprehension's BK) running. base: fixed through the whole law;s₀,H₀: the entry;outer: the frames whose slots others may change (a def's callers);stack: all frames that run;
  ex: iterators that were made ahead of the entry and are walked here (a comprehension's);fn: the names whose cells were made at the entry (a def: all;a comprehension's BK: its own);calm: not t7 an except suite;pn: pins that every state bears;xe: what is wanted of an exception that leaves the code -/
structure Cx where
 prog:Program
 w:World
 K:PySem.W.Frag
 mg:Str→Option Value
 base:Heap
 A:Around
 N:List Str
 s₀:Shared
 H₀:Hp
 env:Env
 outer:List Env
 stack:List Env
 ex:List Addr
 fn:Str→Bool
 calm:Bool
 pn:List (Addr×Obj)
 xe:Value→Shared→Prop
def frs (l:List Env):List Addr:=l.filterMap (·.frame)
abbrev Cx.fs (X:Cx):List Addr:=frs X.outer
def Vis (sc:Scope) (x:Str):Prop:=sc.names.lookup x=some .local∨sc.names.lookup x=some .cell∨sc.names.lookup x=some .free
def Loc (sc:Scope) (x:Str):Prop:=sc.names.lookup x=some .local∨sc.names.lookup x=some .cell
def Look (env:Env) (h:Heap) (m:Str→Option Value) (x:Str) (u:Value):Prop :=
 (env.kindOf x=some .local∧m x=some u)∨((env.kindOf x=some .cell∨env.kindOf x=some .free)∧∃c,env.cells.lookup x=some c∧h.IsCell c (some u))
structure Cx.Ok (X:Cx):Prop where
 mod:Mod X.K X.mg X.base
 kind:X.env.scope.kind=.function
 glob:X.env.globals=mainGlobals
 blt:X.env.builtins=builtinsNs
 above:X.s₀.heap.objs.size≤X.env.locals
 inj:∀x y c,X.env.cells.lookup x=some c→X.env.cells.lookup y=some c→x=y
 has:∀x,(X.env.kindOf x=some .cell∨X.env.kindOf x=some .free)→∃c,X.env.cells.lookup x=some c
 cab:∀x c,X.fn x=true→X.env.cells.lookup x=some c→X.s₀.heap.objs.size≤c
 hd:X.calm=true→X.A.handled=none
 frames:X.A.frames=some X.stack
 stk:X.stack=X.outer∨(X.stack=X.env::X.outer∧X.env.frame=some X.env.locals)
 exf:∀b∈X.ex,b≠X.env.locals∧∀x c,X.env.cells.lookup x=some c→c≠b
 bs:∀b o,X.base.get? b=some o→X.s₀.heap.get? b=some o∧X.H₀ b=none
 bsz:X.base.objs.size≤X.s₀.heap.objs.size
 noex:∀b o,X.base.get? b=some o→b∉X.ex
 exfs:∀b∈X.ex,b∉X.fs
 funs:X.s₀.heap.FunFrames X.base X.outer
 frf:∀b∈X.fs,X.H₀ b=none
structure Inv (X:Cx) (pins:List (Addr×Obj)) (σ:List (Option V)) (H:Hp) (s:Shared):Prop where
 ok:X.Ok
 os:s.os=X.s₀.os
 bare:AllBare s.gens
 base:Un X.fs X.ex X.H₀ H X.s₀.heap s.heap
 loc:∃m,s.heap.Ns X.env.locals m∧∀(i:Nat) (x:Str) (v:V),X.N[i]?=some x→σ[i]?=some (some v)→Vis X.env.scope x→∃u,RelV v u∧Look X.env s.heap m x u
 cell:∀x c,X.env.cells.lookup x=some c→∃v,s.heap.IsCell c v
 free:H X.env.locals=none
 freeC:∀x c,X.env.cells.lookup x=some c→H c=none
 pin:∀p∈X.pn++pins,s.heap.get? p.1=some p.2∧H p.1=none∧p.1≠X.env.locals∧p.1∉X.fs∧∀v,p.2.data≠.cell v
 hok:HOk X.prog X.w H s.heap
 len:σ.length=X.N.length
section
variable {X:Cx} {pins:List (Addr×Obj)} {σ:List (Option V)} {H H':Hp} {s:Shared} {h':Heap}
theorem Cx.Ok.nofr (ok:X.Ok) {b:Addr} {o:Obj} (e:X.base.get? b=some o):b∉X.fs:=fun hb=>by
 have:=(ok.funs.mem hb).1
 rw [e] at this;cases this
theorem Inv.bs (I:Inv X pins σ H s):∀b o,X.base.get? b=some o→s.heap.get? b=some o∧H b=none:=fun b o e =>
 ⟨I.base.keep b o (I.ok.bs b o e).1 (I.ok.bs b o e).2 (I.ok.nofr e) (I.ok.noex b o e),I.base.free b o (I.ok.bs b o e).1 (I.ok.bs b o e).2 (I.ok.noex b o e)⟩
theorem Inv.bk (I:Inv X pins σ H s):∀b o,X.base.get? b=some o→s.heap.get? b=some o:=fun b o e=>(I.bs b o e).1
theorem Inv.mod (I:Inv X pins σ H s):Mod X.K X.mg X.base:=I.ok.mod
theorem Inv.kIn (I:Inv X pins σ H s):X.K.In s.heap:=I.ok.mod.kin.keeps I.bk
theorem Inv.fr (I:Inv X pins σ H s):∃m,Fr X.base X.env.locals s.heap m :=
 let ⟨m,hn,_⟩:=I.loc
 ⟨m,hn,I.bk,Nat.le_trans I.ok.bsz I.ok.above⟩
theorem Inv.lt (I:Inv X pins σ H s):X.env.locals <s.heap.objs.size:=let ⟨_,hn,_⟩:=I.loc;hn.lt
theorem Inv.sz (I:Inv X pins σ H s):X.s₀.heap.objs.size≤s.heap.objs.size:=Nat.le_trans I.ok.above (Nat.le_of_lt I.lt)
theorem Inv.nofs (I:Inv X pins σ H s) {a:Addr} (h:s.heap.objs.size≤a):a∉X.fs:=fun hb=>by
 obtain ⟨_,o,ho,_⟩:=I.ok.funs.mem hb
 exact absurd (Nat.lt_of_lt_of_le (Heap.lt_size ho) (Nat.le_trans I.sz h)) (Nat.lt_irrefl _)
theorem Inv.cne (I:Inv X pins σ H s):∀x c,X.env.cells.lookup x=some c→c≠X.env.locals:=fun x c e z=>by
 obtain ⟨v,o,ho,hd⟩:=I.cell x c e
 obtain ⟨m,⟨o',es,ep,ho',hd',_⟩,_⟩:=I.loc
 rw [z,ho'] at ho;cases ho;rw [hd'] at hd;cases hd
theorem Inv.funs (I:Inv X pins σ H s):s.heap.FunFrames X.base X.outer:=by
 have all:∀(l:List Env),(∀b∈frs l,b∈X.fs)→X.s₀.heap.FunFrames X.base l→s.heap.FunFrames X.base l:=by
  intro l
  induction l with
  | nil=>intro _ _;trivial
  | cons env r ih =>
   intro hs hl
   obtain ⟨hk,⟨L,o,hf,hn,ho,hd⟩,hr⟩:=hl
   have hL:L∈X.fs:=hs L (by unfold frs;rw [List.filterMap_cons,hf];exact List.mem_cons_self)
   obtain ⟨sl,e⟩:=I.base.slot L o ho (I.ok.frf L hL) hL fun z=>I.ok.exfs L z hL
   exact ⟨hk,⟨L,_,hf,hn,e,hd⟩,ih (fun b hb=>hs b (by unfold frs;rw [List.filterMap_cons,hf];exact List.mem_cons_of_mem _ hb)) hr⟩
 exact all X.outer (fun _ hb=>hb) I.ok.funs
theorem Inv.stack (I:Inv X pins σ H s):s.heap.FunFrames X.base X.stack:=by
 rcases I.ok.stk with e|⟨e,hf⟩
 ·
  rw [e];exact I.funs
 ·
  rw [e]
  obtain ⟨m,hn,_⟩:=I.loc
  refine .cons (by rw [I.ok.kind];decide) hf hn ?_ I.funs
  exact Heap.get?_none_of_le (Nat.le_trans I.ok.bsz I.ok.above)
theorem Inv.stkSub (I:Inv X pins σ H s):∀b∈frs X.stack,b∈X.env.locals::X.fs:=fun b hb=>by
 rcases I.ok.stk with e|⟨e,hf⟩
 ·
  rw [e] at hb;exact List.mem_cons_of_mem _ hb
 ·
  rw [e] at hb
  unfold frs at hb
  rw [List.filterMap_cons,hf] at hb
  exact hb
theorem Inv.stkFree (I:Inv X pins σ H s):∀b∈frs X.stack,H b=none:=fun b hb=>by
 rcases List.mem_cons.mp (I.stkSub b hb) with e|hb
 ·
  rw [e];exact I.free
 ·
  obtain ⟨_,o,ho,_⟩:=I.ok.funs.mem hb
  exact I.base.free b o ho (I.ok.frf b hb) fun z=>I.ok.exfs b z hb
theorem Inv.step {g':Array GenState} {t':Nat} {d':Drawn} {ch:List Addr} (I:Inv X pins σ H s)
  (hch:∀b∈ch,(b∈X.ex∨X.s₀.heap.objs.size≤b)∧b≠X.env.locals∧(∀x c,X.env.cells.lookup x=some c→c≠b)∧∀p∈X.pn++pins,p.1≠b)
  (keep:∀b o,b≠X.env.locals→b∉X.fs→b∉ch→s.heap.get? b=some o→H b=none→h'.get? b=some o)
  (slot:∀b o,b≠X.env.locals→b∈X.fs→b∉ch→s.heap.get? b=some o→H b=none→∃sl,h'.get? b=some { o with slots:=sl }) (free:∀b o,b∉ch→s.heap.get? b=some o→H b=none→H' b=none)
  (there:∀b o,b∉ch→s.heap.get? b=some o→∃o',h'.get? b=some o')
  (tups:∀b xs,H b=some (.tup xs)→H' b=some (.tup xs)) (frzs:∀b o u,H b=some (.frz o u)→H' b=some (.frz o u)) (tbls:∀b ps,H b=some (.tbl ps)→∃more,H' b=some (.tbl (ps++more)))
  (ns:∀m,s.heap.Ns X.env.locals m→h'.Ns X.env.locals m) (hok:HOk X.prog X.w H' h') (hg:AllBare g') :
  Inv X pins σ H' { s with heap:=h',gens:=g',drawn:=d',toks:=t' }:=by
 have neL:∀b o,X.s₀.heap.get? b=some o→b≠X.env.locals:=fun b o e=>Nat.ne_of_lt (Nat.lt_of_lt_of_le (Heap.lt_size e) I.ok.above)
 have neC:∀b o,X.s₀.heap.get? b=some o→b∉X.ex→b∉ch:=fun b o e hx hb=>by
  rcases (hch b hb).1 with z|z
  ·
   exact hx z
  ·
   exact absurd (Nat.lt_of_lt_of_le (Heap.lt_size e) z) (Nat.lt_irrefl _)
 have cellK:∀x c,X.env.cells.lookup x=some c→∀v,s.heap.IsCell c v→h'.IsCell c v:=fun x c e v ⟨o,ho,hd⟩=>by
  have nch:c∉ch:=fun z=>(hch c z).2.2.1 x c e rfl
  by_cases hc:c∈X.fs
  ·
   obtain ⟨sl,q⟩:=slot c o (I.cne x c e) hc nch ho (I.freeC x c e)
   exact ⟨_,q,hd⟩
  ·
   exact ⟨o,keep c o (I.cne x c e) hc nch ho (I.freeC x c e),hd⟩
 refine ⟨I.ok,I.os,hg,⟨fun b o e n hb hx=>?_,fun b o e n hb hx=>?_,fun b o e n hx=>?_,fun b o e hx=>?_,fun b xs e=>tups b xs (I.base.tups b xs e),fun b o xs e=>frzs b o xs (I.base.frzs b o xs e),fun b ps e=>?_⟩,?_,fun x c e=>?_,?_,fun x c e=>?_,fun p hp=>?_,hok,I.len⟩
 ·
  exact keep b o (neL b o e) hb (neC b o e hx) (I.base.keep b o e n hb hx) (I.base.free b o e n hx)
 ·
  obtain ⟨sl,e1⟩:=I.base.slot b o e n hb hx
  obtain ⟨sl',e2⟩:=slot b _ (neL b o e) hb (neC b o e hx) e1 (I.base.free b o e n hx)
  exact ⟨sl',e2⟩
 ·
  obtain ⟨o',e1⟩:=I.base.there b o e hx
  exact free b o' (neC b o e hx) e1 (I.base.free b o e n hx)
 ·
  obtain ⟨o',e1⟩:=I.base.there b o e hx
  exact there b o' (neC b o e hx) e1
 ·
  obtain ⟨m1,e1⟩:=I.base.tbls b ps e
  obtain ⟨m2,e2⟩:=tbls b _ e1
  exact ⟨m1++m2,by rw [e2,Array.append_assoc]⟩
 ·
  obtain ⟨m,hn,hl⟩:=I.loc
  refine ⟨m,ns m hn,fun i x v e1 e2 e3=>?_⟩
  obtain ⟨u,r,l⟩:=hl i x v e1 e2 e3
  refine ⟨u,r,?_⟩
  rcases l with l|⟨k,c,e,z⟩
  ·
   exact .inl l
  ·
   exact .inr ⟨k,c,e,cellK x c e _ z⟩
 ·
  obtain ⟨v,z⟩:=I.cell x c e
  exact ⟨v,cellK x c e v z⟩
 ·
  obtain ⟨m,⟨o,_,_,ho,_⟩,_⟩:=I.loc
  exact free _ o (fun z=>(hch _ z).2.1 rfl) ho I.free
 ·
  obtain ⟨v,o,ho,hd⟩:=I.cell x c e
  exact free c o (fun z=>(hch c z).2.2.1 x c e rfl) ho (I.freeC x c e)
 ·
  obtain ⟨e,n,ne,nf,d⟩:=I.pin p hp
  have nch:p.1∉ch:=fun z=>(hch p.1 z).2.2.2 p hp rfl
  exact ⟨keep p.1 p.2 ne nf nch e n,free p.1 p.2 nch e n,ne,nf,d⟩
theorem Inv.un {t':Nat} (I:Inv X pins σ H s) (u:Un X.fs [] H H' s.heap h') (hok:HOk X.prog X.w H' h'):Inv X pins σ H' { s with heap:=h',toks:=t' }:=by
 obtain ⟨m,⟨o,es,ep,ho,r⟩,_⟩:=id I.loc
 obtain ⟨sl,hL⟩:=u.any ho I.free (by simp)
 exact I.step (g':=s.gens) (d':=s.drawn) (ch:=[]) (fun _ z=>nomatch z) (fun b o _ hb _ e n=>u.keep b o e n hb (by simp)) (fun b o _ hb _ e n=>u.slot b o e n hb (by simp)) (fun b o _ e n=>u.free b o e n (by simp)) (fun b o _ e=>u.there b o e (by simp)) u.tups u.frzs u.tbls (fun m' hm=>by
  obtain ⟨o',es',ep',ho',r'⟩:=hm
  rw [ho] at ho';cases ho'
  exact ⟨_,es',ep',hL,r'⟩) hok I.bare
theorem Inv.call {g':Array GenState} {t':Nat} {d':Drawn} {ch:List Addr} (I:Inv X pins σ H s) (u:Un (frs X.stack) ch H H' s.heap h') (hok:HOk X.prog X.w H' h') (hg:AllBare g')
  (hch:∀b∈ch,(b∈X.ex∨X.s₀.heap.objs.size≤b)∧b≠X.env.locals∧(∀x c,X.env.cells.lookup x=some c→c≠b)∧∀p∈X.pn++pins,p.1≠b) :
  Inv X pins σ H' { s with heap:=h',gens:=g',drawn:=d',toks:=t' }:=by
 obtain ⟨m,⟨o,es,ep,ho,r⟩,_⟩:=id I.loc
 obtain ⟨sl,hL⟩:=u.any ho I.free fun z=>(hch _ z).2.1 rfl
 exact I.step (ch:=ch) hch (fun b o hL hb hc e n=>u.keep b o e n (fun z=>(List.mem_cons.mp (I.stkSub b z)).elim hL hb) hc) (fun b o _ _ hc e n=>u.any e n hc) (fun b o hc e n=>u.free b o e n hc) (fun b o hc e=>u.there b o e hc) u.tups u.frzs u.tbls (fun m' hm=>by
  obtain ⟨o',es',ep',ho',r'⟩:=hm
  rw [ho] at ho';cases ho'
  exact ⟨_,es',ep',hL,r'⟩) hok hg
theorem Inv.turned {t':Nat} {it:Addr} (I:Inv X pins σ H s) (k:∀b o,b≠it→s.heap.get? b=some o→h'.get? b=some o) (hn:H it=none) (hL:it≠X.env.locals)
  (h1:it∈X.ex∨X.s₀.heap.objs.size≤it) (h2:∀x c,X.env.cells.lookup x=some c→c≠it) (h3:∀p∈X.pn++pins,p.1≠it):Inv X pins σ H { s with heap:=h',toks:=t' }:=by
 have nit:∀b u,H b=some u→b≠it:=fun b u e z=>by rw [z,hn] at e;cases e
 refine I.step (g':=s.gens) (d':=s.drawn) (ch:=[it]) (fun b hb=>?_) (fun b o _ _ hc e _=>k b o (fun z=>hc (by simp [z])) e) (fun b o _ _ hc e _=>⟨o.slots,k b o (fun z=>hc (by simp [z])) e⟩) (fun _ _ _ _ n=>n)
  (fun b o hc e=>⟨o,k b o (fun z=>hc (by simp [z])) e⟩) (fun _ _ e=>e) (fun _ _ _ e=>e) (fun b ps e=>⟨#[],by rw [e];simp⟩) (fun m hm=>?_) (fun b u e=>?_) I.bare
 ·
  have e:b=it:=by simpa using hb
  subst e
  exact ⟨h1,hL,h2,h3⟩
 ·
  obtain ⟨o,es,ep,ho,r⟩:=hm
  exact ⟨o,es,ep,k _ o (Ne.symm hL) ho,r⟩
 ·
  refine (I.hok b u e).stay (fun c v hc q=>k c v ?_ q) (fun _ q=>q) fun _ _ q=>q
  rcases hc with z|z
  ·
   rw [z];exact nit b u e
  ·
   exact nit c _ z
theorem Inv.tok (I:Inv X pins σ H s) (t:Nat):Inv X pins σ H { s with toks:=t }:=I.un (h':=s.heap) (t':=t) Un.refl I.hok
theorem Inv.kept {t':Nat} (I:Inv X pins σ H s) (k:∀b u,s.heap.get? b=some u→h'.get? b=some u):Inv X pins σ H { s with heap:=h',toks:=t' }:=I.un (Un.kept k) (I.hok.kept k)
theorem Inv.laid {a:Addr} {o:HO} {t':Nat} (I:Inv X pins σ H s) (k:∀b u,s.heap.get? b=some u→h'.get? b=some u) (hp:s.heap.objs.size≤a) (new:cQ X.prog X.w (upd H a o) h' a o) :
  Inv X pins σ (upd H a o) { s with heap:=h',toks:=t' }:=I.un (Un.laid k hp (I.hok.fresh hp)) (I.hok.laid k hp new)
theorem Inv.write {x e:Addr} {o:HO} {t':Nat} (I:Inv X pins σ H s) (mu:Mut (H x)) (he:e=x∨H e=some (.own x)) (k:∀b u,b≠e→s.heap.get? b=some u→h'.get? b=some u) (heo:∃u,h'.get? e=some u)
  (new:cQ X.prog X.w (upd H x o) h' x o):Inv X pins σ (upd H x o) { s with heap:=h',toks:=t' }:=I.un (Un.write mu he k heo) (I.hok.write mu he k heo new)
theorem Inv.pins_of {pins':List (Addr×Obj)} (I:Inv X pins σ H s) (h:∀p∈pins',s.heap.get? p.1=some p.2∧H p.1=none∧p.1≠X.env.locals∧p.1∉X.fs∧∀v,p.2.data≠.cell v):Inv X pins' σ H s :=
 ⟨I.ok,I.os,I.bare,I.base,I.loc,I.cell,I.free,I.freeC,fun p hp=>(List.mem_append.mp hp).elim (fun z=>I.pin p (List.mem_append_left _ z)) (h p),I.hok,I.len⟩
theorem nV {N:List Str} (hN:N.Nodup) {i j:Nat} {x:Str} (a:N[i]?=some x) (b:N[j]?=some x):i=j:=by
 obtain ⟨h1,e1⟩:=List.getElem?_eq_some_iff.mp a
 obtain ⟨h2,e2⟩:=List.getElem?_eq_some_iff.mp b
 exact (List.getElem_inj hN).mp (e1.trans e2.symm)
theorem wq {M:Model} {A:Around} {E:Value→Shared→Prop} {i:Nat} {x:Str} {v:V} {u:Value} {Q:Unit→Shared→Prop} (I:Inv X pins σ H s) (hN:X.N.Nodup) (hi:X.N[i]?=some x) (hx:Loc X.env.scope x) (r:RelV v u)
  (h:∀s',Inv X pins (σ.set i (some v)) H s'→(∃a,Heap.SameBut a s.heap s'.heap∧(a=X.env.locals∨X.env.cells.lookup x=some a))→Q () s') (hf:X.fn x=true∨X.env.scope.names.lookup x=some .local:=by first|exact .inl rfl|exact .inr rfl|assumption):wpAny M A (storeName X.env x u) Q E s:=by
 obtain ⟨m,hn,hl⟩:=id I.loc
 have hcls:(X.env.scope.kind == .class || (X.env.scope.kind == .module && X.env.locals != X.env.globals))=false:=by rw [I.ok.kind];rfl
 have hiσ:i <σ.length:=by rw [I.len];exact (List.getElem?_eq_some_iff.mp hi).1
 have cne:=I.cne
 have tracked:∀{a:Addr} {h':Heap},(∃o,s.heap.get? a=some o∧H a=none)→Heap.SameBut a s.heap h'→HOk X.prog X.w H h':=fun {a h'} ha hs b ob e=>by
  obtain ⟨_,_,hfree⟩:=ha
  refine (I.hok b ob e).stay (fun c w' hc q=>(hs.2 c ?_).trans q) (fun _ q=>q) fun _ _ q=>q
  rintro rfl
  rcases hc with rfl|hc
  ·
   rw [hfree] at e;cases e
  ·
   rw [hfree] at hc;cases hc
 rcases hx with hk|hk
 ·
  refine wpAny_storeName_local hk hn (fun h' hn' hs=>?_) hcls
  obtain ⟨oL,_,_,hoL,_⟩:=id hn
  refine h _ ⟨I.ok,I.os,I.bare,⟨fun b o e n hb hx=>?_,fun b o e n hb hx=>?_,I.base.free,fun b o e hx=>?_,I.base.tups,I.base.frzs,I.base.tbls⟩,⟨_,hn',fun j y v' e1 e2 e3=>?_⟩,fun y c e=>?_,I.free,I.freeC,fun p hp=>?_,tracked ⟨oL,hoL,I.free⟩ hs,by simpa using I.len⟩ ⟨_,hs,.inl rfl⟩
  ·
   exact (hs.2 b (Nat.ne_of_lt (Nat.lt_of_lt_of_le (Heap.lt_size e) I.ok.above))).trans (I.base.keep b o e n hb hx)
  ·
   obtain ⟨sl,e1⟩:=I.base.slot b o e n hb hx
   exact ⟨sl,(hs.2 b (Nat.ne_of_lt (Nat.lt_of_lt_of_le (Heap.lt_size e) I.ok.above))).trans e1⟩
  ·
   obtain ⟨o',e1⟩:=I.base.there b o e hx
   exact ⟨o',(hs.2 b (Nat.ne_of_lt (Nat.lt_of_lt_of_le (Heap.lt_size e) I.ok.above))).trans e1⟩
  ·
   by_cases hj:j=i
   ·
    subst hj
    rw [hi] at e1;cases e1
    rw [List.getElem?_set_self hiσ] at e2
    cases e2
    exact ⟨u,r,.inl ⟨hk,by simp⟩⟩
   ·
    rw [List.getElem?_set_ne (Ne.symm hj)] at e2
    obtain ⟨u',r',q⟩:=hl j y v' e1 e2 e3
    refine ⟨u',r',?_⟩
    rcases q with ⟨k,e⟩|⟨k,c,e,z⟩
    ·
     refine .inl ⟨k,?_⟩
     have:y≠x:=fun e=>hj (nV hN e1 (e ▸ hi))
     simp [this,e]
    ·
     exact .inr ⟨k,c,e,z.sameBut hs (cne y c e)⟩
  ·
   obtain ⟨w',z⟩:=I.cell y c e
   exact ⟨w',z.sameBut hs (cne y c e)⟩
  ·
   obtain ⟨e,n,ne,nf,d⟩:=I.pin p hp
   exact ⟨(hs.2 p.1 ne).trans e,n,ne,nf,d⟩
 ·
  have hfn:X.fn x=true:=by
   rcases hf with z|z
   ·
    exact z
   ·
    rw [z] at hk;cases hk
  obtain ⟨c,hc⟩:=I.ok.has x (.inl hk)
  obtain ⟨w',z⟩:=I.cell x c hc
  refine wpAny_storeName_cell I.ok.kind hk hc z (fun h' hc' hs=>?_)
  obtain ⟨oc,hoc,hocd⟩:=id z
  refine h { s with heap:=h' } ⟨I.ok,I.os,I.bare,⟨fun b o e n hb hx=>?_,fun b o e n hb hx=>?_,I.base.free,fun b o e hx=>?_,I.base.tups,I.base.frzs,I.base.tbls⟩,⟨m,hn.sameBut hs (Ne.symm (cne x c hc)),fun j y v' e1 e2 e3=>?_⟩,fun y c' e=>?_,I.free,I.freeC,fun p hp=>?_,tracked ⟨oc,hoc,I.freeC x c hc⟩ hs,by simpa using I.len⟩ ⟨c,hs,.inr hc⟩
  ·
   exact (hs.2 b (Nat.ne_of_lt (Nat.lt_of_lt_of_le (Heap.lt_size e) (I.ok.cab x c hfn hc)))).trans (I.base.keep b o e n hb hx)
  ·
   obtain ⟨sl,e1⟩:=I.base.slot b o e n hb hx
   exact ⟨sl,(hs.2 b (Nat.ne_of_lt (Nat.lt_of_lt_of_le (Heap.lt_size e) (I.ok.cab x c hfn hc)))).trans e1⟩
  ·
   obtain ⟨o',e1⟩:=I.base.there b o e hx
   exact ⟨o',(hs.2 b (Nat.ne_of_lt (Nat.lt_of_lt_of_le (Heap.lt_size e) (I.ok.cab x c hfn hc)))).trans e1⟩
  ·
   by_cases hj:j=i
   ·
    subst hj
    rw [hi] at e1;cases e1
    rw [List.getElem?_set_self hiσ] at e2
    cases e2
    exact ⟨u,r,.inr ⟨.inl hk,c,hc,hc'⟩⟩
   ·
    rw [List.getElem?_set_ne (Ne.symm hj)] at e2
    obtain ⟨u',r',q⟩:=hl j y v' e1 e2 e3
    refine ⟨u',r',?_⟩
    rcases q with q|⟨k,c',e,z'⟩
    ·
     exact .inl q
    ·
     refine .inr ⟨k,c',e,z'.sameBut hs ?_⟩
     rintro rfl
     exact hj (nV hN e1 (I.ok.inj _ _ _ e hc ▸ hi))
  ·
   by_cases hcc:c'=c
   ·
    subst hcc;exact ⟨_,hc'⟩
   ·
    obtain ⟨w2,z2⟩:=I.cell y c' e
    exact ⟨w2,z2.sameBut hs hcc⟩
  ·
   obtain ⟨e,n,ne,nf,d⟩:=I.pin p hp
   refine ⟨(hs.2 p.1 ?_).trans e,n,ne,nf,d⟩
   intro q
   rw [q,hoc] at e
   have q':oc=p.2:=Option.some.inj e
   exact d w' (by rw [← q'];exact hocd)
theorem eU {M:Model} {A:Around} {E:Value→Shared→Prop} {i:Nat} {x:Str} {v:V} {u:Value} {Q:Unit→Shared→Prop} (I:Inv X pins σ H s) (hN:X.N.Nodup) (hi:X.N[i]?=some x) (hx:Loc X.env.scope x) (r:RelV v u)
  (h:∀s',Inv X pins (σ.set i (some v)) H s'→Q () s') (hf:X.fn x=true∨X.env.scope.names.lookup x=some .local:=by first|exact .inl rfl|exact .inr rfl|assumption):wpAny M A (storeName X.env x u) Q E s :=
 wq I hN hi hx r (fun s' I' _=>h s' I') hf
theorem Inv.call' {s':Shared} {ch:List Addr} (I:Inv X pins σ H s) (ho:s'.os=s.os) (u:Un (frs X.stack) ch H H' s.heap s'.heap) (hok:HOk X.prog X.w H' s'.heap) (hg:AllBare s'.gens)
  (hch:∀b∈ch,(b∈X.ex∨X.s₀.heap.objs.size≤b)∧b≠X.env.locals∧(∀x c,X.env.cells.lookup x=some c→c≠b)∧∀p∈X.pn++pins,p.1≠b):Inv X pins σ H' s':=by
 obtain ⟨h',g',d',t',o'⟩:=s'
 have e:o'=s.os:=ho
 subst e
 exact I.call (g':=g') (t':=t') (d':=d') u hok hg hch
end
abbrev XK:=Value→Option Addr→Hp→Prop
abbrev St:=List (Option V)
abbrev VK:=V→Hp→Prop
abbrev TE:=St→Hp→VK→Prop
abbrev TT:=St→Hp→(Bool→Hp→Prop)→Prop
abbrev TA:=St→Hp→(List V→Hp→Prop)→Prop
structure Ends where
 nx:St→Hp→Prop
 rt:VK
 bk:St→Hp→Prop:=fun _ _=>False
 ct:St→Hp→Prop:=fun _ _=>False
abbrev TS:=Ends→St→Hp→Prop
def EP (X:Cx) (pins:List (Addr×Obj)) (σ:St) (Q:VK) (u:Value) (s':Shared):Prop:=∃v H',Inv X pins σ H' s'∧RelV v u∧Q v H'
def TP (X:Cx) (pins:List (Addr×Obj)) (σ:St) (Q:Bool→Hp→Prop) (b:Bool) (s':Shared):Prop:=∃H',Inv X pins σ H' s'∧Q b H'
def AP (X:Cx) (pins:List (Addr×Obj)) (σ:St) (Q:List V→Hp→Prop) (us:List Value) (s':Shared):Prop:=∃vs H',Inv X pins σ H' s'∧Vals vs us∧Q vs H'
def SP (X:Cx) (pins:List (Addr×Obj)) (D:Ends) (f:Flow) (s':Shared):Prop :=
 match f with
 | .next=>∃σ' H',Inv X pins σ' H' s'∧D.nx σ' H'
 | .brk=>∃σ' H',Inv X pins σ' H' s'∧D.bk σ' H'
 | .cont=>∃σ' H',Inv X pins σ' H' s'∧D.ct σ' H'
 | .ret u=>∃v σ' H',Inv X pins σ' H' s'∧RelV v u∧D.rt v H'
def PE (X:Cx) (e:Expr) (t:TE):Prop :=
 ∀(pins:List (Addr×Obj)) (s:Shared) (σ:St) (H:Hp) (Q:VK),Inv X pins σ H s→t σ H Q→wpAny (model X.prog X.w) X.A (eval e X.env) (EP X pins σ Q) X.xe s
def PT (X:Cx) (e:Expr) (t:TT):Prop :=
 ∀(pins:List (Addr×Obj)) (s:Shared) (σ:St) (H:Hp) (Q:Bool→Hp→Prop),Inv X pins σ H s→t σ H Q→wpAny (model X.prog X.w) X.A (isTrue e X.env (eval e X.env)) (TP X pins σ Q) X.xe s
def PA (X:Cx) (es:List Expr) (t:TA):Prop :=
 ∀(pos:Pos) (pins:List (Addr×Obj)) (s:Shared) (σ:St) (H:Hp) (Q:List V→Hp→Prop),Inv X pins σ H s→t σ H Q→wpAny (model X.prog X.w) X.A (spliced (backTo pos (starEach es X.env))) (AP X pins σ Q) X.xe s
def PS (X:Cx) (st:Stmt) (t:TS):Prop :=
 ∀(pins:List (Addr×Obj)) (s:Shared) (σ:St) (H:Hp) (D:Ends),Inv X pins σ H s→t D σ H→wpAny (model X.prog X.w) X.A (exec st X.env) (SP X pins D) X.xe s
def PSs (X:Cx) (st:List Stmt) (t:TS):Prop :=
 ∀(pins:List (Addr×Obj)) (s:Shared) (σ:St) (H:Hp) (D:Ends),Inv X pins σ H s→t D σ H→wpAny (model X.prog X.w) X.A (execs st X.env) (SP X pins D) X.xe s
theorem thn {α:Type} {t:Sem α} {Q Q':α→Shared→Prop} {M:Model} {A:Around} {E:Value→Shared→Prop} {s:Shared} (h:wpAny M A t Q E s) (hQ:∀a s,Q a s→Q' a s):wpAny M A t Q' E s:=wpAny_mono h hQ fun _ _ x=>x
end L2
namespace L2
open PySem PySem.Spec PyProof.Rows
section
variable {X:Cx}
theorem bin {a b:Expr} {ta tb:TE} (ha:PE X a ta) (hb:PE X b tb) {pins:List (Addr×Obj)} {s:Shared} {σ:St} {H:Hp} {R:V→V→Hp→Prop} (I:Inv X pins σ H s) (h:ta σ H fun x H1=>tb σ H1 fun y H2=>R x y H2)
  {α:Type} {Q:α→Shared→Prop} {f:Value→Value→Sem α}
  (hf:∀v u s2 x y H2,Inv X pins σ H2 s2→RelV x v→RelV y u→R x y H2→wpAny (model X.prog X.w) X.A (f v u) Q X.xe s2) :
  wpAny (model X.prog X.w) X.A (eval a X.env) (fun v s₁=>wpAny (model X.prog X.w) X.A (eval b X.env) (fun u s₂=>wpAny (model X.prog X.w) X.A (f v u) Q X.xe s₂) X.xe s₁) X.xe s:=by
 refine thn (ha pins s σ H _ I h) fun v s1 ⟨x,H1,I1,r1,q1⟩=>?_
 refine thn (hb pins s1 σ H1 _ I1 q1) fun u s2 ⟨y,H2,I2,r2,q2⟩=>?_
 exact hf v u s2 x y H2 I2 r1 r2 q2
def tVar (i:Nat):TE:=fun σ H Q=>∃v,σ[i]?=some (some v)∧Q v H
def tC (v:V):TE:=fun _ H Q=>Q v H
theorem dB {i:Nat} {x:Str} {pos:Pos} (hN:X.N[i]?=some x) (hv:Vis X.env.scope x) (hd:(x == ("__debug__" : Str))=false:=by decide) (hcd:(x == ("__classdict__" : Str))=false:=by decide):PE X (.Name x pos) (tVar i):=by
 intro pins s σ H Q I h
 obtain ⟨v,e,h⟩:=h
 obtain ⟨m,hn,hl⟩:=I.loc
 obtain ⟨u,r,l⟩:=hl i x v hN e hv
 have fin:EP X pins σ Q u s:=⟨v,H,I,r,h⟩
 rcases l with ⟨hk,hm⟩|⟨hk,c,hc,hcell⟩
 ·
  exact wpAny_Name (wpAny_loadName_local I.ok.kind hk hn hm fin) hd
 ·
  rcases hk with hk|hk
  ·
   exact wpAny_Name (wpAny_loadName_cell I.ok.kind hk hc hcell fin) hd
  ·
   exact wpAny_Name (wpAny_loadName_free I.ok.kind hk hc hcell fin hcd) hd
theorem DL {i j pos}:PE X (.Constant (.int i) j pos) (tC (.int i)):=fun _ _ _ H _ I h=>wpAny_Constant_int ⟨.int i,H,I.tok _,⟨_,rfl⟩,h⟩
theorem FN {b j pos}:PE X (.Constant (.bool b) j pos) (tC (.bl b)):=fun _ _ _ H _ I h=>Constant_bool ⟨.bl b,H,I,rfl,h⟩
theorem DM {j pos}:PE X (.Constant .none j pos) (tC .non):=fun _ _ _ H _ I h=>Constant_none ⟨.non,H,I,rfl,h⟩
theorem wu {x j pos}:PE X (.Constant (.str x) j pos) (tC (.str x)):=fun _ _ _ H _ I h=>Calls.Constant_str ⟨.str x,H,I.tok _,⟨_,rfl⟩,h⟩
def Gl (X:Cx) (x:Str):Prop:=X.env.kindOf x=some .globalImplicit
theorem fR {E:Value→Shared→Prop} {pins:List (Addr×Obj)} {s:Shared} {σ:St} {H:Hp} {x:Str} {u:Value} {pos:Pos} {Q:Value→Shared→Prop} (I:Inv X pins σ H s) (hg:Gl X x) (hm:X.mg x=some u) (h:Q u s)
  (hd:(x == ("__debug__" : Str))=false:=by decide):wpAny (model X.prog X.w) X.A (eval (.Name x pos) X.env) Q E s :=
 Calls.Name_function_global I.ok.kind hg (Calls.loadGlobal_global (by rw [I.ok.glob];exact I.mod.glob.keeps I.bk) hm h) hd
theorem kQ {E:Value→Shared→Prop} {pins:List (Addr×Obj)} {s:Shared} {σ:St} {H:Hp} {x:Str} {u:Value} {pos:Pos} {Q:Value→Shared→Prop} (I:Inv X pins σ H s) (hg:Gl X x) (hm:X.mg x=none) (hv:bootBuiltins x=some u) (h:Q u s)
  (hn:x≠"__name__":=by decide) (hd:(x == ("__debug__" : Str))=false:=by decide):wpAny (model X.prog X.w) X.A (eval (.Name x pos) X.env) Q E s:=by
 obtain ⟨mb,h1,h2⟩:=I.mod.blt
 exact Calls.Name_function_global I.ok.kind hg (Calls.loadGlobal_builtin (by rw [I.ok.glob];exact I.mod.glob.keeps I.bk) hm (by rw [I.ok.blt];exact h1.keeps I.bk) ((h2 x hn).trans hv) h) hd
theorem rL {x:Str} {v:V} {u:Value} {pos:Pos} (hg:Gl X x) (hm:X.mg x=some u) (r:RelV v u) (hd:(x == ("__debug__" : Str))=false:=by decide):PE X (.Name x pos) (tC v) :=
 fun _ _ _ H _ I h=>fR I hg hm ⟨v,H,I,r,h⟩ hd
theorem BL {x:Str} {v:V} {u:Value} {pos:Pos} (hg:Gl X x) (hm:X.mg x=none) (hv:bootBuiltins x=some u) (r:RelV v u) (hn:x≠"__name__":=by decide) (hd:(x == ("__debug__" : Str))=false:=by decide):PE X (.Name x pos) (tC v) :=
 fun _ _ _ H _ I h=>kQ I hg hm hv ⟨v,H,I,r,h⟩ hn hd
variable {a b:Expr} {ta tb:TE} {pos:Pos}
def tB (t:TE):TT:=fun σ H Q=>t σ H fun x H1=>∃c,x=.bl c∧Q c H1
variable {tA tB':TT} {rest:List Expr}
end
end L2
namespace L2
open PySem PySem.Spec PyProof.Rows
def SqL (K:PySem.W.Frag) (H:Hp) (a:Addr) (xs:List V):Prop :=
 Rd H a (.lst xs) ∨
  ∃ (o:Obj) (its:Array Value) (n:Nat),K.lookup a=some o∧o.cls=.type "list"∧o.dict=none∧o.data=.seq its n∧its.size≤sizeLine∧Vals xs its.toList
def SqT (K:PySem.W.Frag) (H:Hp) (a:Addr) (xs:List V):Prop :=
 Rd H a (.tup xs) ∨
  ∃ (o:Obj) (its:Array Value) (n:Nat),K.lookup a=some o∧o.cls=.type "tuple"∧o.data=.seq its n∧its.size≤sizeLine∧Vals xs its.toList
def absV:Value→Option V
 | .none=>some .non
 | .bool b=>some (.bl b)
 | .int i _=>some (.int i)
 | .str x _=>some (.str x)
 | .bytes b _=>some (.byt b)
 | .float b _=>some (.flt b)
 | .ref a=>some (.ref a)
 | .type n=>some (.ty n)
 | _=>none
theorem RelV.abs {x:V} {u:Value} (r:RelV x u):absV u=some x:=by
 cases x with
 | non=>cases r;rfl
 | bl _=>cases r;rfl
 | int _=>obtain ⟨t,rfl⟩:=r;rfl
 | str _=>obtain ⟨t,rfl⟩:=r;rfl
 | byt _=>obtain ⟨t,rfl⟩:=r;rfl
 | flt _=>obtain ⟨t,rfl⟩:=r;rfl
 | ref _=>cases r;rfl
 | ty _=>cases r;rfl
theorem RelV.inj {x y:V} {u:Value} (r:RelV x u) (q:RelV y u):x=y:=Option.some.inj (r.abs.symm.trans q.abs)
theorem Vals.inj:∀{xs ys:List V} {us:List Value},Vals xs us→Vals ys us→xs=ys
 | _,_,_,.nil,.nil=>rfl
 | _,_,_,.cons r t,.cons r' t'=>by rw [r.inj r',Vals.inj t t']
section
variable {X:Cx} {pins:List (Addr×Obj)} {σ:St} {H:Hp} {s:Shared} {a:Addr} {xs ys:List V}
theorem SqL.of {K:PySem.W.Frag} (h:H a=some (.lst xs)):SqL K H a xs:=.inl (.inl h)
theorem SqT.of {K:PySem.W.Frag} (h:H a=some (.tup xs)):SqT K H a xs:=.inl (.inl h)
theorem Inv.list (I:Inv X pins σ H s) (h:SqL X.K H a xs):∃its:List Value,Vals xs its∧PlainL s.heap a its.toArray∧xs.length≤sizeLine:=by
 rcases h with h|⟨o,its,n,hk,hc,hd,hs,hz,r⟩
 ·
  obtain ⟨z,its,n,r,e⟩:=h.ok I.hok
  exact ⟨its,r,⟨_,n,e,rfl,rfl,rfl⟩,z⟩
 ·
  refine ⟨its.toList,r,⟨o,n,I.kIn a o hk,hc,hd,by simpa using hs⟩,?_⟩
  have e:=r.length
  simp only [Array.length_toList] at e
  omega
theorem Inv.tuple (I:Inv X pins σ H s) (h:SqT X.K H a xs):∃its:List Value,Vals xs its∧IsTup s.heap a its.toArray∧xs.length≤sizeLine:=by
 rcases h with h|⟨o,its,n,hk,hc,hs,hz,r⟩
 ·
  obtain ⟨z,its,r,p⟩:=h.ok I.hok
  exact ⟨its,r,p,z⟩
 ·
  refine ⟨its.toList,r,⟨o,I.kIn a o hk,hc,n,by simpa using hs⟩,?_⟩
  have e:=r.length
  simp only [Array.length_toList] at e
  omega
theorem Inv.list_inj (I:Inv X pins σ H s) (h:SqL X.K H a xs) (h':SqL X.K H a ys):xs=ys:=by
 obtain ⟨its,r,⟨o,n,e,_,_,d⟩,_⟩:=I.list h
 obtain ⟨its',r',⟨o',n',e',_,_,d'⟩,_⟩:=I.list h'
 rw [e] at e';cases e'
 rw [d] at d'
 injection d' with d1 _
 have:its=its':=by simpa using congrArg Array.toList d1
 subst this
 exact r.inj r'
theorem Inv.tuple_inj (I:Inv X pins σ H s) (h:SqT X.K H a xs) (h':SqT X.K H a ys):xs=ys:=by
 obtain ⟨its,r,⟨o,e,_,n,d⟩,_⟩:=I.tuple h
 obtain ⟨its',r',⟨o',e',_,n',d'⟩,_⟩:=I.tuple h'
 rw [e] at e';cases e'
 rw [d] at d'
 injection d' with d1 _
 have:its=its':=by simpa using congrArg Array.toList d1
 subst this
 exact r.inj r'
end
abbrev Cx.wish (X:Cx) (E:Value→Shared→Prop):Cx:={ X with xe:=E }
abbrev Cx.nox (X:Cx):Cx:=X.wish fun _ _=>False
theorem Cx.Ok.wish {X:Cx} (ok:X.Ok) (E:Value→Shared→Prop):(X.wish E).Ok :=
 ⟨ok.mod,ok.kind,ok.glob,ok.blt,ok.above,ok.inj,ok.has,ok.cab,ok.hd,ok.frames,ok.stk,ok.exf,ok.bs,ok.bsz,ok.noex,ok.exfs,ok.funs,ok.frf⟩
theorem Cx.Ok.unwish {X:Cx} {E:Value→Shared→Prop} (ok:(X.wish E).Ok):X.Ok :=
 ⟨ok.mod,ok.kind,ok.glob,ok.blt,ok.above,ok.inj,ok.has,ok.cab,ok.hd,ok.frames,ok.stk,ok.exf,ok.bs,ok.bsz,ok.noex,ok.exfs,ok.funs,ok.frf⟩
section
variable {X:Cx} {pins:List (Addr×Obj)} {σ:St} {H:Hp} {s:Shared} {E:Value→Shared→Prop}
theorem Inv.wish (I:Inv X pins σ H s) (E:Value→Shared→Prop):Inv (X.wish E) pins σ H s:=⟨I.ok.wish E,I.os,I.bare,I.base,I.loc,I.cell,I.free,I.freeC,I.pin,I.hok,I.len⟩
theorem Inv.unwish (I:Inv (X.wish E) pins σ H s):Inv X pins σ H s:=⟨I.ok.unwish,I.os,I.bare,I.base,I.loc,I.cell,I.free,I.freeC,I.pin,I.hok,I.len⟩
theorem SP.unwish {D:Ends} {f:Flow} {s':Shared} (h:SP (X.wish E) pins D f s'):SP X pins D f s':=by
 cases f with
 | next=>obtain ⟨σ',H',I,q⟩:=h;exact ⟨σ',H',I.unwish,q⟩
 | brk=>obtain ⟨σ',H',I,q⟩:=h;exact ⟨σ',H',I.unwish,q⟩
 | cont=>obtain ⟨σ',H',I,q⟩:=h;exact ⟨σ',H',I.unwish,q⟩
 | ret u=>obtain ⟨v,σ',H',I,r,q⟩:=h;exact ⟨v,σ',H',I.unwish,r,q⟩
theorem PSs.nox {st:List Stmt} {t:TS} (h:PSs X.nox st t):PSs X st t:=fun pins s σ H D I hw =>
 wpAny_mono (h pins s σ H D (I.wish _) hw) (fun _ _ q=>q.unwish) fun _ _ z=>False.elim z
end
section
variable {X:Cx} {st:Stmt} {rest:List Stmt} {t u:TS} {e:Expr} {te:TE} {pos:Pos}
def tSeq (t u:TS):TS:=fun D σ H=>t { D with nx:=u D } σ H
theorem zw (h1:PS X st t) (h2:PSs X rest u):PSs X (st::rest) (tSeq t u):=by
 intro pins s σ H D I h
 refine wpAny_execs_cons (thn (h1 pins s σ H { D with nx:=u D } I h) fun f s1 q=>?_)
 cases f with
 | next =>
  obtain ⟨σ',H',I',q⟩:=q
  exact h2 pins s1 σ' H' D I' q
 | ret v=>exact q
 | brk=>exact q
 | cont=>exact q
theorem wx (h1:PS X st t):PSs X [st] t:=by
 intro pins s σ H D I h
 refine wpAny_execs_cons (thn (h1 pins s σ H D I h) fun f s1 q=>?_)
 cases f with
 | next=>exact wpAny_execs_nil q
 | ret v=>exact q
 | brk=>exact q
 | cont=>exact q
theorem Inv.quiet {pins:List (Addr×Obj)} {σ:St} {H:Hp} {s:Shared} (I:Inv X pins σ H s):interactive X.env=false:=by simp [interactive,I.ok.kind]
def BM (te:TE):TS:=fun D σ H=>te σ H fun _ H1=>D.nx σ H1
theorem wy (he:PE X e te) (hs:swapsWith e none pos.line X.env=pure false:=by rfl):PS X (.Expr e pos) (BM te):=by
 intro pins s σ H D I h
 exact wpAny_Expr_any (thn (he pins s σ H _ I h) fun v s1 ⟨x,H1,I1,r1,q1⟩=>⟨σ,H1,I1,q1⟩) I.quiet hs
end
abbrev TG:=V→St→Hp→(St→Hp→Prop)→Prop
abbrev TGs:=List V→St→Hp→(St→Hp→Prop)→Prop
def PG (X:Cx) (target:Expr) (t:TG):Prop :=
 ∀(pins:List (Addr×Obj)) (s:Shared) (σ:St) (H:Hp) (v:V) (u:Value) (Q:St→Hp→Prop),Inv X pins σ H s→RelV v u→t v σ H Q →
  wpAny (model X.prog X.w) X.A (assign target X.env u) (fun _ s'=>∃σ' H',Inv X pins σ' H' s'∧Q σ' H') X.xe s
def PGs (X:Cx) (ts:List Expr) (t:TGs):Prop :=
 ∀(pins:List (Addr×Obj)) (s:Shared) (σ:St) (H:Hp) (vs:List V) (us:List Value) (Q:St→Hp→Prop),Inv X pins σ H s→Vals vs us→t vs σ H Q →
  wpAny (model X.prog X.w) X.A (assignInOrder ((assignEach ts X.env).map (·.2)) us) (fun _ s'=>∃σ' H',Inv X pins σ' H' s'∧Q σ' H') X.xe s
abbrev TSet:=V→V→V→Hp→(Hp→Prop)→Prop
def PSet (X:Cx) (t:TSet):Prop :=
 ∀(pins:List (Addr×Obj)) (s:Shared) (σ:St) (H:Hp) (o i v:V) (ov iv u:Value) (Q:Hp→Prop),Inv X pins σ H s→RelV o ov→RelV i iv→RelV v u→t o i v H Q →
  wpAny (model X.prog X.w) X.A (setItem ov iv u) (fun _ s'=>∃H',Inv X pins σ H' s'∧Q H') X.xe s
section
variable {X:Cx} {pos:Pos}
def FO (i:Nat):TG:=fun v σ H Q=>Q (σ.set i (some v)) H
theorem rM {i:Nat} {x:Str} (hN:X.N.Nodup) (hi:X.N[i]?=some x) (hx:Loc X.env.scope x) (hf:X.fn x=true∨X.env.scope.names.lookup x=some .local:=by first|exact .inl rfl|exact .inr rfl|assumption):PG X (.Name x pos) (FO i):=by
 intro pins s σ H v u Q I r h
 exact wpAny_assign_Name (eU I hN hi hx r (fun s' I'=>⟨_,H,I',h⟩) hf)
def gNil:TGs:=fun vs σ H Q=>vs=[]∧Q σ H
def FP (t:TG) (u:TGs):TGs:=fun vs σ H Q=>∃v r,vs=v::r∧t v σ H fun σ' H'=>u r σ' H' Q
theorem BN:PGs X [] gNil:=by
 intro pins s σ H vs us Q I r h
 obtain ⟨e,h⟩:=h
 subst e
 cases r
 exact assignInOrder_nil ⟨σ,H,I,h⟩
theorem zx {e:Expr} {es:List Expr} {t:TG} {u:TGs} (h1:PG X e t) (h2:PGs X es u)
  (hs:(assignEach (e::es) X.env).map (·.2)=assign e X.env::(assignEach es X.env).map (·.2):=by rfl):PGs X (e::es) (FP t u):=by
 intro pins s σ H vs us Q I r h
 obtain ⟨v,vr,e1,h⟩:=h
 subst e1
 cases r with
 | cons r rr =>
  rw [hs]
  refine assignInOrder_cons (thn (h1 pins s σ H _ _ _ I r h) fun _ s1 ⟨σ1,H1,I1,q1⟩=>?_)
  exact h2 pins s1 σ1 H1 _ _ Q I1 rr q1
def gTup (K:PySem.W.Frag) (n:Nat) (t:TGs):TG:=fun v σ H Q=>∃a xs,v=.ref a∧SqT K H a xs∧xs.length=n∧t xs σ H Q
theorem DN {es:List Expr} {k:Nat} {t:TGs} {n:Nat} (hc:X.calm=true) (h:PGs X es t)
  (hn:(assignEach es X.env).length=n:=by rfl) (hst:(assignEach es X.env).findIdx? (·.1)=none:=by rfl):PG X (.Tuple es k pos) (gTup X.K n t):=by
 intro pins s σ H v u Q I r hw
 obtain ⟨a,xs,e1,hq,hl,hw⟩:=hw
 subst e1
 cases r
 obtain ⟨its,rv,ht,hz⟩:=I.tuple hq
 refine assign_Tuple_tuple (I.ok.hd hc) ht (by simp [hn,← hl,rv.length]) hst fun h' hx=>?_
 have I1:Inv X pins σ H { s with heap:=h' }:=I.kept (t':=s.toks) fun b o e=>hx b o (Nat.ne_of_lt (Heap.lt_size e)) e
 exact h pins _ σ H xs _ Q I1 (by simpa using rv) hw
def gSub (to ti:TE) (t:TSet):TG:=fun v σ H Q=>to σ H fun o H1=>ti σ H1 fun i H2=>t o i v H2 fun H3=>Q σ H3
theorem DO {o i:Expr} {to ti:TE} {t:TSet} (ho:PE X o to) (hi:PE X i ti) (hs:PSet X t)
  (ha:∀v,assign (.Subscript o i pos) X.env v=(do
   let ov ← holding [v] (eval o X.env)
   let iv ← holding [v,ov] (eval i X.env)
   standAt pos
   holding [v,ov,iv] (setItem ov iv v)
   release [v,ov,iv] []):=by intro _;rfl):PG X (.Subscript o i pos) (gSub to ti t):=by
 intro pins s σ H v u Q I r h
 rw [ha]
 refine wpAny_bind (wpAny_holding (thn (ho pins s σ H _ I h) fun ov s1 ⟨x,H1,I1,r1,q1⟩=>?_))
 refine wpAny_bind (wpAny_holding (thn (hi pins s1 σ H1 _ I1 q1) fun iv s2 ⟨y,H2,I2,r2,q2⟩=>?_))
 refine wpAny_bind (wpAny_standAt (wpAny_bind (wpAny_holding (thn (hs pins s2 σ H2 x y v ov iv u _ I2 r1 r2 r q2) fun _ s3 ⟨H3,I3,q3⟩=>?_))))
 exact wpAny_release ⟨σ,H3,I3,q3⟩
def tAsg (te:TE) (g:TG):TS:=fun D σ H=>te σ H fun x H1=>g x σ H1 D.nx
theorem DP {tg e:Expr} {te:TE} {g:TG} (he:PE X e te) (hg:PG X tg g) (hs:swapsWithSole [tg] e pos.line X.env=pure false:=by rfl) (hw:swappedStores [tg] e X.env=pure none:=by rfl)
  (h1:(assignEach [tg] X.env).map (·.2)=[assign tg X.env]:=by rfl):PS X (.Assign [tg] e pos) (tAsg te g):=by
 intro pins s σ H D I h
 refine wpAny_Assign_stores (thn (he pins s σ H _ I h) fun v s1 ⟨x,H1,I1,r1,q1⟩=>?_) hs hw
 rw [h1]
 exact thn (hg pins s1 σ H1 x v _ I1 r1 q1) fun _ s2 q=>q
def tPar (i j:Nat) (ta:TA):TS:=fun D σ H=>ta σ H fun vs H1=>∃v w,vs=[v,w]∧D.nx ((σ.set i (some v)).set j (some w)) H1
theorem DQ {i j:Nat} {x y:Str} {a b:Expr} {ta:TA} {px py pt:Pos} {kt k2 pt2} (hc:X.calm=true) (hN:X.N.Nodup) (hi:X.N[i]?=some x) (hj:X.N[j]?=some y) (hij:i≠j)
  (hx:X.env.scope.names.lookup x=some .local) (hy:X.env.scope.names.lookup y=some .local) (ha:PA X [a,b] ta)
  (hw:swappedStores [.Tuple [.Name x px,.Name y py] kt pt] (.Tuple [a,b] k2 pt2) X.env=pure (some [x,y]))
  (hs:swapsWithSole [.Tuple [.Name x px,.Name y py] kt pt] (.Tuple [a,b] k2 pt2) pos.line X.env=pure false:=by rfl) :
  PS X (.Assign [.Tuple [.Name x px,.Name y py] kt pt] (.Tuple [a,b] k2 pt2) pos) (tPar i j ta):=by
 intro pins s σ H D I h
 rw [exec_Assign_arm]
 refine wpAny_bind (wpAny_standAt ?_)
 rw [hs]
 refine wpAny_bind (wpAny_pure ?_)
 rw [if_neg (by decide)]
 refine wpAny_bind (Tuple_ (thn (ha _ pins s σ H _ I h) fun us s1 ⟨vs,H1,I1,r1,q1⟩=>?_))
 obtain ⟨v,w,e1,q1⟩:=q1
 subst e1
 obtain ⟨u1,u2,rfl,rv,rw'⟩:∃u1 u2,us=[u1,u2]∧RelV v u1∧RelV w u2:=by
  cases r1 with
  | cons p q =>
   cases q with
   | cons p' q' =>
    cases q'
    exact ⟨_,_,rfl,p,p'⟩
 refine wpAny_newObj_type ?_ (by show 2≤sizeLine;decide)
 have I2:Inv X pins σ H1 { s1 with heap:=s1.heap.push { cls:=.type "tuple",data:=.seq [u1,u2].toArray } }:=I1.kept (t':=s1.toks) fun b o e=>Heap.get?_push_of_some _ e
 rw [hw]
 refine wpAny_bind (wpAny_pure ?_)
 show wpAny (model X.prog X.w) X.A (do rule "assign.swapped-stores"; let items ← unpackItems (.ref s1.heap.objs.size) 2 none; assignInOrder [fun v=>bindName X.env y v,fun v=>bindName X.env x v] items.reverse; pure Flow.next) _ _ _
 refine wpAny_bind (wpAny_rule (wpAny_bind (unpackItems_tuple (items:=#[u1,u2]) (I.ok.hd hc) (IsTup.new s1.heap _) fun h' hx'=>?_)))
 have I3:=I2.kept (h':=h') (t':=s1.toks) fun b o e=>hx' b o (Nat.ne_of_lt (Heap.lt_size e)) e
 show wpAny _ _ (assignInOrder [fun v=>bindName X.env y v,fun v=>bindName X.env x v] [u2,u1] >>= fun _=>pure Flow.next) _ _ _
 refine wpAny_bind (assignInOrder_cons (wpAny_bindName (eU I3 hN hj (.inl hy) rw' (fun s2 I4=>?_) (.inr hy))))
 refine assignInOrder_cons (wpAny_bindName (eU I4 hN hi (.inl hx) rv (fun s3 I5=>assignInOrder_nil (wpAny_pure ?_)) (.inr hx)))
 rw [List.set_comm _ _ (Ne.symm hij)] at I5
 exact ⟨_,H1,I5,q1⟩
end
section
variable {X:Cx} {pos:Pos}
def DS (c:TT) (tb:TS):TS:=fun D σ H=>∃W:Nat→St→Hp→Prop,(∃m,W m σ H)∧∀m σ H,W m σ H →
 c σ H fun b H1=>if b=true then ∃N:St→Hp→Prop,(∀σ' H',N σ' H'→∃m',m' < m∧W m' σ' H')∧tb { D with nx:=N,ct:=N,bk:=D.nx } σ H1 else D.nx σ H1
theorem zy {c:Expr} {body:List Stmt} {tc:TT} {tb:TS} (hp:PassesOwn (model X.prog X.w) X.A X.env X.xe) (hc:PT X c tc) (hb:PSs X body tb):PS X (.While c body [] pos) (DS tc tb):=by
 intro pins s σ H D I h
 obtain ⟨W,⟨m0,w0⟩,turn⟩:=h
 refine wpAny_While (codeAny_whileLoop (fun n s'=>∃σ' H',Inv X pins σ' H' s'∧W n σ' H') ?_ m0 ⟨σ,H,I,w0⟩)
 rintro n s1 ⟨σ1,H1,I1,w1⟩
 refine wpAny_passesOwn hp (thn (hc pins s1 σ1 H1 _ I1 (turn n σ1 H1 w1)) fun b s2 ⟨H2,I2,q2⟩=>?_)
 cases b with
 | true =>
  obtain ⟨N,hN,q2⟩:=q2
  rw [if_pos rfl]
  refine wpAny_passesOwn hp (thn (hb pins s2 σ1 H2 _ I2 q2) fun f s3 q3=>?_)
  cases f with
  | next =>
   obtain ⟨σ3,H3,I3,n3⟩:=q3
   obtain ⟨m',hm,w3⟩:=hN σ3 H3 n3
   exact ⟨m',hm,σ3,H3,I3,w3⟩
  | cont =>
   obtain ⟨σ3,H3,I3,n3⟩:=q3
   obtain ⟨m',hm,w3⟩:=hN σ3 H3 n3
   exact ⟨m',hm,σ3,H3,I3,w3⟩
  | brk=>exact q3
  | ret v=>exact q3
 | false =>
  rw [if_neg Bool.false_ne_true]
  exact wpAny_execs_nil ⟨σ1,H2,I2,q2⟩
end
structure It where
 go:Nat→Hp→Prop
 yld:Nat→Hp→V→Hp→Prop
 stop:Nat→Hp→Prop
def FpOk (X:Cx) (pins:List (Addr×Obj)) (H:Hp) (b:Addr):Prop :=
 H b=none∧b≠X.env.locals∧b∉X.fs∧(b∈X.ex∨X.s₀.heap.objs.size≤b)∧(∀x c,X.env.cells.lookup x=some c→c≠b)∧∀p∈X.pn++pins,p.1≠b
theorem Inv.fpOk {X:Cx} {pins:List (Addr×Obj)} {σ:St} {H H':Hp} {s:Shared} {b:Addr} (I:Inv X pins σ H s) (hb:s.heap.objs.size≤b) (hn:H' b=none):FpOk X pins H' b:=by
 refine ⟨hn,Nat.ne_of_gt (Nat.lt_of_lt_of_le I.lt hb),I.nofs hb,.inr (Nat.le_trans I.sz hb),fun x c e z=>?_,fun p hp z=>?_⟩
 ·
  obtain ⟨v,q⟩:=I.cell x c e
  exact absurd (Nat.lt_of_lt_of_le q.lt (by rw [z];exact hb)) (Nat.lt_irrefl _)
 ·
  exact absurd (Nat.lt_of_lt_of_le (Heap.lt_size (I.pin p hp).1) (by rw [z];exact hb)) (Nat.lt_irrefl _)
structure Turn (P:Program) (w:World) (K:PySem.W.Frag) (tg:Expr) (J:It) (fp:List Addr) (it:Addr) (tn:Nat→Heap→Prop):Prop where
 mem:it∈fp
 obj:∀i h,tn i h→∀b∈fp,∃o,h.get? b=some o∧∀v,o.data≠.cell v
 keep:∀i h h',tn i h→(∀b∈fp,∀o,h.get? b=some o→h'.get? b=some o)→tn i h'
 item:∀(X:Cx),X.prog=P→X.w=w→X.K=K→X.calm=true→∀(i:Nat) (pins:List (Addr×Obj)) (s:Shared) (σ:St) (H:Hp) (E:Value→Shared→Prop),Inv X pins σ H s→(∀b∈fp,FpOk X pins H b)→tn i s.heap→J.go i H →
  wpAny (model P w) X.A (pyNext (.ref it)) (fun r s1=>∃u,r=some u ∧
   wpAny (model P w) X.A (letOwnedTupleGo tg (.ref it) u) (fun _ s2=>∃x H',Inv X pins σ H' s2∧RelV x u∧J.yld i H x H'∧tn (i+1) s2.heap∧∀b∈fp,H' b=none) E s1) E s
 done:∀(X:Cx),X.prog=P→X.w=w→X.K=K→X.calm=true→∀(i:Nat) (pins:List (Addr×Obj)) (s:Shared) (σ:St) (H:Hp) (E:Value→Shared→Prop),Inv X pins σ H s→(∀b∈fp,FpOk X pins H b)→tn i s.heap→J.stop i H →
  wpAny (model P w) X.A (pyNext (.ref it)) (fun r s1=>r=none∧Inv X pins σ H s1) E s
 self:∀(A:Around) (i:Nat) (s:Shared) (Q:Value→Shared→Prop) (E:Value→Shared→Prop),tn i s.heap→Q (.ref it) s→wpAny (model P w) A (pyIter (.ref it)) Q E s
abbrev TI:=St→Hp→(It→Hp→Prop)→Prop
def PIE (X:Cx) (pins:List (Addr×Obj)) (σ:St) (tg:Expr) (R:It→Hp→Prop) (itv:Value) (s2:Shared):Prop :=
 ∃(it:Addr) (fp:List Addr) (tn:Nat→Heap→Prop) (J:It) (H':Hp),itv=.ref it∧Inv X pins σ H' s2∧Turn X.prog X.w X.K tg J fp it tn∧tn 0 s2.heap∧(∀b∈fp,FpOk X pins H' b)∧R J H'
def PI (X:Cx) (tg iter:Expr) (wi:TI):Prop :=
 ∀(pins:List (Addr×Obj)) (s:Shared) (σ:St) (H:Hp) (R:It→Hp→Prop),Inv X pins σ H s→wi σ H R →
  wpAny (model X.prog X.w) X.A (eval iter X.env) (fun v s1=>wpAny (model X.prog X.w) X.A (pyIter v) (PIE X pins σ tg R) X.xe s1) X.xe s
theorem BO {M : Model} {A : Around} {E : Value → Shared → Prop} {s : Shared} {tg : Expr} {it : Addr} {u : Value} {o : Obj} {n : String} {vs : Array Value} {Q : Unit → Shared → Prop} (ho : s.heap.get? it = some o) (hc : o.cls = .type n) (hd : o.data = .fields vs)
    (hn : ["enumerate", "zip", "dict_itemiterator", "dict_reverseitemiterator", "odict_iterator", "itertools.zip_longest", "itertools.pairwise"].contains n = false) (hQ : Q () s) : wpAny M A (letOwnedTupleGo tg (.ref it) u) Q E s := by
  unfold letOwnedTupleGo
  cases tg<;>first
    | exact wpAny_pure hQ
    | (cases u<;>first
        | exact wpAny_pure hQ
        | (refine wpAny_bind (wpAny_load ho ?_)
           rw [hc, hd]
           show wpAny M A (if (["enumerate", "zip", "dict_itemiterator", "dict_reverseitemiterator", "odict_iterator", "itertools.zip_longest", "itertools.pairwise"].contains n && vs[0]? == some (rawInt _)) = true then _ else _) Q E s
           rw [if_neg (by intro h;rw [hn, Bool.false_and] at h;cases h)]
           exact wpAny_pure hQ))
def Itl (K:PySem.W.Frag) (a:Addr):It :=
 ⟨fun i H=>∃xs x,SqL K H a xs∧xs[i]?=some x,fun i H x H'=>H'=H∧∀xs,SqL K H a xs→xs[i]?=some x,fun i H=>∃xs,SqL K H a xs∧xs.length≤i⟩
def Itt (K:PySem.W.Frag) (a:Addr):It :=
 ⟨fun i H=>∃xs x,SqT K H a xs∧xs[i]?=some x,fun i H x H'=>H'=H∧∀xs,SqT K H a xs→xs[i]?=some x,fun i H=>∃xs,SqT K H a xs∧xs.length≤i⟩
def Itr (lo:Int) (n:Nat):It:=⟨fun i _=>i <n,fun i H x H'=>H'=H∧x=.int (lo+i),fun i _=>n≤i⟩
theorem wz {P:Program} {w:World} {K:PySem.W.Frag} {tg:Expr} (a it:Addr):Turn P w K tg (Itl K a) [it] it (fun i h=>h.IsListIter it a i) where
 mem:=by simp
 obj:=fun i h st b hb=>by
  have e:b=it:=by simpa using hb
  subst e
  obtain ⟨o,e,c,d⟩:=st
  exact ⟨o,e,fun v z=>by rw [d] at z;cases z⟩
 keep:=fun i h h' st k=>st.at fun o e=>k it (by simp) o e
 item:=by
  intro X hP hw hK hc i pins s σ H E I hf st hg
  subst hP hw hK
  obtain ⟨xs,x,hq,hx⟩:=hg
  obtain ⟨its,rv,p,hz⟩:=I.list hq
  obtain ⟨u,hu,ru⟩:=rv.get hx
  obtain ⟨f0,f1,f2,f3,f4,f5⟩:=hf it (by simp)
  refine wpAny_pyNext_list_item st p.isList (x:=u) (by simpa using hu) fun h' st' sb=>?_
  have I1:Inv X pins σ H { s with heap:=h' }:=I.turned (t':=s.toks) (fun b o hb e=>(sb.2 b hb).trans e) f0 f1 f3 f4 f5
  obtain ⟨o,e,c,d⟩:=id st'
  exact ⟨u,rfl,BO (s:={ s with heap:=h' }) e c d (by decide) ⟨x,H,I1,ru,⟨rfl,fun ys hy=>by rw [I.list_inj hy hq];exact hx⟩,st',fun b hb=>(hf b hb).1⟩⟩
 done:=by
  intro X hP hw hK hc i pins s σ H E I hf st hg
  subst hP hw hK
  obtain ⟨xs,hq,hx⟩:=hg
  obtain ⟨its,rv,p,hz⟩:=I.list hq
  obtain ⟨f0,f1,f2,f3,f4,f5⟩:=hf it (by simp)
  have hl:=rv.length
  exact wpAny_pyNext_list_end (I.ok.hd hc) st p.isList (by simp;omega) fun h' eb=>⟨rfl,I.turned (t':=s.toks) (fun b o hb e=>eb b o hb e) f0 f1 f3 f4 f5⟩
 self:=fun _ _ _ _ _ st h=>wpAny_pyIter_listiter st h
theorem vk {P:Program} {w:World} {K:PySem.W.Frag} {tg:Expr} (a it:Addr):Turn P w K tg (Itt K a) [it] it (fun i h=>h.IsTupleIter it a i) where
 mem:=by simp
 obj:=fun i h st b hb=>by
  have e:b=it:=by simpa using hb
  subst e
  obtain ⟨o,e,c,d⟩:=st
  exact ⟨o,e,fun v z=>by rw [d] at z;cases z⟩
 keep:=fun i h h' st k=>st.at fun o e=>k it (by simp) o e
 item:=by
  intro X hP hw hK hc i pins s σ H E I hf st hg
  subst hP hw hK
  obtain ⟨xs,x,hq,hx⟩:=hg
  obtain ⟨its,rv,p,hz⟩:=I.tuple hq
  obtain ⟨u,hu,ru⟩:=rv.get hx
  obtain ⟨f0,f1,f2,f3,f4,f5⟩:=hf it (by simp)
  refine wpAny_pyNext_tuple_item st (show s.heap.IsTuple a its.toArray from p) (x:=u) (by simpa using hu) fun h' st' sb=>?_
  have I1:Inv X pins σ H { s with heap:=h' }:=I.turned (t':=s.toks) (fun b o hb e=>(sb.2 b hb).trans e) f0 f1 f3 f4 f5
  obtain ⟨o,e,c,d⟩:=id st'
  exact ⟨u,rfl,BO (s:={ s with heap:=h' }) e c d (by decide) ⟨x,H,I1,ru,⟨rfl,fun ys hy=>by rw [I.tuple_inj hy hq];exact hx⟩,st',fun b hb=>(hf b hb).1⟩⟩
 done:=by
  intro X hP hw hK hc i pins s σ H E I hf st hg
  subst hP hw hK
  obtain ⟨xs,hq,hx⟩:=hg
  obtain ⟨its,rv,p,hz⟩:=I.tuple hq
  obtain ⟨f0,f1,f2,f3,f4,f5⟩:=hf it (by simp)
  have hl:=rv.length
  exact wpAny_pyNext_tuple_end (I.ok.hd hc) st (show s.heap.IsTuple a its.toArray from p) (by simp;omega) fun h' eb=>⟨rfl,I.turned (t':=s.toks) (fun b o hb e=>eb b o hb e) f0 f1 f3 f4 f5⟩
 self:=fun _ _ _ _ _ st h=>wpAny_pyIter_tupleiter st h
theorem vm {P:Program} {w:World} {K:PySem.W.Frag} {tg:Expr} (it:Addr) (lo:Int) (n:Nat):Turn P w K tg (Itr lo n) [it] it (fun i h=>IsRangeIter h it (lo+(i:Nat)*1) ((n:Int) - (i:Nat)) 1) where
 mem:=by simp
 obj:=fun i h st b hb=>by
  have e:b=it:=by simpa using hb
  subst e
  exact ⟨_,st,fun v z=>by
   have z':Data.fields _=Data.cell v:=z
   cases z'⟩
 keep:=fun i h h' st k=>k it (by simp) _ st
 item:=by
  intro X hP hw hK hc i pins s σ H E I hf st hg
  subst hP hw hK
  obtain ⟨f0,f1,f2,f3,f4,f5⟩:=hf it (by simp)
  have W:=Walks.range (prog:=X.prog) (w:=X.w) (I.ok.hd hc) it lo 1 n
  refine W.item i s _ _ hg st fun v h' tk hv st' kk=>?_
  obtain ⟨t,rfl⟩:=hv
  have I1:Inv X pins σ H { s with heap:=h',toks:=tk }:=I.turned (fun b o hb e=>kk b o (by simpa using hb) e) f0 f1 f3 f4 f5
  refine ⟨_,rfl,BO (s:={ s with heap:=h',toks:=tk }) (n:="range_iterator") st' rfl rfl (by decide) ⟨.int (lo+i),H,I1,⟨t,?_⟩,⟨rfl,rfl⟩,st',fun b hb=>(hf b hb).1⟩⟩
  rw [Int.mul_one]
 done:=by
  intro X hP hw hK hc i pins s σ H E I hf st hg
  subst hP hw hK
  obtain ⟨f0,f1,f2,f3,f4,f5⟩:=hf it (by simp)
  exact wpAny_pyNext_range_end (I.ok.hd hc) st (by have:n≤i:=hg;omega) fun h' eb=>⟨rfl,I.turned (t':=s.toks) (fun b o hb e=>eb b o hb e) f0 f1 f3 f4 f5⟩
 self:=fun _ _ _ _ _ st h=>wpAny_pyIter_rangeiter st h
end L2
namespace L2
open PySem PySem.Spec PyProof.Rows
section
variable {X:Cx} {tg:Expr}
theorem t8 {pins:List (Addr×Obj)} {σ:St} {H:Hp} {s:Shared} {R:It→Hp→Prop} {E:Value→Shared→Prop} {lo hi:Int} {t u v:Tok} {tk:Nat} (I:Inv X pins σ H s) (h1 : -(2 ^ 62)≤lo) (h2:lo <2 ^ 62) (h3 : -(2 ^ 62)≤hi) (h4:hi <2 ^ 62)
  (q:R (Itr lo (hi - lo).toNat) H):wpAny (model X.prog X.w) X.A (pyIter (.ref s.heap.objs.size)) (PIE X pins σ tg R) E { s with heap:=s.heap.push { cls:=.type "range",data:=.fields #[.int lo t,.int hi u,.int 1 v] },toks:=tk }:=by
 refine wpAny_pyIter_range (IsRange.new ..) (small_one h1 h2 h3 h4) ?_
 have I1:Inv X pins σ H { s with heap:=s.heap.push { cls:=.type "range",data:=.fields #[.int lo t,.int hi u,.int 1 v] },toks:=tk }:=I.kept fun b o e=>Heap.get?_push_of_some _ e
 refine ⟨(s.heap.push { cls:=.type "range",data:=.fields #[.int lo t,.int hi u,.int 1 v] }).objs.size,[(s.heap.push { cls:=.type "range",data:=.fields #[.int lo t,.int hi u,.int 1 v] }).objs.size],_,_,H,rfl,
  I1.kept (t':=tk) fun b o e=>Heap.get?_push_of_some _ e,vm _ lo (hi - lo).toNat,?_,fun b hb=>?_,q⟩
 ·
  have e1:lo+((0:Nat):Int)*1=lo:=by simp
  have e2:(((hi - lo).toNat:Nat):Int) - ((0:Nat):Int)=Builtin.Range.rangeSize lo hi 1:=by rw [rangeSize_one];split<;>omega
  show IsRangeIter _ _ (lo+((0:Nat):Int)*1) ((((hi - lo).toNat:Nat):Int) - ((0:Nat):Int)) 1
  rw [e1,e2]
  exact Heap.get?_push_size _ rfl
 ·
  have e:b=(s.heap.push { cls:=.type "range",data:=.fields #[.int lo t,.int hi u,.int 1 v] }).objs.size:=by simpa using hb
  subst e
  exact I1.fpOk (Nat.le_refl _) (I1.hok.fresh (Nat.le_refl _))
def FQ (ta:TA):TI:=fun σ H R=>ta σ H fun vs H1=>∃j:Int,vs=[.int j]∧-(2 ^ 62)≤j∧j <2 ^ 62∧R (Itr 0 j.toNat) H1
def FR (ta:TA):TI:=fun σ H R=>ta σ H fun vs H1=>∃i j:Int,vs=[.int i,.int j]∧(-(2 ^ 62)≤i∧i <2 ^ 62∧-(2 ^ 62)≤j∧j <2 ^ 62)∧R (Itr i (j - i).toNat) H1
theorem wB {a:Expr} {ta:TA} {p pos:Pos} (hg:Gl X "range") (hm:X.mg "range"=none) (ha:PA X [a] ta) (hs:starEach [a] X.env=[(false,eval a X.env)]:=by rfl):PI X tg (.Call (.Name "range" p) [a] [] pos) (FQ ta):=by
 intro pins s σ H R I h
 refine Call_ (kQ I hg hm boot_range (PyProof.Rows.callWith_type1 (thn (ha pos pins s σ H _ I h) fun us s1 ⟨vs,H1,I1,r1,q1⟩=>?_) hs rfl))
 obtain ⟨j,e,q1,q2,q⟩:=q1
 subst e
 cases r1 with
 | cons r rr =>
  cases rr
  obtain ⟨t,rfl⟩:=r
  exact call_range_1 (t8 I1 (by omega) (by omega) q1 q2 (by simpa using q))
theorem wD {a b:Expr} {ta:TA} {p pos:Pos} (hg:Gl X "range") (hm:X.mg "range"=none) (ha:PA X [a,b] ta) (hs:starEach [a,b] X.env=[(false,eval a X.env),(false,eval b X.env)]:=by rfl) (hs2:starEach [b] X.env=[(false,eval b X.env)]:=by rfl) :
  PI X tg (.Call (.Name "range" p) [a,b] [] pos) (FR ta):=by
 intro pins s σ H R I h
 refine Call_ (kQ I hg hm boot_range (PyProof.Rows.callWith_type1 (thn (ha pos pins s σ H _ I h) fun us s1 ⟨vs,H1,I1,r1,q1⟩=>?_) (by rw [hs,hs2]) (by rw [hs2];rfl)))
 obtain ⟨i,j,e,⟨q1,q2,q3,q4⟩,q⟩:=q1
 subst e
 cases r1 with
 | cons r rr =>
  cases rr with
  | cons r' rr =>
   cases rr
   obtain ⟨t,rfl⟩:=r
   obtain ⟨t',rfl⟩:=r'
   exact call_range_2 (t8 I1 q1 q2 q3 q4 q)
def pL (fp:List Addr) (h:Heap):List (Addr×Obj):=fp.filterMap fun b=>(h.get? b).map fun o=>(b,o)
theorem gS {fp:List Addr} {h:Heap} {b:Addr} {o:Obj} (hb:b∈fp) (e:h.get? b=some o):(b,o)∈pL fp h:=List.mem_filterMap.mpr ⟨b,hb,by rw [e];rfl⟩
theorem wF {fp:List Addr} {h:Heap} {p:Addr×Obj} (hp:p∈pL fp h):p.1∈fp∧h.get? p.1=some p.2:=by
 obtain ⟨b,hb,e⟩:=List.mem_filterMap.mp hp
 cases q:h.get? b with
 | none=>rw [q] at e;cases e
 | some o =>
  rw [q] at e
  have e':(b,o)=p:=Option.some.inj e
  subst e'
  exact ⟨hb,q⟩
theorem Inv.pinned {pins:List (Addr×Obj)} {σ:St} {H:Hp} {s:Shared} {fp:List Addr} (I:Inv X pins σ H s) (hf:∀b∈fp,FpOk X pins H b) (ho:∀b∈fp,∃o,s.heap.get? b=some o∧∀v,o.data≠.cell v):Inv X (pins++pL fp s.heap) σ H s :=
 I.pins_of fun p hp=>(List.mem_append.mp hp).elim (fun z=>I.pin p (List.mem_append_right _ z)) fun z=>by
  obtain ⟨hb,e⟩:=wF z
  obtain ⟨f0,f1,f2,_⟩:=hf p.1 hb
  obtain ⟨o,e',d⟩:=ho p.1 hb
  rw [e] at e';cases e'
  exact ⟨e,f0,f1,f2,d⟩
theorem Inv.unpinned {pins pl:List (Addr×Obj)} {σ:St} {H:Hp} {s:Shared} (I:Inv X (pins++pl) σ H s):Inv X pins σ H s:=I.pins_of fun p hp=>I.pin p (List.mem_append_right _ (List.mem_append_left _ hp))
end
end L2
namespace L2
open PySem PySem.Spec PyProof.Rows
abbrev R2:=V→V→Hp→VK→Prop
def OpR (X:Cx) (f:Value→Value→Sem Value) (r:R2):Prop :=
 ∀(pins:List (Addr×Obj)) (s:Shared) (σ:St) (H:Hp) (x y:V) (v u:Value) (Q:VK),Inv X pins σ H s→RelV x v→RelV y u→r x y H Q →
  wpAny (model X.prog X.w) X.A (f v u) (EP X pins σ Q) X.xe s
def UnR (X:Cx) (f:Value→Sem Value) (r:V→Hp→VK→Prop):Prop :=
 ∀(pins:List (Addr×Obj)) (s:Shared) (σ:St) (H:Hp) (x:V) (v:Value) (Q:VK),Inv X pins σ H s→RelV x v→r x H Q →
  wpAny (model X.prog X.w) X.A (f v) (EP X pins σ Q) X.xe s
def fS (X:Cx) (f:Value) (r:List V→Hp→VK→Prop):Prop :=
 ∀(pins:List (Addr×Obj)) (s:Shared) (σ:St) (H:Hp) (xs:List V) (us:List Value) (Q:VK),Inv X pins σ H s→Vals xs us→r xs H Q →
  wpAny (model X.prog X.w) X.A (call f us) (EP X pins σ Q) X.xe s
def tOp (r:R2) (ta tb:TE):TE:=fun σ H Q=>ta σ H fun x H1=>tb σ H1 fun y H2=>r x y H2 Q
def rI (C:Int→Int→Prop) (g:Int→Int→V):R2:=fun x y H Q=>∃i j,x=.int i∧y=.int j∧C i j∧Q (g i j) H
def rI0 (g:Int→Int→V):R2:=fun x y H Q=>∃i j,x=.int i∧y=.int j∧Q (g i j) H
def rU (g:Int→V):V→Hp→VK→Prop:=fun x H Q=>∃i,x=.int i∧Q (g i) H
section
variable {X:Cx} {a b c:Expr} {ta tb tc:TE} {pos:Pos}
theorem binT (ha:PE X a ta) (hb:PE X b tb) {pins:List (Addr×Obj)} {s:Shared} {σ:St} {H:Hp} {R:V→V→Hp→Prop} (I:Inv X pins σ H s)
  (h:ta σ H fun x H1=>tb σ H1 fun y H2=>R x y H2) {Q:Value→Shared→Prop} {f:Value→Value→Sem Value}
  (hf:∀v u s2 x y H2,Inv X pins σ H2 s2→RelV x v→RelV y u→R x y H2→wpAny (model X.prog X.w) X.A (f v u) Q X.xe s2) :
  wpAny (model X.prog X.w) X.A (eval a X.env) (fun v s₁=>wpAny (model X.prog X.w) X.A (eval b X.env) (fun u s₂=>wpAny (model X.prog X.w) X.A (f v u) Q X.xe s₂) X.xe s₁) X.xe s:=by
 refine thn (ha pins s σ H _ I h) fun v s1 ⟨x,H1,I1,r1,q1⟩=>?_
 refine thn (hb pins s1 σ H1 _ I1 q1) fun u s2 ⟨y,H2,I2,r2,q2⟩=>?_
 exact hf v u s2 x y H2 I2 r1 r2 q2
theorem FT {op:Operator} {r:R2} (ho:OpR X (binaryOp op) r) (ha:PE X a ta) (hb:PE X b tb):PE X (.BinOp a op b pos) (tOp r ta tb):=by
 intro pins s σ H Q I h
 exact wpAny_BinOp (binT ha hb I h fun v u s2 x y H2 I2 rx ry q=>ho pins s2 σ H2 x y v u Q I2 rx ry q)
theorem opI {f:Value→Value→Sem Value} {C:Int→Int→Prop} {g:Int→Int→Int}
  (rule:∀(i j:Int) (t u:Tok) (s:Shared) (Q:Value→Shared→Prop) (E:Value→Shared→Prop),C i j→Q (.int (g i j) s.toks) { s with toks:=s.toks+1 }→wpAny (model X.prog X.w) X.A (f (.int i t) (.int j u)) Q E s) :
  OpR X f (rI C fun i j=>.int (g i j)):=by
 intro pins s σ H x y v u Q I rx ry h
 obtain ⟨i,j,rfl,rfl,hc,q⟩:=h
 obtain ⟨t,rfl⟩:=rx
 obtain ⟨t',rfl⟩:=ry
 exact rule i j t t' s _ _ hc ⟨.int (g i j),H,I.tok _,⟨_,rfl⟩,q⟩
theorem opI0 {f:Value→Value→Sem Value} {g:Int→Int→Int}
  (rule:∀(i j:Int) (t u:Tok) (s:Shared) (Q:Value→Shared→Prop) (E:Value→Shared→Prop),Q (.int (g i j) s.toks) { s with toks:=s.toks+1 }→wpAny (model X.prog X.w) X.A (f (.int i t) (.int j u)) Q E s) :
  OpR X f (rI0 fun i j=>.int (g i j)):=by
 intro pins s σ H x y v u Q I rx ry h
 obtain ⟨i,j,rfl,rfl,q⟩:=h
 obtain ⟨t,rfl⟩:=rx
 obtain ⟨t',rfl⟩:=ry
 exact rule i j t t' s _ _ ⟨.int (g i j),H,I.tok _,⟨_,rfl⟩,q⟩
theorem opB0 {f:Value→Value→Sem Value} {g:Int→Int→Bool}
  (rule:∀(i j:Int) (t u:Tok) (s:Shared) (Q:Value→Shared→Prop) (E:Value→Shared→Prop),Q (.bool (g i j)) s→wpAny (model X.prog X.w) X.A (f (.int i t) (.int j u)) Q E s) :
  OpR X f (rI0 fun i j=>.bl (g i j)):=by
 intro pins s σ H x y v u Q I rx ry h
 obtain ⟨i,j,rfl,rfl,q⟩:=h
 obtain ⟨t,rfl⟩:=rx
 obtain ⟨t',rfl⟩:=ry
 exact rule i j t t' s _ _ ⟨.bl (g i j),H,I,rfl,q⟩
def CPow (i j:Int):Prop:=0≤j∧j≤1000000∧i.natAbs <2 ^ 64
theorem DT:OpR X (binaryOp .Add) (rI0 fun i j=>.int (i+j)):=opI0 fun _ _ _ _ _ _ _ q=>add_int q
theorem DU:OpR X (binaryOp .Sub) (rI0 fun i j=>.int (i - j)):=opI0 fun _ _ _ _ _ _ _ q=>sub_int q
theorem BP:OpR X (binaryOp .Mod) (rI (fun _ j=>j≠0) fun i j=>.int (i.fmod j)):=opI fun _ _ _ _ _ _ _ hc q=>mod_int' hc q
theorem DV:OpR X (binaryOp .Pow) (rI CPow fun i j=>.int (i ^ j.toNat)):=opI fun _ _ _ _ _ _ _ hc q=>pow_int_small hc.1 hc.2.1 hc.2.2 q
theorem unI {f:Value→Sem Value} {g:Int→Int}
  (rule:∀(i:Int) (t:Tok) (s:Shared) (Q:Value→Shared→Prop) (E:Value→Shared→Prop),Q (.int (g i) s.toks) { s with toks:=s.toks+1 }→wpAny (model X.prog X.w) X.A (f (.int i t)) Q E s) :
  UnR X f (rU fun i=>.int (g i)):=by
 intro pins s σ H x v Q I rx h
 obtain ⟨i,rfl,q⟩:=h
 obtain ⟨t,rfl⟩:=rx
 exact rule i t s _ _ ⟨.int (g i),H,I.tok _,⟨_,rfl⟩,q⟩
theorem DW:UnR X (unaryOp .USub) (rU fun i=>.int (-i)):=unI fun _ _ _ _ _ q=>neg_int q
end
def scal:V→V→Bool
 | .non,.non=>true | .non,.int _=>true | .int _,.non=>true | .non,.bl _=>true | .bl _,.non=>true | .non,.str _=>true | .str _,.non=>true
 | .int _,.int _=>true | .bl _,.bl _=>true | .str _,.str _=>true | .byt _,.byt _=>true
 | .int _,.str _=>true | .str _,.int _=>true | .bl _,.str _=>true | .str _,.bl _=>true
 | _,_=>false
def rNe:R2:=fun x y H Q=>scal x y=true∧Q (.bl (!decide (x=y))) H
theorem BQ {i j:Int}:decide (V.int i=V.int j)=(i == j):=by
 rw [Bool.eq_iff_iff]
 simp
theorem DX {i j:Bool}:decide (V.bl i=V.bl j)=(i == j):=by
 rw [Bool.eq_iff_iff]
 simp
theorem BR {i j:Str}:decide (V.str i=V.str j)=(i == j):=by
 rw [Bool.eq_iff_iff]
 simp
theorem BS {i j:Array UInt8}:decide (V.byt i=V.byt j)=(i.toList == j.toList):=by
 rw [Bool.eq_iff_iff]
 cases i
 cases j
 simp
section
variable {X:Cx} {a b c:Expr} {ta tb tc:TE} {pos:Pos}
theorem dg {pins:List (Addr×Obj)} {σ:St} {H:Hp} {s:Shared} {Q:VK} {k k':Bool} (I:Inv X pins σ H s) (q:Q (.bl k) H) (e:k=k'):EP X pins σ Q (.bool k') s:=by
 subst e
 exact ⟨.bl k,H,I,rfl,q⟩
theorem FU:OpR X (compareOp .NotEq) rNe:=by
 intro pins s σ H x y v u Q I rx ry h
 obtain ⟨hs,q⟩:=h
 cases x with
 | non =>
  cases rx
  cases y with
  | non=>cases ry;exact PySem.EqNone.ne_none_none (dg I q (by simp))
  | bl j=>cases ry;exact PySem.EqNone.ne_none_bool (dg I q (by simp))
  | int j=>obtain ⟨t',rfl⟩:=ry;exact PySem.EqNone.ne_none_int (dg I q (by simp))
  | str j=>obtain ⟨t',rfl⟩:=ry;exact PySem.EqNone.ne_none_str (dg I q (by simp))
  | _=>exact absurd (show false=true from hs) Bool.false_ne_true
 | bl i =>
  cases rx
  cases y with
  | non=>cases ry;exact PySem.EqNone.ne_bool_none (dg I q (by simp))
  | bl j=>cases ry;exact ne_bool (dg I q (congrArg not DX))
  | str j=>obtain ⟨t',rfl⟩:=ry;exact PySem.EqMixed.ne_bool_str (dg I q (by simp))
  | _=>exact absurd (show false=true from hs) Bool.false_ne_true
 | int i =>
  obtain ⟨t,rfl⟩:=rx
  cases y with
  | non=>cases ry;exact PySem.EqNone.ne_int_none (dg I q (by simp))
  | int j=>obtain ⟨t',rfl⟩:=ry;exact ne_int (dg I q (congrArg not BQ))
  | str j=>obtain ⟨t',rfl⟩:=ry;exact PySem.EqMixed.ne_int_str (dg I q (by simp))
  | _=>exact absurd (show false=true from hs) Bool.false_ne_true
 | str i =>
  obtain ⟨t,rfl⟩:=rx
  cases y with
  | non=>cases ry;exact PySem.EqNone.ne_str_none (dg I q (by simp))
  | bl j=>cases ry;exact PySem.EqMixed.ne_str_bool (dg I q (by simp))
  | int j=>obtain ⟨t',rfl⟩:=ry;exact PySem.EqMixed.ne_str_int (dg I q (by simp))
  | str j=>obtain ⟨t',rfl⟩:=ry;exact ne_str (dg I q (congrArg not BR))
  | _=>exact absurd (show false=true from hs) Bool.false_ne_true
 | byt i =>
  obtain ⟨t,rfl⟩:=rx
  cases y with
  | byt j=>obtain ⟨t',rfl⟩:=ry;exact PySem.W.ne_bytes (dg I q (congrArg not BS))
  | _=>exact absurd (show false=true from hs) Bool.false_ne_true
 | _=>cases y<;>exact absurd (show false=true from hs) Bool.false_ne_true
theorem DY:OpR X (compareOp .Lt) (rI0 fun i j=>.bl (decide (i <j))):=opB0 fun _ _ _ _ _ _ _ q=>lt_int q
theorem DZ:OpR X (compareOp .LtE) (rI0 fun i j=>.bl (decide (i≤j))):=opB0 fun _ _ _ _ _ _ _ q=>le_int q
theorem FV:OpR X (compareOp .Gt) (rI0 fun i j=>.bl (decide (j <i))):=opB0 fun _ _ _ _ _ _ _ q=>gt_int q
theorem FW:OpR X (compareOp .GtE) (rI0 fun i j=>.bl (decide (j≤i))):=opB0 fun _ _ _ _ _ _ _ q=>ge_int q
theorem D1:OpR X (compareOp .Is) (fun x y H Q=>y=.non∧Q (.bl (decide (x=.non))) H):=by
 intro pins s σ H x y v u Q I rx ry h
 obtain ⟨rfl,q⟩:=h
 cases ry
 refine is_none_gen (dg I q ?_)
 cases x<;>first
  | (cases rx;rfl)
  | (obtain ⟨t,rfl⟩:=rx;rfl)
theorem aO (b:Expr) {op:CmpOp} (h:op≠.In:=by decide) (h2:op≠.NotIn:=by decide):behindInMarks op b=false:=by
 have e1:(op == CmpOp.In)=false:=by cases op<;>first|rfl|exact absurd rfl h
 have e2:(op == CmpOp.NotIn)=false:=by cases op<;>first|rfl|exact absurd rfl h2
 cases b<;>simp [behindInMarks,e1,e2]
def D2 (t:TE):TT:=fun σ H Q=>t σ H fun x H'=>∃k,x=.bl k∧Q k H'
theorem FY {op:CmpOp} {r:R2} (ho:OpR X (compareOp op) r) (ha:PE X a ta) (hb:PE X b tb) (hm:behindInMarks op b=false):PT X (.Compare a [op] [b] pos) (D2 (tOp r ta tb)):=by
 intro pins s σ H Q I h
 refine wpAny_isTrue_Compare1 (thn (ha pins s σ H _ I h) fun v s1 ⟨x,H1,I1,r1,q1⟩=>thn (hb pins s1 σ H1 _ I1 q1) fun u s2 ⟨y,H2,I2,r2,q2⟩ =>
  thn (ho pins s2 σ H2 x y v u _ I2 r1 r2 q2) fun c s3 ⟨z,H3,I3,r3,k,e,q3⟩=>?_) hm
 subst e
 cases r3
 exact wpAny_truthy_bool ⟨H3,I3,q3⟩
def wG (r r':R2) (ta tb tc:TE):TE:=fun σ H Q=>ta σ H fun x H1=>tb σ H1 fun y H2=>r x y H2 fun z H3=>∃k,z=.bl k ∧
 (if k=true then tc σ H3 fun w' H4=>r' y w' H4 Q else Q (.bl false) H3)
theorem zz {op op':CmpOp} {r r':R2} (ho:OpR X (compareOp op) r) (ho':OpR X (compareOp op') r') (ha:PE X a ta) (hb:PE X b tb) (hc:PE X c tc)
  (hm:lastMarks [op,op'] [b,c]=false:=by with_unfolding_all rfl):PE X (.Compare a [op,op'] [b,c] pos) (wG r r' ta tb tc):=by
 intro pins s σ H Q I h
 refine Compare_chain (thn (ha pins s σ H _ I h) fun v s1 ⟨x,H1,I1,r1,q1⟩=>chain_link (thn (hb pins s1 σ H1 _ I1 q1) fun u s2 ⟨y,H2,I2,r2,q2⟩ =>
  thn (ho pins s2 σ H2 x y v u _ I2 r1 r2 q2) fun d s3 ⟨z,H3,I3,r3,k,e,q3⟩=>?_)) hm
 subst e
 cases r3
 refine wpAny_truthy_bool ?_
 cases k with
 | false=>exact ite_ff ⟨.bl false,H3,I3,rfl,q3⟩
 | true=>exact ite_tt (chain_last (thn (hc pins s3 σ H3 _ I3 q3) fun w' s4 ⟨z',H4,I4,r4,q4⟩=>ho' pins s4 σ H4 y z' u w' Q I4 r2 r4 q4))
theorem zA {op op':CmpOp} {r r':R2} (ho:OpR X (compareOp op) r) (ho':OpR X (compareOp op') r') (ha:PE X a ta) (hb:PE X b tb) (hc:PE X c tc)
  (hm:lastMarks [op,op'] [b,c]=false:=by with_unfolding_all rfl):PT X (.Compare a [op,op'] [b,c] pos) (D2 (wG r r' ta tb tc)):=by
 intro pins s σ H Q I h
 refine isTrue_chain (thn (ha pins s σ H _ I h) fun v s1 ⟨x,H1,I1,r1,q1⟩=>test_link (thn (hb pins s1 σ H1 _ I1 q1) fun u s2 ⟨y,H2,I2,r2,q2⟩ =>
  thn (ho pins s2 σ H2 x y v u _ I2 r1 r2 q2) fun d s3 ⟨z,H3,I3,r3,k,e,q3⟩=>?_)) hm
 subst e
 cases r3
 refine wpAny_truthy_bool ?_
 cases k with
 | false =>
  obtain ⟨k',e',q'⟩:=q3
  cases e'
  exact ite_ff ⟨H3,I3,q'⟩
 | true =>
  refine ite_tt (test_last (thn (hc pins s3 σ H3 _ I3 q3) fun w' s4 ⟨z',H4,I4,r4,q4⟩=>thn (ho' pins s4 σ H4 y z' u w' _ I4 r2 r4 q4) fun d' s5 ⟨z2,H5,I5,r5,k2,e2,q5⟩=>?_))
  subst e2
  cases r5
  exact wpAny_truthy_bool ⟨H5,I5,q5⟩
theorem nz:(sizeLine:Nat) <2 ^ 63:=by rw [sizeLine_eq];decide
theorem vn:OpR X (binaryOp .Add) (fun x y H Q=>∃i j,x=.str i∧y=.str j∧i.length+j.length≤sizeLine∧Q (.str (i++j)) H):=by
 intro pins s σ H x y v u Q I rx ry h
 obtain ⟨i,j,rfl,rfl,hz,q⟩:=h
 obtain ⟨t,rfl⟩:=rx
 obtain ⟨t',rfl⟩:=ry
 exact add_str (fun t' tk=>⟨.str (i++j),H,I.tok _,⟨_,rfl⟩,q⟩) hz
theorem pM {x:V} {us:List Value} (r:Vals [x] us):∃u,us=[u]∧RelV x u:=by
 cases r with
 | cons r1 r2=>cases r2;exact ⟨_,rfl,r1⟩
theorem vo {x y:V} {us:List Value} (r:Vals [x,y] us):∃u w',us=[u,w']∧RelV x u∧RelV y w':=by
 cases r with
 | cons r1 r2 =>
  cases r2 with
  | cons r3 r4=>cases r4;exact ⟨_,_,rfl,r1,r3⟩
theorem zB:fS X (.builtin "abs") (fun xs H Q=>∃ i,xs=[.int i]∧Q (.int (if i < 0 then -i else i)) H):=by
 intro pins s σ H xs us Q I r h
 obtain ⟨i,rfl,q⟩:=h
 obtain ⟨u,rfl,t,rfl⟩:=pM r
 exact call_abs_int fun u tk=>⟨.int (if i <0 then -i else i),H,I.tok _,⟨_,rfl⟩,q⟩
theorem wH (hc:X.calm=true):fS X (.builtin "max") (fun xs H Q=>∃ i j,xs=[.int i,.int j]∧Q (.int (if j > i then j else i)) H):=by
 intro pins s σ H xs us Q I r h
 obtain ⟨i,j,rfl,q⟩:=h
 obtain ⟨u,w',rfl,⟨t,rfl⟩,⟨t',rfl⟩⟩:=vo r
 refine max_two_ints (I.ok.hd hc) fun h' tk k=>⟨_,H,I.kept k,?_,q⟩
 by_cases hj:j > i
 ·
  rw [if_pos hj,if_pos hj];exact ⟨_,rfl⟩
 ·
  rw [if_neg hj,if_neg hj];exact ⟨_,rfl⟩
theorem wJ (hc:X.calm=true):fS X (.builtin "min") (fun xs H Q=>∃ i j,xs=[.int i,.int j]∧Q (.int (if j < i then j else i)) H):=by
 intro pins s σ H xs us Q I r h
 obtain ⟨i,j,rfl,q⟩:=h
 obtain ⟨u,w',rfl,⟨t,rfl⟩,⟨t',rfl⟩⟩:=vo r
 refine min_two_ints (I.ok.hd hc) fun h' tk k=>⟨_,H,I.kept k,?_,q⟩
 by_cases hj:j <i
 ·
  rw [if_pos hj,if_pos hj];exact ⟨_,rfl⟩
 ·
  rw [if_neg hj,if_neg hj];exact ⟨_,rfl⟩
theorem wK:fS X (.type "int") (fun xs H Q=>(∃ i,xs=[.int i]∧Q (.int i) H)∨∃ k,xs=[.bl k]∧Q (.int (if k then 1 else 0)) H):=by
 intro pins s σ H xs us Q I r h
 rcases h with ⟨i,rfl,q⟩|⟨k,rfl,q⟩
 ·
  obtain ⟨u,rfl,t,rfl⟩:=pM r
  exact call_int_int ⟨.int i,H,I,⟨_,rfl⟩,q⟩
 ·
  obtain ⟨u,rfl,r1⟩:=pM r
  cases r1
  exact call_int_bool ⟨.int (if k then 1 else 0),H,I.tok _,⟨_,rfl⟩,q⟩
end
end L2
namespace L2
open PySem PySem.Spec PyProof.Rows
theorem wL {h:Heap} {dx:Addr} {mA:Str→Option Value} (n:h.Ns1 dx mA):∃od,h.get? dx=some od∧∀name,PySem.W.lookIn name od=some (mA name):=by
 obtain ⟨o,es,ep,ho,hd,hk,_,hm⟩:=n
 refine ⟨o,ho,fun name=>?_⟩
 have e:=hm name
 unfold nsFind findBy at e
 rw [← Array.find?_toList] at e
 unfold PySem.W.lookIn
 rw [hd]
 dsimp only
 split
 ·
  rename_i y q
  rw [q] at e
  exact congrArg some e
 ·
  rename_i q
  rw [q] at e
  have a:es.toList.any (·.refKey)=false:=by
   rw [List.any_eq_false]
   intro y hy
   obtain ⟨z,t,hkey⟩:=hk y (Array.mem_toList_iff.mp hy)
   simp [DictEntry.refKey,hkey]
  have a':¬es.toList.any (·.refKey)=true:=by rw [a];exact Bool.false_ne_true
  rw [if_neg a']
  exact congrArg some e
section
variable {prog:Program} {w:World} {A:Around} {E:Value→Shared→Prop} {s:Shared} {K:PySem.W.Frag} {x dx C f:Addr} {mA:Str→Option Value} {name:Str} {v:Value}
end
theorem RelO.some_of {v:V} {o:Option Value} (r:RelO (some v) o):∃u,o=some u∧RelV v u:=by
 cases o with
 | none=>exact (show False from r).elim
 | some u=>exact ⟨u,rfl,r⟩
section
variable {P:Program} {w:World} {H H':Hp} {h h':Heap} {a C dx:Addr} {fs fs':List (Str×V)}
end
section
variable {X:Cx} {pins:List (Addr×Obj)} {σ:St} {H:Hp} {s:Shared} {a C dx:Addr} {fs:List (Str×V)} {f:Str} {v:V} {A:Around} {E:Value→Shared→Prop}
theorem BU {prog:Program} {w:World} {env:Env} {e:Expr} {f:Str} {pos:Pos} {s:Shared} {Q:Value→Shared→Prop} (hb:attributeBase e f env (eval e env)=eval e env)
  (h:wpAny (model prog w) A (eval e env) (fun o s₁=>wpAny (model prog w) A (getAttr o f true) Q E s₁) E s):wpAny (model prog w) A (eval (.Attribute e f pos) env) Q E s :=
 Attribute_any_ h (by rw [arm_eval_Attribute,hb])
end
section
variable {X:Cx} {o e value:Expr} {f:Str} {pos pos' tpos:Pos} {ta tv:TE}
end
section
variable {X:Cx} {pins:List (Addr×Obj)} {σ:St} {H:Hp} {s:Shared} {A:Around} {E:Value→Shared→Prop} {Q:Value→Shared→Prop} {c:Value} {b:Bool}
end
end L2
namespace L2
open PySem PySem.Spec PyProof.Rows
structure Room (k:Nat) (A:Around):Prop where
 hd:A.handled=none
 dp:A.depth+3*k+5 <recursionLimit
 un:A.units+16*k+200 <cLine
 gd:A.guards=some []
theorem Room.mono {j k:Nat} {A:Around} (r:Room k A) (h:j≤k):Room j A:=⟨r.hd,by have:=r.dp;omega,by have:=r.un;omega,r.gd⟩
theorem Room.deeper {k:Nat} {A:Around} (r:Room (k+1) A) (env:Env):Room k (A.deeper env) :=
 ⟨r.hd,by have:=r.dp;show A.depth+1+3*k+5 <_;omega,by have:=r.un;show A.units+3+16*k+200 <_;omega,r.gd⟩
theorem vp {A:Around} {C:Addr} {us:List Value} {kw:List (Str×Value)}:(A.under (.builtin "type.__call__" ⟨.ref C::us,kw⟩)).depth=A.depth+1:=by
 first|rfl|simp [Around.under,Code.weight,Code.isCreation,Code.isGuard,Code.isCaller,Code.frames,Code.isFrame,guardIds]
theorem vq {A:Around} {C:Addr} {us:List Value} {kw:List (Str×Value)}:(A.under (.builtin "type.__call__" ⟨.ref C::us,kw⟩)).units=A.units+1:=by
 first|rfl|simp [Around.under,Code.cUnits,Code.frames,Code.isFrame]
theorem Room.make {k:Nat} {A:Around} (r:Room (k+1) A) (C:Addr) (us:List Value) (kw:List (Str×Value)):Room k (A.under (.builtin "type.__call__" ⟨.ref C::us,kw⟩)) :=
 ⟨r.hd,by have:=r.dp;rw [vp];omega,by have:=r.un;rw [vq];omega,by rw [← r.gd];first|rfl|simp [Around.under,Code.guards,Code.isGuard,pushGuards,guardIds]⟩
theorem Room.depth {k:Nat} {A:Around} (r:Room k A):A.depth <recursionLimit:=by have:=r.dp;omega
theorem Room.units {k:Nat} {A:Around} (r:Room k A):A.units+64 <cLine:=by have:=r.un;omega
def tNil:TA:=fun _ H Q=>Q [] H
def wM (ta:TE) (tr:TA):TA:=fun σ H Q=>ta σ H fun x H1=>tr σ H1 fun xs H2=>Q (x::xs) H2
section
variable {X:Cx} {e:Expr} {es:List Expr} {te:TE} {t:TA} {pos:Pos}
theorem fG:PA X [] tNil:=fun _ _ _ _ H Q I h=>Calls.spliced_nil ⟨[],H,I,.nil,h⟩
theorem bC (ha:PE X e te) (hr:PA X es t) (hs:starEach (e::es) X.env=(false,eval e X.env)::starEach es X.env:=by rfl):PA X (e::es) (wM te t):=by
 intro pos pins s σ H Q I h
 rw [hs]
 show wpAny _ _ (spliced ((false,eval e X.env)::backTo pos (starEach es X.env))) _ _ s
 refine Calls.spliced_cons (thn (ha pins s σ H _ I h) fun u s1 ⟨x,H1,I1,r1,q1⟩=>?_)
 exact thn (hr pos pins s1 σ H1 _ I1 q1) fun us s2 ⟨xs,H2,I2,r2,q2⟩=>⟨x::xs,H2,I2,.cons r1 r2,q2⟩
def tTup (t:TA):TE:=fun σ H Q=>t σ H fun xs H1=>xs.length≤sizeLine∧∀p,H1 p=none→Q (.ref p) (upd H1 p (.tup xs))
theorem D3 {x1} (h:PA X es t):PE X (.Tuple es x1 pos) (tTup t):=by
 intro pins s σ H Q I hq
 refine wpAny_Tuple_spliced (thn (h pos pins s σ H _ I hq) fun us s1 ⟨xs,H1,I1,r,z,q⟩=>⟨by rw [← r.length];exact z,?_⟩)
 have hf:H1 s1.heap.objs.size=none:=I1.hok.fresh (Nat.le_refl _)
 refine ⟨.ref s1.heap.objs.size,upd H1 s1.heap.objs.size (.tup xs),I1.laid (t':=s1.toks) (fun b u e=>Heap.get?_push_of_some _ e) (Nat.le_refl _) ?_,rfl,q _ hf⟩
 exact ⟨z,us,r,⟨_,Heap.get?_push_size _ rfl,rfl,_,rfl⟩⟩
end
abbrev Sp:=List V→Hp→VK→XK→Prop
abbrev CXT:=List Env→Hp→Shared→XK→Value→Shared→Prop
structure Env0 (P:Program) (w:World) (K:PySem.W.Frag) (mg:Str→Option Value) (base:Heap) (A:Around) (outer:List Env) (s:Shared) (H:Hp):Prop where
 frames:A.frames=some outer
 mod:Mod K mg base
 bs:∀b o,base.get? b=some o→s.heap.get? b=some o∧H b=none
 bsz:base.objs.size≤s.heap.objs.size
 funs:s.heap.FunFrames base outer
 frf:∀b∈frs outer,H b=none
 hok:HOk P w H s.heap
 bare:AllBare s.gens
def CE (outer:List Env) (P:Program) (w:World) (H:Hp) (s:Shared) (Q:VK) (u:Value) (s':Shared):Prop :=
 ∃v H',s'.os=s.os∧AllBare s'.gens∧Un (frs outer) [] H H' s.heap s'.heap∧HOk P w H' s'.heap∧RelV v u∧Q v H'
def CR (CX:CXT) (outer:List Env) (P:Program) (w:World) (H:Hp) (s:Shared) (Q:VK) (E:XK) (r:Result) (s':Shared):Prop :=
 match r with
 | .ok (.ret u)=>CE outer P w H s Q u s'
 | .ok _=>False
 | .error e=>CX outer H s E e s'
structure FnOk (P:Program) (w:World) (K:PySem.W.Frag) (mg:Str→Option Value) (base:Heap) (CX:CXT) (k:Nat) (f:Addr) (fd:FuncData) (ps:List Str) (sp:Sp):Prop where
 len:∀vs H Q E,sp vs H Q E→vs.length=ps.length
 run:∀(A:Around) (outer:List Env) (s:Shared) (H:Hp) (args:Args) (us:List Value) (vs:List V) (Q:VK) (E:XK),Room k A→Env0 P w K mg base A outer s H→BindsTo s fd args (ps.zip us)→Vals vs us→sp vs H Q E →
  codeAny (model P w) A (.call (.ref f) args) (CR CX outer P w H s Q E) s
theorem Env0.make {P:Program} {w:World} {K:PySem.W.Frag} {mg:Str→Option Value} {base:Heap} {A:Around} {outer:List Env} {s:Shared} {H:Hp} (e:Env0 P w K mg base A outer s H) (C:Addr) (us:List Value) (kw:List (Str×Value)) :
  Env0 P w K mg base (A.under (.builtin "type.__call__" ⟨.ref C::us,kw⟩)) outer s H:=⟨by first | exact e.frames | (simpa [Around.under,Code.envs,Code.isFrame,pushEnvs] using e.frames),e.mod,e.bs,e.bsz,e.funs,e.frf,e.hok,e.bare⟩
section
variable {X:Cx} {pins:List (Addr×Obj)} {σ:St} {H:Hp} {s s':Shared}
theorem Inv.env0 (I:Inv X pins σ H s):Env0 X.prog X.w X.K X.mg X.base X.A X.stack s H :=
 ⟨I.ok.frames,I.ok.mod,I.bs,Nat.le_trans I.ok.bsz I.sz,I.stack,I.stkFree,I.hok,I.bare⟩
theorem Inv.after {Q:VK} {u:Value} (I:Inv X pins σ H s) (h:CE X.stack X.prog X.w H s Q u s'):EP X pins σ Q u s':=by
 obtain ⟨v,H',os,bare,un,hok,r,q⟩:=h
 obtain ⟨hh,g,d,t,os'⟩:=s'
 obtain rfl:os'=s.os:=os
 exact ⟨v,H',I.call (h':=hh) (g':=g) (d':=d) (t':=t) (ch:=[]) un hok bare (fun b z=>absurd z (by simp)),r,q⟩
end
def ka (K:PySem.W.Frag) (fd:FuncData) (ps:List Str) (ds:List Value):Prop :=
 ∀(s:Shared) (us:List Value),K.In s.heap→(us++ds).length=ps.length→BindsTo s fd ⟨us,[]⟩ (ps.zip (us++ds))
theorem ka.all {K:PySem.W.Frag} {fd:FuncData} {ps:List Str} (h:∀us:List Value,us.length=ps.length→bindArgs fd ⟨us,[]⟩=pure (ps.zip us)):ka K fd ps []:=fun s us _ hl=>by
 rw [List.append_nil] at hl ⊢
 exact .of_eq (h us hl)
def t9 (CX:CXT) (X:Cx) (E:XK):Prop:=∀(pins:List (Addr×Obj)) (σ:St) (H:Hp) (s:Shared) (e:Value) (s':Shared),Inv X pins σ H s→CX X.stack H s E e s'→X.xe e s'
section
variable {X:Cx} {CX:CXT} {k:Nat} {f C:Addr} {fd:FuncData} {ps:List Str} {sp:Sp} {dvs:List V} {ds:List Value} {E:XK} {x m:Str} {p pos apos:Pos} {e o:Expr} {es:List Expr} {ta:TE} {t:TA}
theorem wN {pins:List (Addr×Obj)} {σ:St} {H:Hp} {s:Shared} {Q:VK} {us:List Value} {vs:List V} (F:FnOk X.prog X.w X.K X.mg X.base CX k f fd ps sp) (hr:Room k X.A) (hb:ka X.K fd ps ds) (hd:Vals dvs ds) (hx:t9 CX X E)
  (I:Inv X pins σ H s) (r:Vals vs us) (h:sp (vs++dvs) H Q E):wpAny (model X.prog X.w) X.A (call (.ref f) us) (EP X pins σ Q) X.xe s:=by
 have r2:Vals (vs++dvs) (us++ds):=r.append hd
 have hl:(us++ds).length=ps.length:=by rw [← r2.length];exact F.len _ _ _ _ h
 refine wpAny_call (codeAny_mono (F.run X.A X.stack s H ⟨us,[]⟩ (us++ds) (vs++dvs) Q E hr I.env0 (hb s us I.kIn hl) r2 h) fun r s' hq=>?_)
 cases r with
 | error e=>exact hx pins σ H s e s' I hq
 | ok fl =>
  cases fl with
  | ret u=>exact I.after hq
  | next=>exact False.elim hq
  | brk=>exact False.elim hq
  | cont=>exact False.elim hq
end
section
variable {X:Cx} {CX:CXT} {k:Nat} {f C:Addr} {fd:FuncData} {ps ks:List Str} {sp:Sp} {E:XK} {x m:Str} {p pos apos kpos:Pos} {e o:Expr} {es:List Expr} {kws:List Keyword} {te ta:TE} {t tk:TA} {nm:Option Str}
variable {g:List Value→List Value→List Value} {gV:List V→List V→List V}
end
structure aC (N P:List Str) (sc:Scope):Prop where
 kind:sc.kind=.function
 co:sc.isCoroutine=false
 gen:sc.isGenerator=false
 nd:N.Nodup
 pre:N.take P.length=P
 par:∀x∈P,sc.names.lookup x=some .local∨sc.names.lookup x=some .cell
 nofree:∀y∈sc.names,y.2≠.free
theorem pN {kindOf:Str→Option NameKind} {x:Str}:∀{binds:List (Str×Value)} {m:Str→Option Value},(∀v,(x,v)∉binds)→bindL kindOf binds m x=m x
 | [],_,_=>rfl
 | (n,v)::r,m,h=>by
  unfold bindL
  rw [pN fun w hw=>h w (List.mem_cons_of_mem _ hw)]
  split
  ·
   have:x≠n:=by rintro rfl;exact h v List.mem_cons_self
   simp [this]
  ·
   rfl
theorem pO {kindOf:Str→Option NameKind} {x:Str}:∀{binds:List (Str×Value)} {m:Str→Option Value},(∀v,(x,v)∉binds)→bindC kindOf binds m x=m x
 | [],_,_=>rfl
 | (n,v)::r,m,h=>by
  unfold bindC
  rw [pO fun w hw=>h w (List.mem_cons_of_mem _ hw)]
  split
  ·
   rfl
  ·
   have:x≠n:=by rintro rfl;exact h v List.mem_cons_self
   simp [this]
theorem pP {kindOf:Str→Option NameKind} {x:Str} {v:Value}:∀{P:List Str} {vs:List Value} {i:Nat} {m:Str→Option Value},P.Nodup→P[i]?=some x→vs[i]?=some v→kindOf x=some .local →
  bindL kindOf (P.zip vs) m x=some v
 | [],_,_,_,_,h,_,_=>by simp at h
 | _::_,[],_,_,_,_,h,_=>by simp at h
 | p::P,w::vs,0,m,nd,h1,h2,hk=>by
  simp at h1 h2;subst h1;subst h2
  show bindL kindOf ((p,w)::P.zip vs) m p=_
  unfold bindL
  rw [pN fun v hv=>(List.nodup_cons.mp nd).1 (List.of_mem_zip hv).1,if_pos hk]
  simp
 | p::P,w::vs,i+1,m,nd,h1,h2,hk=>by
  show bindL kindOf ((p,w)::P.zip vs) m x=_
  unfold bindL
  exact pP (i:=i) (List.nodup_cons.mp nd).2 (by simpa using h1) (by simpa using h2) hk
theorem pQ {kindOf:Str→Option NameKind} {x:Str} {v:Value}:∀{P:List Str} {vs:List Value} {i:Nat} {m:Str→Option Value},P.Nodup→P[i]?=some x→vs[i]?=some v→kindOf x≠some .local →
  bindC kindOf (P.zip vs) m x=some v
 | [],_,_,_,_,h,_,_=>by simp at h
 | _::_,[],_,_,_,_,h,_=>by simp at h
 | p::P,w::vs,0,m,nd,h1,h2,hk=>by
  simp at h1 h2;subst h1;subst h2
  show bindC kindOf ((p,w)::P.zip vs) m p=_
  unfold bindC
  rw [pO fun v hv=>(List.nodup_cons.mp nd).1 (List.of_mem_zip hv).1,if_neg hk]
  simp
 | p::P,w::vs,i+1,m,nd,h1,h2,hk=>by
  show bindC kindOf ((p,w)::P.zip vs) m x=_
  unfold bindC
  exact pQ (i:=i) (List.nodup_cons.mp nd).2 (by simpa using h1) (by simpa using h2) hk
def lx (N:List Str) (vs:List V):St:=vs.map some++List.replicate (N.length - vs.length) none
def cxOf (CX:CXT) (P:Program) (w:World) (K:PySem.W.Frag) (mg:Str→Option Value) (base:Heap) (N:List Str) (qual:Str) (scope:Scope) (f:Addr) (cd:Value) (A:Around) (outer:List Env) (s:Shared) (H:Hp) (E:XK):Cx where
 prog:=P
 w:=w
 K:=K
 mg:=mg
 base:=base
 A:=A.deeper (envOfC qual scope s.heap.objs.size f cd)
 N:=N
 s₀:=s
 H₀:=H
 env:=envOfC qual scope s.heap.objs.size f cd
 outer:=outer
 stack:=envOfC qual scope s.heap.objs.size f cd::outer
 ex:=[]
 calm:=true
 fn:=fun _=>true
 pn:=[]
 xe:=fun e s'=>wpAny (model P w) (A.deeper (envOfC qual scope s.heap.objs.size f cd)) (leaving (envOfC qual scope s.heap.objs.size f cd) e) (fun _ s''=>CX outer H s E e s'') (fun e' s''=>CX outer H s E e' s'') s'
theorem ua {sc:Scope} {n:Nat} {x:Str} (h:sc.names.lookup x=some .cell):∃c,(cellsFrom n sc.names []).lookup x=some c:=by
 have q:=PySem.W.cellsFrom_some sc.names n [] (.inl h)
 exact Option.isSome_iff_exists.mp q
theorem wO {CX:CXT} {P:Program} {w:World} {K:PySem.W.Frag} {mg:Str→Option Value} {base:Heap} {N ps:List Str} {qual:Str} {scope:Scope} {f:Addr} {cd:Value} {A:Around} {outer:List Env} {s s1:Shared} {H:Hp} {E:XK} {us:List Value} {vs:List V}
  (S:aC N ps scope) (hd:A.handled=none) (e0:Env0 P w K mg base A outer s H) (hl:vs.length=ps.length) (r:Vals vs us)
  (x:InCallC s s.heap.objs.size (bindL (envOfC qual scope s.heap.objs.size f cd).kindOf (ps.zip us) fun _=>none) (cellsFrom (s.heap.objs.size+1) scope.names []) (bindC (envOfC qual scope s.heap.objs.size f cd).kindOf (ps.zip us) fun _=>none) s1) :
  Inv (cxOf CX P w K mg base N qual scope f cd A outer s H E) [] (lx N vs) H s1:=by
 have hpl:ps.length≤N.length:=by have:=congrArg List.length S.pre;rw [List.length_take] at this;omega
 obtain ⟨h1,tk,rfl,hk⟩:=x.done
 have noA:∀b:Addr,b∉(cxOf CX P w K mg base N qual scope f cd A outer s H E).ex:=fun b z=>absurd (show b∈([]:List Addr) from z) (by simp)
 refine ⟨⟨e0.mod,S.kind,rfl,rfl,Nat.le_refl _,fun y z c h1 h2=>?_,fun y hy=>?_,fun y c _ h=>?_,fun _=>hd,Around.frames_deeper e0.frames,.inr ⟨rfl,rfl⟩,fun b z=>absurd z (noA b),e0.bs,e0.bsz,fun b _ _=>noA b,fun b z=>absurd z (noA b),e0.funs,e0.frf⟩,
  rfl,e0.bare,Un.kept hk,⟨_,x.toInCall.ns,fun i y v h1 h2 h3=>?_⟩,fun y c h=>⟨_,x.cell y c h⟩,e0.hok.fresh (Nat.le_refl _),fun y c h=>?_,fun p hp=>absurd (show p∈([]:List (Addr×Obj)) from hp) (by simp),e0.hok.kept hk,?_⟩
 ·
  exact name_of_addr x.apart (PySem.mem_of_lookup h1) (PySem.mem_of_lookup h2)
 ·
  have hy:scope.names.lookup y=some .cell∨scope.names.lookup y=some .free:=hy
  rcases hy with hy|hy
  ·
   exact ua hy
  ·
   exact absurd rfl (S.nofree _ (PySem.mem_of_lookup hy))
 ·
  exact Nat.le_of_lt (x.above y c (PySem.mem_of_lookup h))
 ·
  have hi:i <vs.length:=by
   unfold lx at h2
   by_cases hi:i <vs.length
   ·
    exact hi
   ·
    rw [List.getElem?_append_right (by simpa using hi)] at h2
    rw [List.getElem?_replicate] at h2
    split at h2<;>cases h2
  have ha:vs[i]?=some v:=by
   unfold lx at h2
   rw [List.getElem?_append_left (by simpa using hi),List.getElem?_map] at h2
   cases e:vs[i]? with
   | none=>rw [e] at h2;cases h2
   | some a=>rw [e] at h2;cases h2;rfl
  obtain ⟨u,hu,rv⟩:=r.get ha
  have hp:ps[i]?=some y:=by
   rw [← S.pre,List.getElem?_take_of_lt (by omega)];exact h1
  have ndP:ps.Nodup:=by rw [← S.pre];exact S.nd.sublist (List.take_sublist _ _)
  refine ⟨u,rv,?_⟩
  rcases S.par y (List.mem_of_getElem? hp) with k|k
  ·
   exact .inl ⟨k,pP ndP hp hu k⟩
  ·
   obtain ⟨c,e⟩:=ua (n:=s.heap.objs.size+1) k
   refine .inr ⟨.inl k,c,e,?_⟩
   have q:=x.cell y c e
   rw [pQ ndP hp hu (by show scope.names.lookup y≠_;rw [k];decide)] at q
   exact q
 ·
  exact e0.hok.fresh (Nat.le_of_lt (x.above y c (PySem.mem_of_lookup h)))
 ·
  unfold lx
  show _=N.length
  rw [List.length_append,List.length_map,List.length_replicate]
  omega
theorem D4 {CX:CXT} {P:Program} {w:World} {K:PySem.W.Frag} {mg:Str→Option Value} {base:Heap} {k:Nat} {f:Addr} {name qual:Str} {params:Arguments} {body:List Stmt} {scope:Scope} {dV kV doc pm cdv ct oc:Value} {an od:Option Addr}
  {osl:Array (Option Value)} {N ps:List Str} {sp:Sp} (lk:K.lookup f=some ⟨oc,od,.func (PySem.W.fnOf name qual params body scope dV kV doc pm an cdv ct),osl⟩) (hcd:PySem.W.codeIn K cdv qual=true) (S:aC N ps scope)
  (len:∀vs H Q E,sp vs H Q E→vs.length=ps.length)
  (hbody:∀(A:Around) (outer:List Env) (s:Shared) (H:Hp) (vs:List V) (Q:VK) (E:XK),Room k (A.deeper (envOfC qual scope s.heap.objs.size f cdv))→sp vs H Q E →
   ∃t,PSs (cxOf CX P w K mg base N qual scope f cdv A outer s H E) body t∧t { nx:=fun _ H'=>Q .non H',rt:=Q } (lx N vs) H) :
  FnOk P w K mg base CX (k+1) f (PySem.W.fnOf name qual params body scope dV kV doc pm an cdv ct) ps sp:=by
 refine ⟨len,fun A outer s H args us vs Q E hr e0 hb r hsp=>?_⟩
 have hl:=len _ _ _ _ hsp
 have KX:K.In s.heap:=e0.mod.kin.keeps fun b o e=>(e0.bs b o e).1
 have lim:s.heap.NoLimit:=e0.mod.nolimit.keeps fun b o e=>(e0.bs b o e).1
 have hkind:∀y∈ps.zip us,scope.names.lookup y.1=some .local∨(scope.names.lookup y.1=some .cell∧((cellsFrom (s.heap.objs.size+1) scope.names []).lookup y.1).isSome=true):=fun ⟨n,v⟩ hy=>by
  rcases S.par n (List.of_mem_zip hy).1 with q|q
  ·
   exact .inl q
  ·
   exact .inr ⟨q,PySem.W.cellsFrom_some _ _ _ (.inl q)⟩
 refine codeAny_call_function hr.depth (KX _ _ lk) rfl S.co S.gen rfl (PySem.W.codeRec_of KX hcd) (hb _ _ _ _ ?_)
 refine wpAny_newFunctionEnv_cells S.kind hkind fun env he s1 x=>?_
 subst he
 refine ⟨lim.keeps x.toInCall.keep,codeAny_func ?_⟩
 obtain ⟨t,ht,hq⟩:=hbody A outer s H vs Q E (hr.deeper _) hsp
 have I:Inv (cxOf CX P w K mg base N qual scope f cdv A outer s H E) [] (lx N vs) H s1:=wO S hr.hd e0 hl r x
 refine wpAny_mono (ht [] s1 (lx N vs) H _ I hq) (fun fl s' hs=>?_) fun e s' hs=>hs
 have fin:∀{σ':St} {H':Hp} {v:V} {u:Value},Inv (cxOf CX P w K mg base N qual scope f cdv A outer s H E) [] σ' H' s'→RelV v u→Q v H'→CE outer P w H s Q u s' :=
  fun {σ' H' v u} J rv q=>⟨v,H',J.os,J.bare,J.base,J.hok,rv,q⟩
 cases fl with
 | ret u =>
  obtain ⟨v,σ',H',J,rv,q⟩:=hs
  exact fin J rv q
 | next =>
  obtain ⟨σ',H',J,q⟩:=hs
  exact fin (v:=V.non) (u:=Value.none) J rfl q
 | brk =>
  obtain ⟨_,_,_,q⟩:=hs
  exact False.elim q
 | cont =>
  obtain ⟨_,_,_,q⟩:=hs
  exact False.elim q
end L2
namespace L2
open PySem PySem.Spec PyProof.Rows
section
variable {X:Cx} {x:Str} {p pos:Pos} {e:Expr} {es:List Expr} {t:TA} {id T:String} {r:List V→Hp→VK→Prop}
def tCB (r:List V→Hp→VK→Prop) (t:TA):TE:=fun σ H Q=>t σ H fun vs H1=>r vs H1 Q
theorem lK (hc:fS X (.builtin id) r) (hg:Gl X x) (hm:X.mg x=none) (hv:bootBuiltins x=some (.builtin id)) (ha:PA X (e::es) t) (hn:x≠"__name__":=by decide) (hdb:(x == ("__debug__" : Str))=false:=by decide)
  (he:starEach (e::es) X.env=(false,eval e X.env)::starEach es X.env:=by rfl) (hpl:(backTo pos (starEach es X.env)).any (·.1)=false:=by rfl):PE X (.Call (.Name x p) (e::es) [] pos) (tCB r t):=by
 intro pins s σ H Q I h
 refine wpAny_Call_Name_kw (kQ I hg hm hv ?_ hn hdb)
 exact PyProof.Rows.callWith_builtin1 (thn (ha pos pins s σ H _ I h) fun us s1 ⟨vs,H1,I1,r1,q1⟩=>hc pins s1 σ H1 vs us Q I1 r1 q1) he hpl
end
end L2
namespace HT
open PySem PyProof.Rows
section
open PySem.SeqAt
open PySem.AutoSeq1 (wpAny_loadPart')
open PySem.MeetsSeq PySem.MeetsSeq2 PySem.MeetsSeq3
end
section
variable {prog:Program} {w:World} {A:Around} {E:Value→Shared→Prop} {s:Shared}
def sIx (n d:Nat):Option Int→Nat
 | none=>d
 | some v=>if v <0 then (v+(n:Int)).toNat else min v.toNat n
theorem D5 (n d:Nat) (hd:d≤n) (o:Option Int):sIx n d o≤n:=by
 cases o with
 | none=>exact hd
 | some v =>
  show (if v <0 then (v+(n:Int)).toNat else min v.toNat n)≤n
  by_cases hv:v <0
  ·
   rw [if_pos hv];omega
  ·
   rw [if_neg hv];exact Nat.min_le_right _ _
theorem wQ (v:Int) (n d:Nat):(if v <0 then max (v+(n:Int)) 0 else min v (n:Int))=((sIx n d (some v):Nat):Int):=by
 show (if v <0 then max (v+(n:Int)) 0 else min v (n:Int))=(((if v <0 then (v+(n:Int)).toNat else min v.toNat n):Nat):Int)
 by_cases hv:v <0
 ·
  simp only [if_pos hv];omega
 ·
  simp only [if_neg hv];omega
theorem vt (lo hi:Option Int) (n:Nat):Builtin.Slice.sliceAdjust lo hi 1 (n:Int)=(((sIx n 0 lo:Nat):Int),((sIx n n hi:Nat):Int)):=by
 have h1:¬((1:Int) <0):=by omega
 unfold Builtin.Slice.sliceAdjust
 simp only [h1,if_false]
 refine Prod.ext ?_ ?_
 ·
  cases lo with
  | none=>rfl
  | some v=>exact wQ v n 0
 ·
  cases hi with
  | none=>rfl
  | some v=>exact wQ v n n
theorem vw (i j:Nat):Builtin.Slice.slicePlaces (i:Int) (j:Int) 1=j - i:=by
 unfold Builtin.Slice.slicePlaces
 have h1:(1:Int) > 0:=by omega
 simp only [h1,if_true,Int.ediv_one]
 split<;>omega
theorem nB {v:Value} {o:Option Int} {Q:Option Int→Shared→Prop} (p:IsPart v o) (h:Q o s):wpAny (model prog w) A (Builtin.Slice.slicePartIndex v) Q E s:=by
 cases p with
 | none=>exact slicePart_none h
 | int i t=>exact slicePart_int h
theorem ly {sl:Addr} {vl vu:Value} {lo hi:Option Int} {n:Nat} {Q:Int×Int×Nat→Shared→Prop} (hs:s.heap.IsSliceOf sl vl vu .none) (pl:IsPart vl lo) (pu:IsPart vu hi)
  (h:Q (((sIx n 0 lo:Nat):Int),1,sIx n n hi - sIx n 0 lo) s):wpAny (model prog w) A (Builtin.Slice.sliceApplied (.ref sl) (pure (n:Int))) Q E s:=by
 obtain ⟨os,hos,hcs,hds⟩:=id hs
 unfold Builtin.Slice.sliceApplied Builtin.Slice.sliceFields
 refine wpAny_bind (wpAny_bind (wpAny_field hos hds (x:=vl) rfl (wpAny_bind (wpAny_field hos hds (x:=vu) rfl (wpAny_bind (wpAny_field hos hds (x:=.none) rfl (wpAny_pure ?_)))))))
 refine wpAny_bind (slicePart_none ?_)
 show wpAny _ _ (if ((1:Int) == 0)=true then _ else _) _ _ s
 rw [if_neg (by decide)]
 refine wpAny_bind (nB pl (wpAny_bind (nB pu (wpAny_bind (wpAny_pure ?_)))))
 show wpAny _ _ (match Builtin.Slice.sliceAdjust lo hi 1 (n:Int) with|(lo,hi)=>pure (lo,(1:Int),Builtin.Slice.slicePlaces lo hi 1)) _ _ s
 rw [vt lo hi n]
 show wpAny _ _ (pure (((sIx n 0 lo:Nat):Int),(1:Int),Builtin.Slice.slicePlaces ((sIx n 0 lo:Nat):Int) ((sIx n n hi:Nat):Int) 1)) _ _ s
 rw [vw]
 exact wpAny_pure h
theorem zC (xs:Array Value) (i k:Nat):((List.range k).filterMap fun (m:Nat)=>xs[((i:Int)+(m:Int)*1).toNat]?).toArray=((xs.toList.drop i).take k).toArray:=by
 have e:(fun (m:Nat)=>xs[((i:Int)+(m:Int)*1).toNat]?)=fun m=>xs[i+m]?:=by
  funext m
  have:((i:Int)+(m:Int)*1).toNat=i+m:=by omega
  rw [this]
 rw [e]
 have:=pick_run xs i k
 rw [List.filterMap_map] at this
 have e2:((fun x=>xs[x]?) ∘ fun x=>i+x)=fun m=>xs[i+m]?:=rfl
 rw [e2] at this
 rw [this]
theorem getItem_tuple_cut {t sl:Addr} {items:Array Value} {vl vu:Value} {lo hi:Option Int} {Q:Value→Shared→Prop} (ht:IsTup s.heap t items) (hs:s.heap.IsSliceOf sl vl vu .none) (pl:IsPart vl lo) (pu:IsPart vu hi)
  (hw:¬(sIx items.size 0 lo=0∧sIx items.size items.size hi=items.size))
  (h:Q (.ref s.heap.objs.size) { s with heap:=s.heap.push { cls:=.type "tuple",data:=.seq ((items.toList.drop (sIx items.size 0 lo)).take (sIx items.size items.size hi - sIx items.size 0 lo)).toArray } })
  (hsz:items.size≤sizeLine):wpAny (model prog w) A (getItem (.ref t) (.ref sl)) Q E s:=by
 have htake:sizeOk (.seq ((items.toList.drop (sIx items.size 0 lo)).take (sIx items.size items.size hi - sIx items.size 0 lo)).toArray):=by
  show ((items.toList.drop (sIx items.size 0 lo)).take (sIx items.size items.size hi - sIx items.size 0 lo)).toArray.size≤sizeLine
  rw [List.size_toArray,List.length_take,List.length_drop,Array.length_toList]
  omega
 have hj:sIx items.size items.size hi≤items.size:=D5 _ _ (Nat.le_refl _) hi
 obtain ⟨os,hos,hcs,hds⟩:=id hs
 have hTs:s.TypeIs (.ref sl) "slice":=⟨os,hos,hcs⟩
 unfold getItem
 try with_reducible refine wpAny_holding ?_
 first|refine wpAny_bind (wpAny_pure ?_)|skip
 refine wpAny_bind (wpAny_sequenceKey ht.typeIs (by decide) ?_)
 refine wpAny_bind (wpAny_callSpecial?_slot (name:=Str.ofString "__getitem__") ht.typeIs PyProof.Rows.slot_tuple_getitem
  (wpAny_call_entry PyProof.Rows.slot_tuple_getitem ht.typeIs entry_tuple_getitem ?_ (args_tuple_getitem _ _)))
 show wpAny _ _ (Builtin.Tuple.tupleItemsOf (.ref t) >>= _) _ _ s
 refine wpAny_bind (tupleItemsOf_ ht ?_)
 refine wpAny_bind (wpAny_typeOf hTs ?_)
 rw [if_pos (by decide)]
 refine wpAny_bind (ly hs pl pu ?_)
 have hno:¬((((sIx items.size 0 lo:Nat):Int) == 0 && (1:Int) == 1 && (sIx items.size items.size hi - sIx items.size 0 lo) == items.size)=true):=by
  intro q
  rw [Bool.and_eq_true,Bool.and_eq_true] at q
  have q1:((sIx items.size 0 lo:Nat):Int)=0:=eq_of_beq q.1.1
  have q2:sIx items.size items.size hi - sIx items.size 0 lo=items.size:=eq_of_beq q.2
  exact hw ⟨by omega,by omega⟩
 show wpAny _ _ (if (((sIx items.size 0 lo:Nat):Int) == 0 && (1:Int) == 1 && (sIx items.size items.size hi - sIx items.size 0 lo) == items.size)=true then _ else _) _ _ s
 rw [if_neg hno,zC]
 first
  | exact wpAny_bind (m:=Builtin.Tuple.tupleExact _) (wpAny_newObj_type (wpAny_pure ⟨_,rfl,wpAny_pure h⟩) htake)
  | exact wpAny_bind (m:=Builtin.Tuple.tupleExact _) (wpAny_newObj_type (wpAny_bind (wpAny_pure (wpAny_pure ⟨_,rfl,wpAny_pure h⟩))) htake)
  | exact wpAny_bind (wpAny_bind (m:=Builtin.Tuple.tupleExact _) (wpAny_newObj_type (wpAny_pure (wpAny_pure ⟨_,rfl,wpAny_pure h⟩)) htake))
  | exact wpAny_bind (wpAny_bind (m:=Builtin.Tuple.tupleExact _) (wpAny_newObj_type (wpAny_pure ⟨_,rfl,wpAny_pure h⟩) htake))
end
end HT
namespace L2
open PySem PySem.Spec PyProof.Rows
abbrev TO:=St→Hp→(Option Int→Hp→Prop)→Prop
def PO (X:Cx) (e:Option Expr) (t:TO):Prop :=
 ∀(pins:List (Addr×Obj)) (s:Shared) (σ:St) (H:Hp) (Q:Option Int→Hp→Prop),Inv X pins σ H s→t σ H Q →
  wpAny (model X.prog X.w) X.A (evalPart e X.env) (fun u s'=>∃o H',Inv X pins σ H' s'∧IsPart u o∧Q o H') X.xe s
def BV:TO:=fun _ H Q=>Q none H
def FZ (t:TE):TO:=fun σ H Q=>t σ H fun x H1=>∃i,x=.int i∧Q (some i) H1
section
variable {X:Cx} {e:Expr} {te:TE} {lo hi:Option Expr} {tl th:TO} {pos p2:Pos}
theorem BW:PO X none BV:=by
 intro pins s σ H Q I h
 rw [evalPart_none]
 exact wpAny_pure ⟨none,H,I,.none,h⟩
theorem BX (h:PE X e te):PO X (some e) (FZ te):=by
 intro pins s σ H Q I hw
 rw [evalPart_some]
 refine thn (h pins s σ H _ I hw) fun u s1 ⟨x,H1,I1,r1,q1⟩=>?_
 obtain ⟨i,rfl,q⟩:=q1
 obtain ⟨t,rfl⟩:=r1
 exact ⟨some i,H1,I1,.int i t,q⟩
def SlR (X:Cx) (r:V→Option Int→Option Int→Hp→VK→Prop):Prop :=
 ∀(pins:List (Addr×Obj)) (s:Shared) (σ:St) (H:Hp) (x:V) (v vl vu:Value) (lo hi:Option Int) (sl:Addr) (Q:VK),Inv X pins σ H s→RelV x v→s.heap.IsSliceOf sl vl vu .none→IsPart vl lo→IsPart vu hi→r x lo hi H Q →
  ∃ T id,typeLookup (.type T) "__getitem__"=pure (some (.builtin id))∧s.TypeIs v T∧wpAny (model X.prog X.w) X.A (getItem v (.ref sl)) (EP X pins σ Q) X.xe s
theorem SlR.or {r r':V→Option Int→Option Int→Hp→VK→Prop} (h:SlR X r) (h':SlR X r'):SlR X (fun x lo hi H Q=>r x lo hi H Q∨r' x lo hi H Q):=by
 intro pins s σ H x v vl vu lo hi sl Q I rx hs pl pu q
 rcases q with q|q
 ·
  exact h pins s σ H x v vl vu lo hi sl Q I rx hs pl pu q
 ·
  exact h' pins s σ H x v vl vu lo hi sl Q I rx hs pl pu q
def tSl (r:V→Option Int→Option Int→Hp→VK→Prop) (te:TE) (tl th:TO):TE:=fun σ H Q=>te σ H fun x H1=>tl σ H1 fun l H2=>th σ H2 fun u H3=>r x l u H3 Q
theorem zD {r:V→Option Int→Option Int→Hp→VK→Prop} (hr:SlR X r) (he:PE X e te) (hl:PO X lo tl) (hu:PO X hi th):PE X (.Subscript e (.Slice lo hi none p2) pos) (tSl r te tl th):=by
 intro pins s σ H Q I h
 refine Subscript_ (thn (he pins s σ H _ I h) fun v s1 ⟨x,H1,I1,r1,q1⟩=>?_)
 refine wpAny_Slice (thn (hl pins s1 σ H1 _ I1 q1) fun vl s2 ⟨l,H2,I2,pl,q2⟩=>thn (hu pins s2 σ H2 _ I2 q2) fun vu s3 ⟨u,H3,I3,pu,q3⟩=>?_)
 rw [evalPart_none]
 refine wpAny_pure ?_
 have I4:Inv X pins σ H3 { s3 with heap:=s3.heap.push { cls:=.type "slice",data:=.fields #[vl,vu,.none] } }:=I3.kept (t':=s3.toks) fun b ob q=>Heap.get?_push_of_some _ q
 obtain ⟨T,id,hT,ht,hg⟩:=hr pins { s3 with heap:=s3.heap.push { cls:=.type "slice",data:=.fields #[vl,vu,.none] } } σ H3 x v vl vu l u s3.heap.objs.size Q I4 r1 (Heap.IsSliceOf.new ..) pl pu q3
 show wpAny (model X.prog X.w) X.A (subscriptTail e (.Slice lo hi none p2) v (.ref s3.heap.objs.size)) (EP X pins σ Q) X.xe { s3 with heap:=s3.heap.push { cls:=.type "slice",data:=.fields #[vl,vu,.none] } }
 exact tail_any (ops:=[.ref s3.heap.objs.size,v]) ht hT hg (by with_unfolding_all rfl)
def cutV (xs:List V) (lo hi:Option Int):List V:=(xs.drop (HT.sIx xs.length 0 lo)).take (HT.sIx xs.length xs.length hi - HT.sIx xs.length 0 lo)
theorem l5 (xs:List V) (lo hi:Option Int):(cutV xs lo hi).length≤xs.length:=by
 unfold cutV
 rw [List.length_take,List.length_drop]
 omega
def rSlT (K:PySem.W.Frag):V→Option Int→Option Int→Hp→VK→Prop:=fun x lo hi H Q=>∃a xs,x=.ref a∧SqT K H a xs ∧
 ¬(HT.sIx xs.length 0 lo=0∧HT.sIx xs.length xs.length hi=xs.length)∧∀p,H p=none→Q (.ref p) (upd H p (.tup (cutV xs lo hi)))
theorem D6:SlR X (rSlT X.K):=by
 intro pins s σ H x v vl vu lo hi sl Q I rx hs pl pu h
 obtain ⟨a,xs,rfl,hx,hw,q⟩:=h
 cases rx
 obtain ⟨its,r,ht,hz⟩:=I.tuple hx
 have hlen:its.toArray.size=xs.length:=by rw [List.size_toArray];exact r.length.symm
 refine ⟨"tuple",_,PyProof.Rows.slot_tuple_getitem.lookup,ht.typeIs,?_⟩
 refine HT.getItem_tuple_cut ht hs pl pu (by rw [hlen];exact hw) ?_ (by rw [hlen];exact hz)
 rw [hlen]
 refine ⟨.ref s.heap.objs.size,_,I.laid (t':=s.toks) (o:=.tup (cutV xs lo hi)) (fun b ob q=>Heap.get?_push_of_some _ q) (Nat.le_refl _) ?_,rfl,q _ (I.hok.fresh (Nat.le_refl _))⟩
 exact ⟨Nat.le_trans (l5 xs lo hi) hz,_,(r.drop (HT.sIx xs.length 0 lo)).take (HT.sIx xs.length xs.length hi - HT.sIx xs.length 0 lo),IsTup.new _ _⟩
end
end L2
namespace L2
open PySem PySem.Spec PyProof.Rows
def ixN (n:Nat) (i:Int):Option Nat:=if 0≤i then (if i <n then some i.toNat else none) else if -(n:Int)≤i then some (i+n).toNat else none
def atI {α:Type} (xs:List α) (i:Int):Option α:=(ixN xs.length i).bind fun j=>xs[j]?
theorem wR {n:Nat} {i:Int} {j:Nat} (h:ixN n i=some j):seqIndex? i n=some j∧j <n∧-(n:Int)≤i∧i <n:=by
 unfold ixN at h
 by_cases h0:0≤i
 ·
  rw [if_pos h0] at h
  by_cases h1:i <n
  ·
   rw [if_pos h1] at h
   have e:i.toNat=j:=Option.some.inj h
   exact ⟨by rw [seqIndex_of h0 h1,e],by omega,by omega,h1⟩
  ·
   rw [if_neg h1] at h;cases h
 ·
  rw [if_neg h0] at h
  by_cases h1 : -(n:Int)≤i
  ·
   rw [if_pos h1] at h
   have e:(i+n).toNat=j:=Option.some.inj h
   exact ⟨by rw [seqIndex_neg (by omega) h1,e],by omega,h1,by omega⟩
  ·
   rw [if_neg h1] at h;cases h
theorem rN {α:Type} {xs:List α} {i:Int} {v:α} (h:atI xs i=some v):∃j,seqIndex? i xs.length=some j∧xs[j]?=some v∧j <xs.length∧-(xs.length:Int)≤i∧i <xs.length:=by
 unfold atI at h
 cases e:ixN xs.length i with
 | none=>rw [e] at h;cases h
 | some j =>
  rw [e] at h
  obtain ⟨h1,h2,h3,h4⟩:=wR e
  exact ⟨j,h1,h,h2,h3,h4⟩
theorem iI {α:Type} {xs:List α} {j:Nat} {v:α} (h:xs[j]?=some v):atI xs (j:Int)=some v:=by
 have hj:j <xs.length:=(List.getElem?_eq_some_iff.mp h).1
 have e:ixN xs.length (j:Int)=some j:=by
  unfold ixN
  rw [if_pos (by omega),if_pos (by omega)];simp
 unfold atI;rw [e];exact h
def nW (b:Expr):Prop:=∀o i,subscripted b false o i=operate [o,i] (getItem o i)
def IxR (X:Cx) (r:R2):Prop :=
 ∀(value slice:Expr) (pins:List (Addr×Obj)) (s:Shared) (σ:St) (H:Hp) (x y:V) (v u:Value) (Q:VK),Inv X pins σ H s→RelV x v→RelV y u→r x y H Q →
  subscripted slice false v u=operate [v,u] (getItem v u)→wpAny (model X.prog X.w) X.A (subscriptTail value slice v u) (EP X pins σ Q) X.xe s
def MtR (X:Cx) (id:String) (r:V→List V→Hp→VK→Prop):Prop :=
 ∀(pins:List (Addr×Obj)) (s:Shared) (σ:St) (H:Hp) (x:V) (xs:List V) (v:Value) (us:List Value) (Q:VK),Inv X pins σ H s→RelV x v→Vals xs us→r x xs H Q →
  wpAny (model X.prog X.w) X.A (call (.builtin id) (v::us)) (EP X pins σ Q) X.xe s
section
variable {X:Cx} {a b:Expr} {ta tb:TE} {pos:Pos}
theorem D7 {r:R2} (hr:IxR X r) (ha:PE X a ta) (hb:PE X b tb) (hs:nW b):PE X (.Subscript a b pos) (tOp r ta tb):=by
 intro pins s σ H Q I h
 exact Subscript_ (binT ha hb I h fun v u s2 x y H2 I2 rx ry q=>hr a b pins s2 σ H2 x y v u Q I2 rx ry q (hs _ _))
def rIxL (K:PySem.W.Frag):R2:=fun x y H Q=>∃p xs i v,x=.ref p∧y=.int i∧SqL K H p xs∧atI xs i=some v∧Q v H
def rIxT (K:PySem.W.Frag):R2:=fun x y H Q=>∃p xs i v,x=.ref p∧y=.int i∧SqT K H p xs∧atI xs i=some v∧Q v H
def rIxS:R2:=fun x y H Q=>∃z i c,x=.str z∧y=.int i∧z.length≤sizeLine∧atI z.cps.toList i=some c∧Q (.str ⟨#[c]⟩) H
theorem rO:IxR X (rIxL X.K):=by
 intro value slice pins s σ H x y v u Q I rx ry h hs
 obtain ⟨p,xs,i,z,rfl,rfl,hq,he,q⟩:=h
 cases rx
 obtain ⟨t,rfl⟩:=ry
 obtain ⟨its,r,pl,hz⟩:=I.list hq
 obtain ⟨j,h1,h2,h3,h4,h5⟩:=rN he
 obtain ⟨w,ew,rw'⟩:=r.get h2
 have hl:=r.length
 have hn:=nz
 have fin:EP X pins σ Q w s:=⟨z,H,I,rw',q⟩
 by_cases h0:0≤i
 ·
  have hj:i.toNat=j:=by
   rw [seqIndex_of h0 h5] at h1
   exact Option.some.inj h1
  exact item_listR pl.isList h0 (by omega) (by rw [hj];simpa using ew) fin hs
 ·
  have hj:(i+(its.toArray.size:Int)).toNat=j:=by
   rw [seqIndex_neg (by omega) h4] at h1
   rw [List.size_toArray,← hl]
   exact Option.some.inj h1
  exact subscriptTail_builtinR (x:=w) pl.isList.typeIs slot_list_getitem.lookup
   (wpAny_getItem_list_neg (Q:=fun r s'=>r=w∧EP X pins σ Q r s') pl.isList (by omega) (by rw [List.size_toArray]<;>omega) (by omega) (by rw [hj];simpa using ew) ⟨rfl,fin⟩) hs
theorem Bf:IxR X (rIxT X.K):=by
 intro value slice pins s σ H x y v u Q I rx ry h hs
 obtain ⟨p,xs,i,z,rfl,rfl,hq,he,q⟩:=h
 cases rx
 obtain ⟨t,rfl⟩:=ry
 obtain ⟨its,r,pl,hz⟩:=I.tuple hq
 obtain ⟨j,h1,h2,h3,h4,h5⟩:=rN he
 obtain ⟨w,ew,rw'⟩:=r.get h2
 have hl:=r.length
 have hn:=nz
 have fin:EP X pins σ Q w s:=⟨z,H,I,rw',q⟩
 exact subscriptTail_builtinR (x:=w) pl.typeIs slot_tuple_getitem.lookup
  (getItem_tuple (j:=j) (Q:=fun r s'=>r=w∧EP X pins σ Q r s') pl (by omega) (by omega) (by rw [List.size_toArray,← hl];exact h1) (by simpa using ew) ⟨rfl,fin⟩) hs
theorem D8:IxR X rIxS:=by
 intro value slice pins s σ H x y v u Q I rx ry h hs
 obtain ⟨z,i,c,rfl,rfl,hz,he,q⟩:=h
 obtain ⟨t,rfl⟩:=rx
 obtain ⟨t',rfl⟩:=ry
 obtain ⟨j,h1,h2,h3,h4,h5⟩:=rN he
 have hl:z.cps.toList.length=z.length:=by simp [Str.length]
 rw [hl] at h1 h4 h5
 have hn:=nz
 exact tail_any (typeIs_str s z t) slot_str_getitem.lookup (getItem_str (c:=c) (by
  have e1:decide (i < -(2 ^ 63:Int))=false:=decide_eq_false (by omega)
  have e2:decide (i≥2 ^ 63)=false:=decide_eq_false (by omega)
  rw [e1,e2,Bool.or_false]) (by rw [h1];simpa using h2) ⟨.str ⟨#[c]⟩,H,I.tok _,⟨_,rfl⟩,q⟩) hs
theorem vx (its:List Value) (n j:Nat) (u:Value):Obj.mapSeq (·.setIfInBounds j u) { cls:=.type "list",data:=.seq its.toArray n }={ cls:=.type "list",data:=.seq (its.set j u).toArray n }:=by
 simp [Obj.mapSeq]
theorem Inv.lst {pins:List (Addr×Obj)} {σ:St} {H:Hp} {s:Shared} {p:Addr} {xs:List V} (I:Inv X pins σ H s) (h:H p=some (.lst xs)) :
  ∃ (its:List Value) (n:Nat),Vals xs its∧s.heap.get? p=some { cls:=.type "list",data:=.seq its.toArray n }∧xs.length≤sizeLine:=by
 obtain ⟨z,its,n,r,e⟩:=I.hok p _ h
 exact ⟨its,n,r,e,z⟩
theorem Inv.lstUpd {pins:List (Addr×Obj)} {σ:St} {H:Hp} {s:Shared} {p:Addr} {xs ys:List V} {its its':List Value} {n n':Nat} {f:Obj→Obj} (I:Inv X pins σ H s) (h:H p=some (.lst xs))
  (ho:s.heap.get? p=some { cls:=.type "list",data:=.seq its.toArray n }) (hf:f { cls:=.type "list",data:=.seq its.toArray n }={ cls:=.type "list",data:=.seq its'.toArray n' }) (r:Vals ys its') (hz:ys.length≤sizeLine) (t:Nat) :
  Inv X pins σ (upd H p (.lst ys)) { s with heap:=s.heap.update p f,toks:=t }:=by
 have e:(s.heap.update p f).get? p=some { cls:=.type "list",data:=.seq its'.toArray n' }:=by
  rw [Heap.get?_update_self f ho (by rw [hf]<;>rfl),hf]
 refine I.write (x:=p) (e:=p) (by rw [h];trivial) (.inl rfl) (fun b u hb q=>(Heap.get?_update_other _ _ (Ne.symm hb)).trans q) ⟨_,e⟩ ?_
 exact ⟨hz,its',n',r,e⟩
def F0:V→V→V→Hp→(Hp→Prop)→Prop:=fun o i v H Q=>∃p xs k j,o=.ref p∧i=.int k∧H p=some (.lst xs)∧ixN xs.length k=some j∧Q (upd H p (.lst (xs.set j v)))
theorem zE:PSet X F0:=by
 intro pins s σ H o i v ov iv u Q I ro ri rv h
 obtain ⟨p,xs,k,j,rfl,rfl,hp,hj,q⟩:=h
 cases ro
 obtain ⟨t,rfl⟩:=ri
 obtain ⟨its,n,r,ho,hz⟩:=I.lst hp
 obtain ⟨h1,h2,h3,h4⟩:=wR hj
 have hl:=r.length
 have hn:=nz
 have I':Inv X pins σ (upd H p (.lst (xs.set j v))) { s with heap:=s.heap.update p (Obj.mapSeq (·.setIfInBounds j u)) } :=
  I.lstUpd hp ho (vx its n j u) (r.set rv j) (by rw [List.length_set];exact hz) s.toks
 by_cases h0:0≤k
 ·
  have hk:k.toNat=j:=by
   rw [seqIndex_of h0 h4] at h1
   exact Option.some.inj h1
  exact PySem.W.ki_setAt ho h0 (by omega) (by rw [List.size_toArray,← hl];exact h4) (by rw [hk];exact ⟨_,I',q⟩)
 ·
  have hk:(k+(its.toArray.size:Int)).toNat=j:=by
   rw [seqIndex_neg (by omega) h3] at h1
   rw [List.size_toArray,← hl]
   exact Option.some.inj h1
  exact PySem.W.ki_setBack ho (by omega) (by rw [List.size_toArray,← hl];exact h3) (by omega) (by rw [hk];exact ⟨_,I',q⟩)
theorem pR (lo hi:Option Int) (n:Nat):(sliceBounds lo hi none n).1=((HT.sIx n 0 lo:Nat):Int)∧(sliceBounds lo hi none n).2.1=((HT.sIx n n hi:Nat):Int)∧(sliceBounds lo hi none n).2.2=1:=by
 refine ⟨?_,?_,rfl⟩
 ·
  cases lo with
  | none=>simp [sliceBounds,HT.sIx]
  | some i =>
   simp only [sliceBounds,HT.sIx,Option.getD_none,show (1:Int) > 0 by decide,if_true]
   by_cases h:i <0
   ·
    simp only [h,if_true]<;>omega
   ·
    simp only [h,if_false]<;>omega
 ·
  cases hi with
  | none=>simp [sliceBounds,HT.sIx]
  | some i =>
   simp only [sliceBounds,HT.sIx,Option.getD_none,show (1:Int) > 0 by decide,if_true]
   by_cases h:i <0
   ·
    simp only [h,if_true]<;>omega
   ·
    simp only [h,if_false]<;>omega
theorem nX (its:List Value) (lo hi:Option Int):slicePick its.toArray lo hi none=((its.drop (HT.sIx its.length 0 lo)).take (HT.sIx its.length its.length hi - HT.sIx its.length 0 lo)).toArray:=by
 obtain ⟨h1,h2,h3⟩:=pR lo hi its.toArray.size
 unfold slicePick
 rw [h1,h2,h3]
 simp only [sliceRange_one,pick_run,List.size_toArray]<;>rfl
def rSlL (K:PySem.W.Frag):V→Option Int→Option Int→Hp→VK→Prop:=fun x lo hi H Q=>∃a xs,x=.ref a∧SqL K H a xs∧∀p,H p=none→Q (.ref p) (upd H p (.lst (cutV xs lo hi)))
theorem BY:SlR X (rSlL X.K):=by
 intro pins s σ H x v vl vu lo hi sl Q I rx hs pl pu h
 obtain ⟨a,xs,rfl,hx,q⟩:=h
 cases rx
 obtain ⟨its,r,ht,hz⟩:=I.list hx
 have hlen:=r.length
 refine ⟨"list",_,slot_list_getitem.lookup,ht.isList.typeIs,?_⟩
 refine wpAny_getItem_list_slice ht.isList hs pl pu .none (by simp) ?_ (by rw [List.size_toArray]<;>omega)
 rw [nX,← hlen]
 refine ⟨.ref s.heap.objs.size,_,I.laid (t':=s.toks) (o:=.lst (cutV xs lo hi)) (fun b ob q=>Heap.get?_push_of_some _ q) (Nat.le_refl _) ?_,rfl,q _ (I.hok.fresh (Nat.le_refl _))⟩
 exact ⟨Nat.le_trans (l5 xs lo hi) hz,_,0,(r.drop (HT.sIx xs.length 0 lo)).take (HT.sIx xs.length xs.length hi - HT.sIx xs.length 0 lo),Heap.get?_push_size _ rfl⟩
def m4:V→Bool
 | .non=>true
 | .bl _=>true
 | .int _=>true
 | .str _=>true
 | _=>false
def eqV:V→V→Bool
 | .non,.non=>true
 | .bl a,.bl b=>a == b
 | .bl a,.int b=>(if a then 1 else 0) == b
 | .int a,.bl b=>a == (if b then 1 else 0)
 | .int a,.int b=>a == b
 | .str a,.str b=>a == b
 | _,_=>false
theorem D9 {A:Around} {s:Shared} {y x:V} {u v:Value} (ry:RelV y u) (rx:RelV x v) (fy:m4 y=true) (fx:m4 x=true):SeqAt.EqAt A s u v (eqV y x):=by
 cases y with
 | non =>
  cases ry
  cases x with
  | non=>cases rx;exact SeqAt.EqAt.same _
  | bl b=>cases rx;exact SeqAt.EqAt.none_bool b
  | int b=>obtain ⟨t,rfl⟩:=rx;exact SeqAt.EqAt.none_int b t
  | str b=>obtain ⟨t,rfl⟩:=rx;exact SeqAt.EqAt.none_str b t
  | _=>exact absurd (show false=true from fx) Bool.false_ne_true
 | bl a =>
  cases ry
  cases x with
  | non=>cases rx;exact SeqAt.EqAt.bool_none a
  | bl b=>cases rx;exact SeqAt.EqAt.bool_bool a b
  | int b=>obtain ⟨t,rfl⟩:=rx;exact SeqAt.EqAt.bool_int a b t
  | str b=>obtain ⟨t,rfl⟩:=rx;exact SeqAt.EqAt.bool_str a b t
  | _=>exact absurd (show false=true from fx) Bool.false_ne_true
 | int a =>
  obtain ⟨t',rfl⟩:=ry
  cases x with
  | non=>cases rx;exact SeqAt.EqAt.int_none a t'
  | bl b=>cases rx;exact SeqAt.EqAt.int_bool a t' b
  | int b=>obtain ⟨t,rfl⟩:=rx;exact SeqAt.EqAt.int_int a t' b t
  | str b=>obtain ⟨t,rfl⟩:=rx;exact SeqAt.EqAt.int_str a t' b t
  | _=>exact absurd (show false=true from fx) Bool.false_ne_true
 | str a =>
  obtain ⟨t',rfl⟩:=ry
  cases x with
  | non=>cases rx;exact SeqAt.EqAt.str_none a t'
  | bl b=>cases rx;exact SeqAt.EqAt.str_bool a t' b
  | int b=>obtain ⟨t,rfl⟩:=rx;exact SeqAt.EqAt.str_int a t' b t
  | str b=>obtain ⟨t,rfl⟩:=rx;exact SeqAt.EqAt.str_str a t' b t
  | _=>exact absurd (show false=true from fx) Bool.false_ne_true
 | _=>exact absurd (show false=true from fy) Bool.false_ne_true
def eqU (x:V) (u:Value):Bool:=match u with
 | .none=>eqV .non x
 | .bool b=>eqV (.bl b) x
 | .int i _=>eqV (.int i) x
 | .str z _=>eqV (.str z) x
 | _=>false
theorem Bg {x y:V} {u:Value} (r:RelV y u) (f:m4 y=true):eqU x u=eqV y x:=by
 cases y with
 | non=>cases r;rfl
 | bl b=>cases r;rfl
 | int i=>obtain ⟨t,rfl⟩:=r;rfl
 | str z=>obtain ⟨t,rfl⟩:=r;rfl
 | _=>exact absurd (show false=true from f) Bool.false_ne_true
theorem l6 {x:V}:∀{xs:List V} {us:List Value},Vals xs us→xs.all m4=true→us.any (eqU x)=xs.any fun y=>eqV y x
 | _,_,.nil,_=>rfl
 | y::xs,u::us,.cons r t,f=>by
  rw [List.all_cons,Bool.and_eq_true] at f
  rw [List.any_cons,List.any_cons,Bg r f.1,l6 t f.2]
theorem jn {A:Around} {s:Shared} {x:V} {v:Value} (rx:RelV x v) (fx:m4 x=true):∀{xs:List V} {us:List Value},Vals xs us→xs.all m4=true→∀u∈us,SeqAt.EqAt A s u v (eqU x u)
 | _,_,.nil,_=>fun u hu=>by cases hu
 | y::xs,u::us,.cons r t,f=>fun u' hu=>by
  rw [List.all_cons,Bool.and_eq_true] at f
  rcases List.mem_cons.mp hu with rfl|hu
  ·
   rw [Bg r f.1];exact D9 r rx f.1 fx
  ·
   exact jn rx fx t f.2 u' hu
def inV (x:V) (xs:List V):Bool:=xs.any fun y=>eqV y x
def rIn (K:PySem.W.Frag) (neg:Bool):R2:=fun x y H Q=>∃p xs,y=.ref p∧(SqL K H p xs∨SqT K H p xs)∧m4 x=true∧xs.all m4=true∧Q (.bl (if neg then !inV x xs else inV x xs)) H
theorem wU:OpR X (compareOp .In) (rIn X.K false):=by
 intro pins s σ H x y v u Q I rx ry h
 obtain ⟨p,xs,rfl,hq,fx,fs,q⟩:=h
 cases ry
 rcases hq with hq|hq
 ·
  obtain ⟨its,r,pl,hz⟩:=I.list hq
  refine SeqAt.in_listAt (eqU x) pl.isList (fun w hw=>jn rx fx r fs w (by simpa using hw)) ⟨.bl _,H,I,rfl,?_⟩
  rw [show its.toArray.any (eqU x)=its.any (eqU x) by simp,l6 r fs]
  exact q
 ·
  obtain ⟨its,r,pl,hz⟩:=I.tuple hq
  refine SeqAt.in_tupleAt (eqU x) pl (fun w hw=>jn rx fx r fs w (by simpa using hw)) ⟨.bl _,H,I,rfl,?_⟩
  rw [show its.toArray.any (eqU x)=its.any (eqU x) by simp,l6 r fs]
  exact q
theorem pS:OpR X (compareOp .NotIn) (rIn X.K true):=by
 intro pins s σ H x y v u Q I rx ry h
 obtain ⟨p,xs,rfl,hq,fx,fs,q⟩:=h
 cases ry
 rcases hq with hq|hq
 ·
  obtain ⟨its,r,pl,hz⟩:=I.list hq
  refine SeqAt.notIn_listAt (eqU x) pl.isList (fun w hw=>jn rx fx r fs w (by simpa using hw)) ⟨.bl _,H,I,rfl,?_⟩
  rw [show its.toArray.any (eqU x)=its.any (eqU x) by simp,l6 r fs]
  exact q
 ·
  obtain ⟨its,r,pl,hz⟩:=I.tuple hq
  refine SeqAt.notIn_tupleAt (eqU x) pl (fun w hw=>jn rx fx r fs w (by simpa using hw)) ⟨.bl _,H,I,rfl,?_⟩
  rw [show its.toArray.any (eqU x)=its.any (eqU x) by simp,l6 r fs]
  exact q
theorem kR:fS X (.builtin "len") (fun xs H Q=>∃ p ys,xs=[.ref p]∧(SqL X.K H p ys∨SqT X.K H p ys)∧Q (.int ys.length) H):=by
 intro pins s σ H xs us Q I r h
 obtain ⟨p,ys,rfl,hq,q⟩:=h
 obtain ⟨u,rfl,rx⟩:=pM r
 cases rx
 have hn:=nz
 rcases hq with hq|hq
 ·
  obtain ⟨its,r',pl,hz⟩:=I.list hq
  have hlen:=r'.length
  exact Calls.call_len_list pl.isList (by simp only [List.size_toArray]<;>omega) ⟨.int ys.length,H,I.tok _,⟨s.toks+1,by rw [List.size_toArray,hlen]⟩,q⟩
 ·
  obtain ⟨its,r',pl,hz⟩:=I.tuple hq
  have hlen:=r'.length
  exact len_tuple pl (by simp only [List.size_toArray]<;>omega) ⟨.int ys.length,H,I.tok _,⟨s.toks+1,by rw [List.size_toArray,hlen]⟩,q⟩
theorem pT:fS X (.builtin "len") (fun xs H Q=>∃ z,xs=[.str z]∧z.length≤sizeLine∧Q (.int z.length) H):=by
 intro pins s σ H xs us Q I r h
 obtain ⟨z,rfl,hz,q⟩:=h
 obtain ⟨u,rfl,t,rfl⟩:=pM r
 have hn:=nz
 exact len_str (by omega) ⟨.int z.length,H,I.tok _,⟨_,rfl⟩,q⟩
theorem fS.or {f:Value} {r r':List V→Hp→VK→Prop} (h:fS X f r) (h':fS X f r'):fS X f (fun xs H Q=>r xs H Q∨r' xs H Q):=by
 intro pins s σ H xs us Q I rs q
 rcases q with q|q
 ·
  exact h pins s σ H xs us Q I rs q
 ·
  exact h' pins s σ H xs us Q I rs q
theorem pU:fS X (.type "list") (fun xs H Q=>∃ p ys,xs=[.ref p]∧(SqL X.K H p ys∨SqT X.K H p ys)∧∀ l,H l=none→Q (.ref l) (upd H l (.lst ys))):=by
 intro pins s σ H xs us Q I r h
 obtain ⟨p,ys,rfl,hq,q⟩:=h
 obtain ⟨u,rfl,rx⟩:=pM r
 cases rx
 have fin:∀(its:List Value),Vals ys its→ys.length≤sizeLine→∀(h':Heap) (c':Nat),(∀b o',s.heap.get? b=some o'→h'.get? b=some o') →
   h'.get? s.heap.objs.size=some { cls:=.type "list",dict:=none,data:=.seq its.toArray c',slots:=#[] }→EP X pins σ Q (.ref s.heap.objs.size) { s with heap:=h' }:=fun its r' hz h' c' kp e =>
  ⟨.ref s.heap.objs.size,_,I.laid (t':=s.toks) kp (Nat.le_refl _) (show cQ X.prog X.w _ h' _ (.lst ys) from ⟨hz,its,c',r',e⟩),rfl,q _ (I.hok.fresh (Nat.le_refl _))⟩
 rcases hq with hq|hq
 ·
  obtain ⟨its,r',pl,hz⟩:=I.list hq
  have hlen:=r'.length
  obtain ⟨o,ho,hc,n,hd⟩:=pl.isList
  exact call_list_seq p (.inl rfl) ho hc hd (fun h' c' kp e=>fin its r' hz h' c' kp e) (by simp only [List.size_toArray]<;>omega)
 ·
  obtain ⟨its,r',pl,hz⟩:=I.tuple hq
  have hlen:=r'.length
  obtain ⟨o,ho,hc,n,hd⟩:=pl
  exact call_list_seq p (.inr rfl) ho hc hd (fun h' c' kp e=>fin its r' hz h' c' kp e) (by simp only [List.size_toArray]<;>omega)
def tyV (K:PySem.W.Frag) (T:String) (x:V) (H:Hp):Prop:=match x with
 | .str _=>T="str"
 | .int _=>T="int"
 | .ref p=>(T="list"∧∃ xs,SqL K H p xs)∨(T="tuple"∧∃ o,K.lookup p=some o∧o.cls=.type "tuple"∧o.dict=none) ∨
   (T="dict"∧((∃ kvs,H p=some (.dK kvs))∨∃ kvs,H p=some (.dT kvs)))∨(T="set"∧∃ S n,H p=some (.set S n))
 | _=>False
theorem Bh {pins:List (Addr×Obj)} {σ:St} {H:Hp} {s:Shared} {T:String} {x:V} {v:Value} (I:Inv X pins σ H s) (r:RelV x v) (ty:tyV X.K T x H) :
  s.TypeIs v T∧∀a,v=.ref a→∃ob,s.heap.get? a=some ob∧ob.dict=none:=by
 cases x with
 | str z =>
  obtain ⟨t,rfl⟩:=r
  cases (show T="str" from ty)
  exact ⟨typeIs_str s z t,fun _ e=>nomatch e⟩
 | int i =>
  obtain ⟨t,rfl⟩:=r
  cases (show T="int" from ty)
  exact ⟨typeIs_int s i t,fun _ e=>nomatch e⟩
 | ref p =>
  cases r
  rcases ty with ⟨rfl,xs,hq⟩|⟨rfl,o,hk,hc,hd⟩|⟨rfl,hk⟩|⟨rfl,S,n,hk⟩
  ·
   obtain ⟨its,_,pl,_⟩:=I.list hq
   refine ⟨pl.isList.typeIs,fun a e=>?_⟩
   cases e
   obtain ⟨o,n,e,c,hd,_⟩:=pl
   exact ⟨o,e,hd⟩
  ·
   refine ⟨⟨o,I.kIn p o hk,hc⟩,fun a e=>?_⟩
   cases e
   exact ⟨o,I.kIn _ o hk,hd⟩
  ·
   have z:∃o,s.heap.get? p=some o∧o.ExactDict:=by
    rcases hk with ⟨kvs,hk⟩|⟨kvs,hk⟩
    ·
     obtain ⟨_,_,_,_,o,_,_,e,ex,_⟩:=I.hok p _ hk
     exact ⟨o,e,ex⟩
    ·
     obtain ⟨_,_,_,_,o,_,_,e,ex,_⟩:=I.hok p _ hk
     exact ⟨o,e,ex⟩
   obtain ⟨o,e,ex⟩:=z
   refine ⟨⟨o,e,ex.1⟩,fun a e2=>?_⟩
   cases e2
   exact ⟨o,e,ex.2.1⟩
  ·
   obtain ⟨o,_,_,_,e,ex,_⟩:=I.hok p _ hk
   refine ⟨⟨o,e,ex.1⟩,fun a e2=>?_⟩
   cases e2
   exact ⟨o,e,ex.2.1⟩
 | _=>exact False.elim ty
def tBM0 (K:PySem.W.Frag) (T:String) (r:V→List V→Hp→VK→Prop) (to:TE):TE:=fun σ H Q=>to σ H fun x H1=>tyV K T x H1∧r x [] H1 Q
def tBM (K:PySem.W.Frag) (T:String) (r:V→List V→Hp→VK→Prop) (to:TE) (t:TA):TE:=fun σ H Q=>to σ H fun x H1=>tyV K T x H1∧t σ H1 fun xs H2=>r x xs H2 Q
variable {o e:Expr} {es:List Expr} {to:TE} {t:TA} {name:Str} {apos cpos:Pos} {T id:String} {r:V→List V→Hp→VK→Prop}
theorem Ea (pa:PlainAttrs T) (slot:Slot T name id) (hty:typeOf (.builtin id)=pure (.type "method_descriptor")) (hm:MtR X id r) (ho:PE X o to)
  (hbase:attributeBase o name X.env (eval o X.env)=eval o X.env:=by rfl) (hline:(apos.endLine == cpos.line)=true:=by rfl):PE X (.Call (.Attribute o name apos) [] [] cpos) (tBM0 X.K T r to):=by
 intro pins s σ H Q I h
 refine wpAny_Call_method0_late hbase hline (thn (ho pins s σ H _ I h) fun v s1 ⟨x,H1,I1,r1,ty,q1⟩=>?_)
 obtain ⟨h1,h2⟩:=Bh I1 r1 ty
 exact ⟨T,id,pa,slot,hty,h1,h2,Calls.callWith_builtin rfl (PySem.evalArgs_none (hm pins s1 σ H1 x [] v [] Q I1 r1 .nil q1))⟩
theorem Eb (pa:PlainAttrs T) (slot:Slot T name id) (hty:typeOf (.builtin id)=pure (.type "method_descriptor")) (hm:MtR X id r) (ho:PE X o to) (ha:PA X (e::es) t)
  (hbase:attributeBase o name X.env (eval o X.env)=eval o X.env:=by rfl)
  (hfew:((backTo cpos (starEach (e::es) X.env)).all (fun x=>!x.1) && (backToKw cpos (keywordEach [] X.env)).all (fun x=>x.1.isSome)
   && decide ((e::es).length+([]:List Keyword).length+(if ([]:List Keyword).isEmpty then 0 else 1) <30))=true:=by rfl)
  (hline:(apos.endLine == cpos.line)=true:=by rfl) (hs:starEach (e::es) X.env=(false,eval e X.env)::starEach es X.env:=by rfl) (hplain:(backTo cpos (starEach es X.env)).any (·.1)=false:=by rfl) :
  PE X (.Call (.Attribute o name apos) (e::es) [] cpos) (tBM X.K T r to t):=by
 intro pins s σ H Q I h
 refine wpAny_Call_method_late hbase hfew hline rfl (thn (ho pins s σ H _ I h) fun v s1 ⟨x,H1,I1,r1,ty,q1⟩=>?_)
 obtain ⟨h1,h2⟩:=Bh I1 r1 ty
 refine ⟨T,id,pa,slot,hty,h1,h2,?_⟩
 have hA:=ha cpos pins s1 σ H1 _ I1 q1
 rw [hs] at hA ⊢
 refine Calls.callWith_builtin (by show (false || (backTo cpos (starEach es X.env)).any (·.1))=false;rw [hplain]<;>rfl) (Calls.evalArgs_plain ?_)
 exact thn hA fun us s2 ⟨vs,H2,I2,r2,q2⟩=>hm pins s2 σ H2 x vs v us Q I2 r1 r2 q2
/- xs.append(e),list.index on a module's tuple .. are MtR facts of 06m -/
end
end L2
namespace L2
open PySem PySem.Spec PyProof.Rows
def MtM (X:Cx) (id:String) (r:V→List V→Hp→VK→Prop):Prop :=
 ∀(pins:List (Addr×Obj)) (s:Shared) (σ:St) (H:Hp) (x:V) (xs:List V) (v:Value) (us:List Value) (Q:VK),Inv X pins σ H s→RelV x v→Vals xs us→r x xs H Q →
  wpAny (model X.prog X.w) X.A (call (.builtin id) (v::us)) (EP X pins σ Q) X.xe s
theorem Vals.one:∀{x:V} {us:List Value},Vals [x] us→∃u,us=[u]∧RelV x u
 | _,_,.cons r .nil=>⟨_,rfl,r⟩
theorem Vals.zero:∀{us:List Value},Vals [] us→us=[]
 | _,.nil=>rfl
theorem Vals.dropLast {xs:List V} {us:List Value} (h:Vals xs us):Vals xs.dropLast us.dropLast:=by
 induction h with
 | nil=>exact .nil
 | cons r t ih =>
  cases t with
  | nil=>exact .nil
  | cons q t'=>exact .cons r ih
theorem Vals.eraseIdx:∀{xs:List V} {us:List Value} (i:Nat),Vals xs us→Vals (xs.eraseIdx i) (us.eraseIdx i)
 | _,_,_,.nil=>.nil
 | _,_,0,.cons _ t=>t
 | _,_,i+1,.cons r t=>.cons r (Vals.eraseIdx i t)
theorem Vals.reverse {xs:List V} {us:List Value} (h:Vals xs us):Vals xs.reverse us.reverse:=by
 induction h with
 | nil=>exact .nil
 | cons r t ih=>rw [List.reverse_cons,List.reverse_cons];exact Vals.append ih (.cons r .nil)
theorem vz {α:Type} (l:List α):l.eraseIdx (l.length - 1)=l.dropLast:=by
 induction l with
 | nil=>rfl
 | cons a r ih =>
  cases r with
  | nil=>rfl
  | cons b r =>
   have e:(a::b::r).length - 1=((b::r).length - 1)+1:=by
    have h1:(a::b::r).length=r.length+2:=rfl
    have h2:(b::r).length=r.length+1:=rfl
    omega
   rw [e,List.eraseIdx_cons_succ,ih]
   all_goals rfl
section
variable {X:Cx} {pins:List (Addr×Obj)} {σ:St} {H:Hp} {s:Shared} {l b:Addr} {xs ys zs:List V}
theorem Inv.lset {its its':List Value} {n:Nat} {f:Array Value→Array Value} {t':Nat} (I:Inv X pins σ H s) (hH:H l=some (.lst xs))
  (e:s.heap.get? l=some { cls:=.type "list",data:=.seq its.toArray n }) (hf:f its.toArray=its'.toArray) (hv:Vals ys its') (hz:ys.length≤sizeLine) :
  Inv X pins σ (upd H l (.lst ys)) { s with heap:=s.heap.update l (Obj.mapSeq f),toks:=t' }:=by
 have q:=PySem.IsL.update e f
 rw [hf] at q
 refine I.write (x:=l) (e:=l) (by rw [hH];exact trivial) (.inl rfl) (fun b' u hb hu=>(Heap.get?_update_other s.heap (Obj.mapSeq f) (Ne.symm hb)).trans hu) ⟨_,q⟩ ?_
 exact ⟨hz,its',_,hv,q⟩
theorem Inv.lnew {its:List Value} {t':Nat} (I:Inv X pins σ H s) (hv:Vals ys its) (hz:ys.length≤sizeLine) :
  Inv X pins σ (upd H s.heap.objs.size (.lst ys)) { s with heap:=s.heap.push { cls:=.type "list",data:=.seq its.toArray },toks:=t' } :=
 I.laid (fun _ _ q=>Heap.get?_push_of_some _ q) (Nat.le_refl _) ⟨hz,its,0,hv,Heap.get?_push_size _ rfl⟩
theorem Inv.fresh (I:Inv X pins σ H s):H s.heap.objs.size=none:=I.hok.fresh (Nat.le_refl _)
theorem Inv.lstM (I:Inv X pins σ H s) (hH:H l=some (.lst xs)):xs.length≤sizeLine∧∃ (its:List Value) (n:Nat),Vals xs its∧xs.length=its.length∧s.heap.get? l=some { cls:=.type "list",data:=.seq its.toArray n }:=by
 obtain ⟨z,its,n,r,e⟩:=I.hok l _ hH
 exact ⟨z,its,n,r,r.length,e⟩
end
section
variable {X:Cx}
def BZ:V→List V→Hp→VK→Prop:=fun x vs H Q=>∃l xs y,x=.ref l∧vs=[y]∧H l=some (.lst xs)∧xs.length <sizeLine∧Q .non (upd H l (.lst (xs++[y])))
theorem pV:MtM X "list.append" BZ:=by
 intro pins s σ H x vs v us Q I rx rv h
 obtain ⟨l,xs,y,rfl,rfl,hH,hz,q⟩:=h
 cases rx
 obtain ⟨u,rfl,ru⟩:=rv.one
 obtain ⟨z,its,n,r,hl,e⟩:=I.lstM hH
 refine call_meets F.slot_list_append ⟨_,e,rfl⟩ F.entry_list_append (F.args_list_append_2 _ _) (PySem.list_append l its.toArray n u (by rw [List.size_toArray];omega)) ⟨e,?_⟩
 refine ⟨.non,_,I.lset (its':=its++[u]) hH e (by simp) (r.append (.cons ru .nil)) ?_,rfl,q⟩
 rw [List.length_append,List.length_singleton]
 omega
def rPop:V→List V→Hp→VK→Prop:=fun x vs H Q=>∃l xs y,x=.ref l∧vs=[]∧H l=some (.lst xs)∧xs[xs.length - 1]?=some y∧Q y (upd H l (.lst xs.dropLast))
theorem GO:MtM X "list.pop" rPop:=by
 intro pins s σ H x vs v us Q I rx rv h
 obtain ⟨l,xs,y,rfl,rfl,hH,hy,q⟩:=h
 cases rx
 have hus:=rv.zero
 subst hus
 obtain ⟨z,its,n,r,hl,e⟩:=I.lstM hH
 obtain ⟨u,hu,ru⟩:=r.get hy
 have hy':its.toArray[its.toArray.size - 1]?=some u:=by
  show its.toArray[its.length - 1]?=some u
  rw [← Array.getElem?_toList,← hl]
  exact hu
 refine call_meets F.slot_list_pop ⟨_,e,rfl⟩ F.entry_list_pop (F.args_list_pop_1 _) (MeetsSeq.list_pop_last l its.toArray n u hy' (by rw [List.size_toArray];omega)) ⟨e,?_⟩
 refine ⟨y,_,I.lset (its':=its.dropLast) hH e ?_ r.dropLast ?_,ru,q⟩
 ·
  show its.toArray.eraseIdxIfInBounds (its.toArray.size - 1)=its.dropLast.toArray
  rw [List.size_toArray,List.eraseIdxIfInBounds_toArray,vz]
 ·
  rw [List.length_dropLast]
  omega
def Ec:V→List V→Hp→VK→Prop:=fun x vs H Q=>∃l xs,x=.ref l∧vs=[]∧H l=some (.lst xs)∧Q .non (upd H l (.lst []))
theorem zF:MtM X "list.clear" Ec:=by
 intro pins s σ H x vs v us Q I rx rv h
 obtain ⟨l,xs,rfl,rfl,hH,q⟩:=h
 cases rx
 have hus:=rv.zero
 subst hus
 obtain ⟨z,its,n,r,hl,e⟩:=I.lstM hH
 refine call_meets F.slot_list_clear ⟨_,e,rfl⟩ F.entry_list_clear (F.args_list_clear_1 _) (AutoSeq1.list_clear_list_0 l its.toArray n (by rw [List.size_toArray];omega)) ⟨e,?_⟩
 exact ⟨.non,_,I.lset (its':=[]) (ys:=[]) hH e rfl .nil (Nat.zero_le _),rfl,q⟩
end
section
variable {prog:Program} {w:World} {A:Around} {E:Value→Shared→Prop} {s:Shared}
end
section
variable {X:Cx}
end
end L2
namespace Att
open PySem PySem.W PySem.Calls PyProof.Rows
theorem l7 {P:Params} {h:Heap}:∀(ns:List Int) (vs:List Value),WellAll P h vs (ns.map WData.int)→IntsAre vs ns:=by
 intro ns
 induction ns with
 | nil =>
  intro vs w
  rw [List.map_nil] at w
  cases w
  exact .nil
 | cons n ns ih =>
  intro vs w
  rw [List.map_cons] at w
  cases w with
  | cons a b =>
   cases a
   exact .cons _ _ (ih _ b)
theorem wV {l:OpenLaw} {n:Nat} (hn:l.most=some n) {P:Params} {h:Heap} {args:List WData} {vals:List Value}
  (hpre:l.row.toRowW.claim.pre args=true) (hwl:WellAll P h vals args) :
  ∃ a vs ns,vals=[Value.ref a]∧args=[WData.list (ns.map WData.int)]∧h.get? a=some { cls:=.type "list",data:=.seq vs.toArray }∧IntsAre vs ns∧ns.length≤n:=by
 have hsh:WShape.hasAll [] args [.list .int]=true:=(pre_splitW hpre).1
 have hc:l.pre.holds [] { args:=args }=true:=(pre_splitW hpre).2
 obtain ⟨d,r,rfl,h1,h2⟩:=hasAllW_cons hsh
 obtain rfl:=hasAllW_nil h2
 obtain ⟨xs,rfl,h3⟩:=hasW_list h1
 obtain ⟨ns,rfl⟩:=items_int h3
 have hlen:ns.length≤n:=by
  unfold OpenLaw.pre at hc
  have h4:(WTm.not (.lt (.lit (.int (n:Int))) (.len (.arg 0)))).holds [] { args:=[.list (ns.map .int)] }=true:=by
   have h4:=(holds_andW hc).1
   rw [hn] at h4
   exact h4
  have h5:=condW_of h4 (w_not (w_lt w_lit (w_len_list (w_arg rfl))))
  rw [List.length_map] at h5
  refine Nat.le_of_not_lt fun q=>?_
  have q':(n:Int) <((ns.length:Nat):Int):=by omega
  first
   | (rw [decide_eq_true q'] at h5;exact absurd h5 (by decide))
   | (simp at h5;omega)
 cases hwl with
 | cons w1 w2 =>
  cases w2
  cases w1 with
  | list ho hall=>exact ⟨_,_,ns,rfl,rfl,ho,l7 ns _ hall,hlen⟩
theorem wW (l:OpenLaw) (args:List WData):l.row.toRowW.claim.post args (.bool true) args=true :=
 postW_of (r:=l.row.toRowW) (X:=(true == true))
  (show WShape.has [] (.bool true) .bool=true by first|rfl|decide|simp [WShape.has,WShape.arms,WShape.armsAll])
  (show (WTm.eq .res (.lit (.bool true))).value [] { args:=args,res:=some (.bool true),after:=args }=some (.bool (true == true)) from w_eq_bool (w_res rfl) w_lit) rfl
theorem attach_call {l:OpenLaw} {n:Nat} {q:Program} {loose:List Str} {XP:(Str→Option Value)→Heap→Prop} {YP:World→Heap→Prop} {d:DefRec}
  (hn:l.most=some n) (hdf:d.params.defaults=[])
  (call:∀(w:World) (s₀ s₁:Shared) (mg mb:Str→Option Value) (fa:Addr) (o:Obj) (pm cd doc:Value) (a:Addr) (vs:List Value) (ns:List Int),
   Ground q loose [] XP w s₀ mg mb s₁.heap→YP w s₁.heap →
   s₁.heap.get? fa=some o→o.data=.func (docDef d.name d.params d.body d.scope pm cd doc)→s₁.heap.CodeRec cd d.name→mg d.name=some (.ref fa) →
   s₁.heap.get? a=some { cls:=.type "list",data:=.seq vs.toArray }→IntsAre vs ns→ns.length≤n→s₁.gens=#[] →
   codeAny (model l.prog w) callerA (.call (.ref fa) ⟨[.ref a],[]⟩) (fun r s'=>r=.ok (.ret (.bool true))∧OldK s₁.heap s'.heap∧s'.os=s₁.os∧AllBare s'.gens) s₁) :
  WalkO q loose XP YP l.row.toRowW d [] (fun f vs=>PySem.call f vs):=by
 intro w s₀ s₁ mg mb G Y fa o pm cd doc dV kV ho hd hcd hD hmg hg args vals as hpre hlay hrd hwl hlo
 obtain rfl:dV=.none:=Dflts.none hD hdf
 obtain rfl:kV=.none:=Dflts.noKw hD
 obtain ⟨a,vs,ns,rfl,rfl,hobj,hints,hlen⟩:=wV hn hpre hwl
 refine enter_call (codeAny_mono (call w s₀ s₁ mg mb fa o pm cd doc a vs ns G Y ho (fd_plain hd) hcd hmg hobj hints hlen hg) fun r s' hq=>?_)
 obtain ⟨rfl,h2,h3,h4⟩:=hq
 exact ⟨.inl ⟨.bool true,.bool true,[],rfl,fun _=>rfl,.bool true,wW l _,fun _=>⟨List.Pairwise.nil,fun _ hm=>(nomatch hm)⟩⟩,h2,h3,h4⟩
section
variable {prog:Program} {w:World} {A:Around} {E:Value→Shared→Prop} {s:Shared} {K:Frag}
def GP (h:Heap) (L d:Addr):List (Addr×Obj):=(List.range h.objs.size).filterMap fun a=>if a=L∨a=d then none else (h.get? a).map fun o=>(a,o)
end
end Att
namespace L2
open PySem PySem.Spec PyProof.Rows
theorem pW:∀{vs:List Value} {ns:List Int},IntsAre vs ns→Vals (ns.map V.int) vs
 | _,_,.nil=>.nil
 | _,_,.cons n t h=>.cons ⟨t,rfl⟩ (pW h)
def Only (H:Hp):Prop:=∀b,H b=none∨∃o xs,H b=some (.frz o (.lst xs))
theorem zG {P:Program} {w:World} {K:PySem.W.Frag} {mg mb:Str→Option Value} {CX:CXT} {k:Nat} {fa a:Addr} {fd:FuncData} {x:Str} {sp:Sp} {s₁:Shared} {vs:List Value} {ns:List Int}
  (KX:K.In s₁.heap) (hns:s₁.heap.Ns mainGlobals mg) (hb:s₁.heap.Ns builtinsNs mb) (hbb:∀ x:Str,x≠"__name__"→mb x=bootBuiltins x) (hlim:s₁.heap.NoLimit) (hg:s₁.gens=#[])
  (ha:s₁.heap.get? a=some { cls:=.type "list",data:=.seq vs.toArray }) (hi:IntsAre vs ns) (hl:ns.length≤sizeLine) (hr:Room k callerA)
  (F:∀base:Heap,K.In base→base.Ns mainGlobals mg→FnOk P w K mg base CX k fa fd [x] sp) (hbind:∀(s:Shared) (u:Value),BindsTo s fd ⟨[u],[]⟩ [(x,u)])
  (hsp:∀H:Hp,Only H→SqL K H a (ns.map V.int)→sp [.ref a] H (fun v _=>v=.bl true) fun _ _ _=>False)
  (hCX:∀H e s',CX [] H s₁ (fun _ _ _=>False) e s'→False) :
  codeAny (model P w) callerA (.call (.ref fa) ⟨[.ref a],[]⟩) (fun r s'=>r=.ok (.ret (.bool true))∧OldK s₁.heap s'.heap∧s'.os=s₁.os∧AllBare s'.gens) s₁:=by
 have rv:=pW hi
 have lenV:=hi.length
 have core:∀H:Hp,Only H→SqL K H a (ns.map V.int)→HOk P w H s₁.heap→(∀b,H b≠none→b=a)→(H a≠none→K.lookup a=none) →
   codeAny (model P w) callerA (.call (.ref fa) ⟨[.ref a],[]⟩) (fun r s'=>r=.ok (.ret (.bool true))∧OldK s₁.heap s'.heap∧s'.os=s₁.os∧AllBare s'.gens) s₁:=by
  intro H hO hS hok hA hK
  have base_of:∀{b:Addr} {o:Obj},s₁.heap.get? b=some o→H b=none→(hidT s₁.heap H).get? b=some o:=fun e n=>zv e n
  have noA:∀{b:Addr} {o:Obj} {es:Array DictEntry} {ep:Nat},s₁.heap.get? b=some o→o.data=.dict es ep→H b=none:=fun {b o es ep} e d=>by
   cases q:H b with
   | none=>rfl
   | some u =>
    have e':b=a:=hA b (by rw [q];simp)
    subst e'
    rw [ha] at e;cases e
    have d':Data.seq vs.toArray _=Data.dict es ep:=d
    cases d'
  have nsK:∀{b:Addr} {m:Str→Option Value},s₁.heap.Ns b m→(hidT s₁.heap H).Ns b m:=fun {b m} ⟨o,es,ep,e,d,r⟩=>⟨o,es,ep,base_of e (noA e d),d,r⟩
  have hKb:K.In (hidT s₁.heap H):=fun b o e=>base_of (KX b o e) (by
   cases q:H b with
   | none=>rfl
   | some u =>
    have e':b=a:=hA b (by rw [q];simp)
    subst e'
    rw [hK (by rw [q];simp)] at e;cases e)
  have hM:Mod K mg (hidT s₁.heap H):=⟨hKb,nsK hns,⟨mb,nsK hb,hbb⟩,let ⟨mc,h1,h2⟩:=hlim;⟨mc,nsK h1,h2⟩⟩
  have e0:Env0 P w K mg (hidT s₁.heap H) callerA [] s₁ H:=⟨rfl,hM,fun b o e=>BI e,Nat.le_of_eq (wo _ _),trivial,fun b hb=>absurd (show b∈([]:List Addr) from hb) (by simp),hok,.of_eq hg⟩
  refine codeAny_mono ((F _ hKb (nsK hns)).run callerA [] s₁ H ⟨[.ref a],[]⟩ [.ref a] [.ref a] _ _ hr e0 (hbind s₁ (.ref a)) (.cons rfl .nil) (hsp H hO hS)) fun r s' h=>?_
  cases r with
  | error e=>exact (hCX H e s' h).elim
  | ok fl =>
   cases fl with
   | next=>exact False.elim h
   | brk=>exact False.elim h
   | cont=>exact False.elim h
   | ret u =>
    obtain ⟨v,H',os,bare,un,hok',r',q⟩:=h
    have q':v=.bl true:=q
    subst q'
    obtain rfl:u=Value.bool true:=r'
    refine ⟨rfl,OldK.of_keep fun b o e=>?_,os,bare⟩
    cases q:H b with
    | none=>exact un.keep b o e q (by intro z;exact absurd (show b∈([]:List Addr) from z) (by simp)) (by simp)
    | some u =>
     rcases hO b with z|⟨ob,xs,z⟩
     ·
      rw [q] at z;cases z
     ·
      have z2:=un.frzs b ob _ z
      obtain ⟨e1,_⟩:=hok b _ z
      obtain ⟨e2,_⟩:=hok' b _ z2
      rw [e] at e1;cases e1
      exact e2
 cases hk:K.lookup a with
 | some o =>
  have e:=KX a o hk
  rw [ha] at e
  cases e
  refine core (fun _=>none) (fun _=>.inl rfl) (.inr ⟨_,vs.toArray,_,hk,rfl,rfl,rfl,by rw [List.size_toArray,lenV];exact hl,by simpa using rv⟩) (fun b u z=>by have z':(none:Option HO)=some u:=z;cases z') (fun b z=>absurd rfl z) fun z=>absurd rfl z
 | none =>
  refine core (fun b=>if b=a then some (.frz { cls:=.type "list",data:=.seq vs.toArray } (.lst (ns.map V.int))) else none) (fun b=>?_) (.inl (.inr ⟨{ cls:=.type "list",data:=.seq vs.toArray },if_pos rfl⟩)) (fun b u z=>?_) (fun b z=>?_) fun _=>hk
  ·
   by_cases hb:b=a
   ·
    exact .inr ⟨_,_,if_pos hb⟩
   ·
    exact .inl (if_neg hb)
  ·
   by_cases hb:b=a
   ·
    have z':=(if_pos hb).symm.trans z
    cases z'
    subst hb
    exact ⟨ha,by rw [List.length_map];exact hl,vs,_,rv,ha⟩
   ·
    have z':=(if_neg hb).symm.trans z
    cases z'
  ·
   by_cases hb:b=a
   ·
    exact hb
   ·
    exact absurd (if_neg hb) z
end L2
namespace L2
open PySem PySem.Spec PyProof.Rows
theorem walk_of {l:PySem.W.OpenLaw} {n k:Nat} {q:Program} {loose:List Str} {XP:(Str→Option Value)→Heap→Prop} {YP:World→Heap→Prop} {d:DefRec} {K:Params→PySem.W.Frag} {CX:World→CXT} {sp:World→Sp} {x:Str}
  (hn:l.most=some n) (hn2:n≤sizeLine) (hdf:d.params.defaults=[]) (hr:Room k callerA)
  (hY:∀(w:World) (h:Heap),YP w h→(K w.params).In h)
  (F:∀(w:World) (mg:Str→Option Value) (fa:Addr) (h:Heap),(K w.params).In h→h.Ns mainGlobals mg→mg d.name=some (.ref fa) →
   ∃fd:FuncData,(∀(s:Shared) (u:Value),BindsTo s fd ⟨[u],[]⟩ [(x,u)]) ∧
    ∀base:Heap,(K w.params).In base→base.Ns mainGlobals mg→FnOk l.prog w (K w.params) mg base (CX w) k fa fd [x] (sp w))
  (hsp:∀(w:World) (H:Hp) (a:Addr) (ns:List Int),ns.length≤n→Only H→SqL (K w.params) H a (ns.map V.int)→sp w [.ref a] H (fun v _=>v=.bl true) fun _ _ _=>False)
  (hCX:∀(w:World) (H:Hp) (s:Shared) (e:Value) (s':Shared),CX w [] H s (fun _ _ _=>False) e s'→False) :
  PySem.W.WalkO q loose XP YP l.row.toRowW d [] (fun f vs=>PySem.call f vs):=by
 refine Att.attach_call hn hdf fun w s₀ s₁ mg mb fa o pm cd doc a vs ns G Y ho hd hcd hmg hobj hints hlen hg=>?_
 have KX:=hY w _ Y
 obtain ⟨fd,hb,hF⟩:=F w mg fa _ KX G.T.g hmg
 exact zG KX G.T.g G.T.b G.T.builtins G.T.nolimit hg hobj hints (Nat.le_trans hlen hn2) hr hF hb (fun H hO hS=>hsp w H a ns hlen hO hS) fun H e s'=>hCX w H s₁ e s'
end L2
namespace L2
open PySem PySem.Spec PyProof.Rows
def fT (s:Stmt):Arguments:=match s with
 | .FunctionDef _ a _ _ _ _ _ _ _ _=>a
 | _=>{ posonlyargs:=[],args:=[],vararg:=none,kwonlyargs:=[],kw_defaults:=[],kwarg:=none,defaults:=[] }
def dC (s:Stmt):List Stmt:=match s with
 | .FunctionDef _ _ b _ _ _ _ _ _ _=>b
 | _=>[]
def aq (s:Stmt):Scope:=match s with
 | .FunctionDef _ _ _ _ _ _ sc _ _ _=>sc
 | _=>{ kind:=.function,names:=[],isGenerator:=false,isCoroutine:=false }
abbrev CX0:CXT:=fun _ _ _ _ _ _=>False
abbrev E0:XK:=fun _ _ _=>False
theorem B0 {X:Cx}:t9 CX0 X E0:=fun _ _ _ _ _ _ _ h=>h.elim
structure Fun (K:PySem.W.Frag) (x qual:Str) (st:Stmt) (f:Addr) (fd:FuncData):Prop where
 ex:∃(oc:Value) (od:Option Addr) (kV doc pm:Value) (an:Option Addr) (cdv ct:Value) (osl:Array (Option Value)),
  fd=PySem.W.fnOf x qual (fT st) (dC st) (aq st) .none kV doc pm an cdv ct∧K.lookup f=some ⟨oc,od,.func fd,osl⟩∧PySem.W.codeIn K cdv qual=true
 kp:PySem.W.keepIn K (.ref f)=true
section
variable {P:Program} {w:World} {K:PySem.W.Frag} {mg:Str→Option Value} {base:Heap}
theorem Fun.ok {x qual:Str} {st:Stmt} {f:Addr} {fd:FuncData} {N ps:List Str} {k:Nat} {sp:Sp} (F:Fun K x qual st f fd) (S:aC N ps (aq st)) (len:∀vs H Q E,sp vs H Q E→vs.length=ps.length)
  (hbody:∀(cdv:Value) (A:Around) (outer:List Env) (s:Shared) (H:Hp) (vs:List V) (Q:VK) (E:XK),Room k (A.deeper (envOfC qual (aq st) s.heap.objs.size f cdv))→sp vs H Q E →
   ∃t,PSs (cxOf CX0 P w K mg base N qual (aq st) f cdv A outer s H E).nox (dC st) t∧t { nx:=fun _ H'=>Q .non H',rt:=Q } (lx N vs) H):FnOk P w K mg base CX0 (k+1) f fd ps sp:=by
 obtain ⟨oc,od,kV,doc,pm,an,cdv,ct,osl,rfl,lk,hcd⟩:=F.ex
 refine D4 lk hcd S len fun A outer s H vs Q E hr hsp=>?_
 obtain ⟨t,h,q⟩:=hbody cdv A outer s H vs Q E hr hsp
 exact ⟨t,h.nox,q⟩
theorem Fun.binds {x qual:Str} {st:Stmt} {f:Addr} {fd:FuncData} {ps:List Str} (F:Fun K x qual st f fd)
  (h:∀(kV doc pm:Value) (an:Option Addr) (cdv ct:Value) (us:List Value),us.length=ps.length→bindArgs (PySem.W.fnOf x qual (fT st) (dC st) (aq st) .none kV doc pm an cdv ct) ⟨us,[]⟩=pure (ps.zip us)):ka K fd ps []:=by
 obtain ⟨oc,od,kV,doc,pm,an,cdv,ct,osl,rfl,lk,hcd⟩:=F.ex
 exact .all (h kV doc pm an cdv ct)
theorem nC {x qual:Str} {st:Stmt} {f:Addr} {oc:Value} {od an:Option Addr} {osl:Array (Option Value)} {kV doc pm cdv ct:Value} (l:K.lookup f=some ⟨oc,od,.func (PySem.W.fnOf x qual (fT st) (dC st) (aq st) .none kV doc pm an cdv ct),osl⟩)
  (c:PySem.W.codeIn K cdv qual=true) (k:PySem.W.keepIn K (.ref f)=true):Fun K x qual st f (PySem.W.fnOf x qual (fT st) (dC st) (aq st) .none kV doc pm an cdv ct):=⟨⟨oc,od,kV,doc,pm,an,cdv,ct,osl,rfl,l,c⟩,k⟩
end
section
variable {X:Cx}
theorem pv (i:Nat) {x:Str} {pos:Pos} (hN:X.N[i]?=some x:=by rfl) (hv:Vis X.env.scope x:=by first | exact Or.inl rfl | exact Or.inr (Or.inl rfl) | exact Or.inr (Or.inr rfl)) (hd:(x == ("__debug__" : Str))=false:=by decide)
  (hcd:(x == ("__classdict__" : Str))=false:=by decide):PE X (.Name x pos) (tVar i):=dB hN hv hd hcd
end
def Same (H H':Hp):Prop:=∀b o,H b=some o→H' b=some o
theorem Same.trans {H H1 H2:Hp} (a:Same H H1) (b:Same H1 H2):Same H H2:=fun c o h=>b c o (a c o h)
theorem Same.free {H H':Hp} (e:Same H H') {l:Addr} (h:H' l=Option.none):H l=Option.none:=by
 cases q:H l with
 | none=>rfl
 | some o =>
  rw [e l o q] at h
  cases h
end L2
namespace L2
open PySem PySem.Spec PyProof.Rows
inductive D where
 | non|bl (b:Bool)|int (i:Int)|str (x:Str)|tup (xs:List D)|lst (xs:List D)|dct (n:Nat)|exc (c:Str) (ns:List Str) (xs:List D)
def SqZ (K:PySem.W.Frag) (H:Hp) (a:Addr) (xs:List V):Prop :=
 (∃o,H a=some (.frz o (.lst xs))) ∨
  ∃ (o:Obj) (its:Array Value) (n:Nat),K.lookup a=some o∧o.cls=.type "list"∧o.dict=none∧o.data=.seq its n∧its.size≤sizeLine∧Vals xs its.toList
theorem SqZ.l {K:PySem.W.Frag} {H:Hp} {a:Addr} {xs:List V} (h:SqZ K H a xs):SqL K H a xs:=by
 rcases h with ⟨o,h⟩|h
 ·
  exact .inl (.inr ⟨o,h⟩)
 ·
  exact .inr h
def zH:HO→Prop
 | .frz _ u=>zH u
 | .ins _ _ _=>False
 | _=>True
def fU (K:PySem.W.Frag) (c:Str) (C:Addr):Bool:=match PySem.W.clsIn K C,PySem.W.nsIn K mainGlobals "LoadError" with
 | some cd,some (some (.ref L))=>cd.name == c && cd.hasDict && cd.mro == [.ref C,.ref L,.type "ValueError",.type "Exception",.type "BaseException",.type "object"] && (PySem.W.clsIn K L).any (fun k=>k.name == ("LoadError" : Str)) &&
  PySem.W.findIn K (.ref C) "__getattribute__" == some (some (.builtin "BaseException.__getattribute__")) && PySem.W.findIn K (.ref C) "__getattr__" == some none && PySem.W.findIn K (.ref C) "__class__" == some (some (.builtin "object.__class__")) &&
  PySem.W.findIn K (.ref C) "__setattr__" == some (some (.builtin "object.__setattr__")) && PySem.W.typeIn K (.ref C) == some (.type "type") && PySem.W.nsIn K mainGlobals c == some (some (.ref C))
 | _,_=>false
def XF (H:Hp) (dx:Option Addr) (ns:List Str) (vs:List V):Prop:=(ns=[]∧vs=[]∧dx=none)∨∃d od,dx=some d∧H d=some (.frz od (.xd (ns.zip vs)))∧ns.length=vs.length
mutual
inductive Rep (K:PySem.W.Frag) (H:Hp):V→D→Prop where
 | non:Rep K H .non .non
 | bl (b:Bool):Rep K H (.bl b) (.bl b)
 | int (i:Int):Rep K H (.int i) (.int i)
 | str (x:Str):Rep K H (.str x) (.str x)
 | tup {a:Addr} {vs:List V} {ds:List D} (h:SqT K H a vs) (r:Reps K H vs ds):Rep K H (.ref a) (.tup ds)
 | lst {a:Addr} {vs:List V} {ds:List D} (h:SqZ K H a vs) (r:Reps K H vs ds):Rep K H (.ref a) (.lst ds)
 | dct {a:Addr} {o:Obj} {kvs:List (Key×V)} (h:H a=some (.frz o (.dK kvs))):Rep K H (.ref a) (.dct kvs.length)
 | exc {a:Addr} {o:Obj} {u:HO} {c:Str} {C:Addr} {ns:List Str} {vs:List V} {ds:List D} (h:H a=some (.frz o u)) (hv:zH u) (hc:o.cls=.ref C) (hn:PySem.W.notCls o=true) (hs:fU K c C=true) (hq:∀f∈ns,PySem.W.findIn K (.ref C) f=some none) (hf:XF H o.dict ns vs) (r:Reps K H vs ds):Rep K H (.ref a) (.exc c ns ds)
inductive Reps (K:PySem.W.Frag) (H:Hp):List V→List D→Prop where
 | nil:Reps K H [] []
 | cons {v:V} {d:D} {vs:List V} {ds:List D} (h:Rep K H v d) (t:Reps K H vs ds):Reps K H (v::vs) (d::ds)
end
def Pers:HO→Prop
 | .tup _=>True
 | .frz _ _=>True
 | _=>False
def Pres (H H':Hp):Prop:=∀b o,Pers o→H b=some o→H' b=some o
theorem SqT.pres {K:PySem.W.Frag} {H H':Hp} {a:Addr} {xs:List V} (p:Pres H H') (h:SqT K H a xs):SqT K H' a xs:=by
 rcases h with (h|⟨o,h⟩)|h
 ·
  exact .inl (.inl (p _ _ True.intro h))
 ·
  exact .inl (.inr ⟨o,p _ _ True.intro h⟩)
 ·
  exact .inr h
theorem SqZ.pres {K:PySem.W.Frag} {H H':Hp} {a:Addr} {xs:List V} (p:Pres H H') (h:SqZ K H a xs):SqZ K H' a xs:=by
 rcases h with ⟨o,h⟩|h
 ·
  exact .inl ⟨o,p _ _ True.intro h⟩
 ·
  exact .inr h
theorem XF.pres {H H':Hp} (p:Pres H H') {dx:Option Addr} {ns:List Str} {vs:List V} (h:XF H dx ns vs):XF H' dx ns vs:=by
 rcases h with h|⟨d,od,e,h,l⟩
 ·
  exact .inl h
 ·
  exact .inr ⟨d,od,e,p _ _ True.intro h,l⟩
mutual
theorem Rep.pres {K:PySem.W.Frag} {H H':Hp} (p:Pres H H'):∀{v:V} {d:D},Rep K H v d→Rep K H' v d
 | _,_,.non=>.non
 | _,_,.bl b=>.bl b
 | _,_,.int i=>.int i
 | _,_,.str x=>.str x
 | _,_,.tup h r=>.tup (h.pres p) (Reps.pres p r)
 | _,_,.lst h r=>.lst (h.pres p) (Reps.pres p r)
 | _,_,.dct h=>.dct (p _ _ True.intro h)
 | _,_,.exc h hv hc hn hs hq hf r=>.exc (p _ _ True.intro h) hv hc hn hs hq (hf.pres p) (Reps.pres p r)
theorem Reps.pres {K:PySem.W.Frag} {H H':Hp} (p:Pres H H'):∀{vs:List V} {ds:List D},Reps K H vs ds→Reps K H' vs ds
 | _,_,.nil=>.nil
 | _,_,.cons h t=>.cons (Rep.pres p h) (Reps.pres p t)
end
theorem Reps.length {K:PySem.W.Frag} {H:Hp}:∀{vs:List V} {ds:List D},Reps K H vs ds→vs.length=ds.length
 | _,_,.nil=>rfl
 | _,_,.cons _ t=>by simp [Reps.length t]
theorem Reps.get {K:PySem.W.Frag} {H:Hp}:∀{vs:List V} {ds:List D} {i:Nat} {d:D},Reps K H vs ds→ds[i]?=some d→∃v,vs[i]?=some v∧Rep K H v d
 | _,_,_,_,.nil,e=>by simp at e
 | _,_,0,_,.cons h _,e=>by simp at e;subst e;exact ⟨_,rfl,h⟩
 | _,_,i+1,d,.cons _ t,e=>by
  obtain ⟨v,h1,h2⟩:=Reps.get (i:=i) (d:=d) t (by simpa using e)
  exact ⟨v,by simpa using h1,h2⟩
theorem Reps.set {K:PySem.W.Frag} {H:Hp} {v:V} {d:D} (r:Rep K H v d):∀{vs:List V} {ds:List D} (i:Nat),Reps K H vs ds→Reps K H (vs.set i v) (ds.set i d)
 | _,_,_,.nil=>.nil
 | _,_,0,.cons _ t=>.cons r t
 | _,_,i+1,.cons h t=>.cons h (Reps.set r i t)
theorem Reps.append {K:PySem.W.Frag} {H:Hp}:∀{vs us:List V} {ds es:List D},Reps K H vs ds→Reps K H us es→Reps K H (vs++us) (ds++es)
 | _,_,_,_,.nil,s=>s
 | _,_,_,_,.cons h t,s=>.cons h (Reps.append t s)
theorem Reps.take {K:PySem.W.Frag} {H:Hp}:∀{vs:List V} {ds:List D} (n:Nat),Reps K H vs ds→Reps K H (vs.take n) (ds.take n)
 | _,_,0,_=>.nil
 | _,_,_+1,.nil=>.nil
 | _,_,n+1,.cons h t=>.cons h (Reps.take n t)
theorem Reps.drop {K:PySem.W.Frag} {H:Hp}:∀{vs:List V} {ds:List D} (n:Nat),Reps K H vs ds→Reps K H (vs.drop n) (ds.drop n)
 | _,_,0,r=>r
 | _,_,_+1,.nil=>.nil
 | _,_,n+1,.cons _ t=>Reps.drop n t
theorem Reps.reverse {K:PySem.W.Frag} {H:Hp}:∀{vs:List V} {ds:List D},Reps K H vs ds→Reps K H vs.reverse ds.reverse
 | _,_,.nil=>.nil
 | _,_,.cons h t=>by
  rw [List.reverse_cons,List.reverse_cons]
  exact (Reps.reverse t).append (.cons h .nil)
inductive L where
 | un|d (x:D)|own (a:Addr) (xs:List D)|bx (k:Option Addr) (ls:List L)|dic (a:Addr) (kvs:List (Key×D))
abbrev Ev:=List L
mutual
def aT:L→List Addr
 | .un=>[]
 | .d _=>[]
 | .own a _=>[a]
 | .bx k ls=>k.toList++cR ls
 | .dic a _=>[a]
def cR:List L→List Addr
 | []=>[]
 | l::ls=>aT l++cR ls
end
def owns (ρ:Ev):List Addr:=ρ.flatMap aT
theorem ck:∀ls:List L,cR ls=owns ls
 | []=>rfl
 | l::ls=>by rw [cR,ck ls];rfl
mutual
def aM (K:PySem.W.Frag) (H:Hp) (s:Option V):L→Prop
 | .un=>True
 | .d x=>∃v,s=some v∧Rep K H v x
 | .own a xs=>s=some (.ref a)∧∃vs,H a=some (.lst vs)∧Reps K H vs xs
 | .bx none ls=>∃a vs,s=some (.ref a)∧SqT K H a vs∧bD K H vs ls
 | .bx (some a) ls=>s=some (.ref a)∧∃vs,H a=some (.lst vs)∧bD K H vs ls
 | .dic a kvs=>s=some (.ref a)∧∃vs,H a=some (.dK vs)∧Paired (fun (p:Key×V) (q:Key×D)=>p.1=q.1∧Rep K H p.2 q.2) vs kvs
def bD (K:PySem.W.Frag) (H:Hp) (vs:List V):List L→Prop
 | []=>vs=[]
 | l::ls=>∃v us,vs=v::us∧aM K H (some v) l∧bD K H us ls
end
mutual
theorem aM.pres {K:PySem.W.Frag} {H H':Hp} (p:Pres H H'):∀{s:Option V} (l:L),(∀a∈aT l,H' a=H a)→aM K H s l→aM K H' s l
 | _,.un,_,_=>by simp only [aM]
 | _,.d x,_,h=>by
  simp only [aM] at h ⊢
  obtain ⟨v,e,r⟩:=h
  exact ⟨v,e,r.pres p⟩
 | _,.own a xs,q,h=>by
  simp only [aM] at h ⊢
  obtain ⟨e,vs,ha,r⟩:=h
  exact ⟨e,vs,(q a (by simp [aT])).trans ha,r.pres p⟩
 | _,.bx none ls,q,h=>by
  simp only [aM] at h ⊢
  obtain ⟨a,vs,e,ha,r⟩:=h
  exact ⟨a,vs,e,ha.pres p,bD.pres p ls (fun b hb=>q b (by simp [aT,hb])) r⟩
 | _,.bx (some a) ls,q,h=>by
  simp only [aM] at h ⊢
  obtain ⟨e,vs,ha,r⟩:=h
  exact ⟨e,vs,(q a (by simp [aT])).trans ha,bD.pres p ls (fun b hb=>q b (by simp [aT,hb])) r⟩
 | _,.dic a kvs,q,h=>by
  simp only [aM] at h ⊢
  obtain ⟨e,vs,ha,r⟩:=h
  exact ⟨e,vs,(q a (by simp [aT])).trans ha,Paired.mapP r fun _ _ z=>⟨z.1,z.2.pres p⟩⟩
theorem bD.pres {K:PySem.W.Frag} {H H':Hp} (p:Pres H H'):∀{vs:List V} (ls:List L),(∀a∈cR ls,H' a=H a)→bD K H vs ls→bD K H' vs ls
 | _,[],_,h=>by simpa only [bD] using h
 | _,l::ls,q,h=>by
  simp only [bD] at h ⊢
  obtain ⟨v,us,e,h1,h2⟩:=h
  exact ⟨v,us,e,aM.pres p l (fun b hb=>q b (by simp [cR,hb])) h1,bD.pres p ls (fun b hb=>q b (by simp [cR,hb])) h2⟩
end
def OMut:HO→Prop
 | .lst _=>True
 | .dK _=>True
 | _=>False
theorem OMut.no {o:HO} (h:OMut o) (p:Pers o):False:=by cases o<;>first|exact h|exact p
mutual
theorem aM.lstAt {K:PySem.W.Frag} {H:Hp}:∀{s:Option V} (l:L),aM K H s l→∀a∈aT l,∃o,H a=some o∧OMut o
 | _,.un,_,a,ha=>by simp [aT] at ha
 | _,.d x,_,a,ha=>by simp [aT] at ha
 | _,.own b xs,h,a,ha=>by
  simp only [aM] at h
  have e:a=b:=by simpa [aT] using ha
  subst e
  obtain ⟨_,vs,q,_⟩:=h
  exact ⟨_,q,True.intro⟩
 | _,.bx none ls,h,a,ha=>by
  simp only [aM] at h
  obtain ⟨b,vs,e,_,r⟩:=h
  exact bD.lstAt ls r a (by simpa [aT] using ha)
 | _,.bx (some b) ls,h,a,ha=>by
  simp only [aM] at h
  obtain ⟨e,vs,q,r⟩:=h
  rcases (by simpa [aT] using ha:a=b∨a∈cR ls) with z|z
  ·
   subst z;exact ⟨_,q,True.intro⟩
  ·
   exact bD.lstAt ls r a z
 | _,.dic b xs,h,a,ha=>by
  simp only [aM] at h
  have e:a=b:=by simpa [aT] using ha
  subst e
  obtain ⟨_,vs,q,_⟩:=h
  exact ⟨_,q,True.intro⟩
theorem bD.lstAt {K:PySem.W.Frag} {H:Hp}:∀{vs:List V} (ls:List L),bD K H vs ls→∀a∈cR ls,∃o,H a=some o∧OMut o
 | _,[],_,a,ha=>by simp [cR] at ha
 | _,l::ls,h,a,ha=>by
  simp only [bD] at h
  obtain ⟨v,us,e,h1,h2⟩:=h
  rcases (by simpa [cR] using ha:a∈aT l∨a∈cR ls) with z|z
  ·
   exact aM.lstAt l h1 a z
  ·
   exact bD.lstAt ls h2 a z
end
structure REnv (K:PySem.W.Frag) (Pr H:Hp) (σ:St) (ρ:Ev):Prop where
 sub:∀b o,Pr b=some o→H b=some o
 nd:(owns ρ).Nodup
 off:∀a∈owns ρ,Pr a=none
 sl:Paired (aM K H) σ ρ
theorem dW {ρ:Ev} {a:Addr}:a∈owns ρ↔∃l∈ρ,a∈aT l:=by
 unfold owns
 rw [List.mem_flatMap]
theorem rP {ρ:Ev} {a:Addr} {xs:List D} (h:L.own a xs∈ρ):a∈owns ρ:=dW.mpr ⟨_,h,by simp [aT]⟩
theorem ay (a b:Ev):owns (a++b)=owns a++owns b:=List.flatMap_append
theorem Paired.mem2 {α β:Type} {F:α→β→Prop}:∀{l1:List α} {l2:List β} {b:β},Paired F l1 l2→b∈l2→∃a,a∈l1∧F a b
 | _,_,_,.nil,h=>by simp at h
 | _,_,_,.cons r t,h=>by
  rcases List.mem_cons.mp h with rfl|h
  ·
   exact ⟨_,List.mem_cons_self,r⟩
  ·
   obtain ⟨a,h1,h2⟩:=Paired.mem2 t h
   exact ⟨a,List.mem_cons_of_mem _ h1,h2⟩
theorem Paired.app {α β:Type} {F:α→β→Prop}:∀{a c:List α} {b d:List β},Paired F a b→Paired F c d→Paired F (a++c) (b++d)
 | _,_,_,_,.nil,s=>s
 | _,_,_,_,.cons r t,s=>.cons r (Paired.app t s)
theorem Paired.unapp {α β:Type} {F:α→β→Prop}:∀{a c:List α} {b d:List β},a.length=b.length→Paired F (a++c) (b++d)→Paired F a b∧Paired F c d
 | [],_,[],_,_,s=>⟨.nil,s⟩
 | x::a,_,y::b,_,hl,.cons r t=>by
  obtain ⟨p,q⟩:=Paired.unapp (a:=a) (b:=b) (by simpa using hl) t
  exact ⟨.cons r p,q⟩
 | [],_,_::_,_,hl,_=>by simp at hl
 | _::_,_,[],_,hl,_=>by simp at hl
theorem Paired.get2 {α β:Type} {F:α→β→Prop}:∀{l1:List α} {l2:List β} {i:Nat} {b:β},Paired F l1 l2→l2[i]?=some b→∃a,l1[i]?=some a∧F a b
 | _,_,_,_,.nil,e=>by simp at e
 | _,_,0,_,.cons h _,e=>by simp at e;subst e;exact ⟨_,rfl,h⟩
 | _,_,i+1,d,.cons _ t,e=>by
  obtain ⟨v,h1,h2⟩:=Paired.get2 (i:=i) (b:=d) t (by simpa using e)
  exact ⟨v,by simpa using h1,h2⟩
theorem Paired.set2 {α β:Type} {F:α→β→Prop} {a:α} {b:β} (r:F a b):∀{l1:List α} {l2:List β} (i:Nat),Paired F l1 l2→Paired F (l1.set i a) (l2.set i b)
 | _,_,_,.nil=>.nil
 | _,_,0,.cons _ t=>.cons r t
 | _,_,i+1,.cons h t=>.cons h (Paired.set2 r i t)
theorem Paired.impMem {α β:Type} {F G:α→β→Prop}:∀{l1:List α} {l2:List β},Paired F l1 l2→(∀b∈l2,∀a,F a b→G a b)→Paired G l1 l2
 | _,_,.nil,_=>.nil
 | _,_,.cons r t,h=>.cons (h _ List.mem_cons_self _ r) (Paired.impMem t fun b hb=>h b (List.mem_cons_of_mem _ hb))
theorem Paired.set_r {α β:Type} {F:α→β→Prop} {b:β}:∀{l1:List α} {l2:List β} (i:Nat),Paired F l1 l2→(∀a,l1[i]?=some a→F a b)→Paired F l1 (l2.set i b)
 | _,_,_,.nil,_=>.nil
 | _,_,0,.cons _ t,h=>.cons (h _ rfl) t
 | _,_,i+1,.cons q t,h=>.cons q (Paired.set_r i t fun a e=>h a (by simpa using e))
section
variable {K:PySem.W.Frag} {Pr H H':Hp} {σ τ w σ':St} {ρ μ lam ρ':Ev}
theorem REnv.len (E:REnv K Pr H σ ρ):σ.length=ρ.length:=Paired.length E.sl
def ba (H:Hp) (ρ:Ev):Hp:=fun b=>if b∈owns ρ then none else H b
theorem REnv.at_own (E:REnv K Pr H σ ρ) {a:Addr} (h:a∈owns ρ):∃o,H a=some o∧OMut o:=by
 obtain ⟨l,hx,ha⟩:=dW.mp h
 obtain ⟨s,_,q⟩:=Paired.mem2 E.sl hx
 exact q.lstAt l a ha
theorem REnv.wide (E:REnv K Pr H σ ρ):REnv K (ba H ρ) H σ ρ :=
 ⟨fun b o e=>by unfold ba at e;split at e;cases e;exact e,E.nd,fun a h=>by unfold ba;rw [if_pos h],E.sl⟩
theorem REnv.drop (E:REnv K Pr H (τ++σ) (lam++ρ)) (hl:τ.length=lam.length):REnv K Pr H σ ρ :=
 ⟨E.sub,(List.nodup_append.mp (ay lam ρ ▸ E.nd)).2.1,fun a h=>E.off a (by rw [ay];exact List.mem_append_right _ h),(Paired.unapp hl E.sl).2⟩
theorem REnv.left (E:REnv K Pr H (τ++σ) (lam++ρ)) (hl:τ.length=lam.length):REnv K Pr H τ lam :=
 ⟨E.sub,(List.nodup_append.mp (ay lam ρ ▸ E.nd)).1,fun a h=>E.off a (by rw [ay];exact List.mem_append_left _ h),(Paired.unapp hl E.sl).1⟩
theorem rQ {H H':Hp} {ρ:Ev} {σ:St} {Pr:Hp} (E:REnv K Pr H σ ρ) (h:∀b o,ba H ρ b=some o→H' b=some o):Pres H H':=fun b o p e=>by
 refine h b o ?_
 unfold ba
 rw [if_neg,e]
 intro hm
 obtain ⟨u,e',m⟩:=E.at_own hm
 rw [e] at e'
 cases e'
 exact m.no p
theorem REnv.step (E:REnv K Pr H (τ++σ) (lam++ρ)) (hl:τ.length=lam.length) (E':REnv K (ba H ρ) H' (w++σ') (μ++ρ')) (hw:w.length=μ.length):REnv K Pr H' (w++(τ++σ')) (μ++(lam++ρ')):=by
 have Eσ:=E.drop hl
 have p:Pres H H':=rQ Eσ E'.sub
 have dis:∀a∈owns lam,a∉owns ρ:=fun a h1 h2=>(List.nodup_append.mp (ay lam ρ ▸ E.nd)).2.2 a h1 a h2 rfl
 have at':∀a∈owns lam,ba H ρ a=H a:=fun a h=>by unfold ba;rw [if_neg (dis a h)]
 have some':∀a∈owns lam,∃o,H a=some o∧OMut o:=fun a h=>E.at_own (by rw [ay];exact List.mem_append_left _ h)
 have out:∀a∈owns lam,a∉owns (μ++ρ'):=fun a h h2=>by
  have z:=E'.off a h2
  rw [at' a h] at z
  obtain ⟨vs,e,_⟩:=some' a h
  rw [e] at z
  cases z
 have s1:=(Paired.unapp hw E'.sl)
 have s2:=(Paired.unapp hl E.sl).1
 refine ⟨fun b o e=>?_,?_,fun a ha=>?_,Paired.app s1.1 (Paired.app ?_ s1.2)⟩
 ·
  refine E'.sub b o ?_
  unfold ba
  rw [if_neg,E.sub b o e]
  intro hm
  have z:=Eσ.off b hm
  rw [e] at z
  cases z
 ·
  have n1:=E'.nd
  rw [ay] at n1
  rw [ay,ay]
  obtain ⟨q1,q2,q3⟩:=List.nodup_append.mp n1
  refine List.nodup_append.mpr ⟨q1,List.nodup_append.mpr ⟨(List.nodup_append.mp (ay lam ρ ▸ E.nd)).1,q2,fun a ha b hb=>?_⟩,fun a ha b hb=>?_⟩
  ·
   rintro rfl
   exact out a ha (by rw [ay];exact List.mem_append_right _ hb)
  ·
   rcases List.mem_append.mp hb with hb|hb
   ·
    rintro rfl
    exact out a hb (by rw [ay];exact List.mem_append_left _ ha)
   ·
    exact q3 a ha b hb
 ·
  rw [ay,ay] at ha
  have key:a∈owns (μ++ρ')→Pr a=none:=fun h=>by
   have z:=E'.off a h
   unfold ba at z
   by_cases hm:a∈owns ρ
   ·
    exact Eσ.off a hm
   ·
    rw [if_neg hm] at z
    cases q:Pr a with
    | none=>rfl
    | some o=>rw [E.sub a o q] at z;cases z
  rcases List.mem_append.mp ha with h|h
  ·
   exact key (by rw [ay];exact List.mem_append_left _ h)
  ·
   rcases List.mem_append.mp h with h|h
   ·
    exact E.off a (by rw [ay];exact List.mem_append_left _ h)
   ·
    exact key (by rw [ay];exact List.mem_append_right _ h)
 ·
  have:∀l∈lam,∀s,aM K H s l→aM K H' s l:=fun l hlm s h=>h.pres p l fun a e=>by
   have ha:a∈owns lam:=dW.mpr ⟨l,hlm,e⟩
   obtain ⟨vs,e,_⟩:=some' a ha
   rw [E'.sub a _ ((at' a ha).trans e),e]
  exact Paired.impMem s2 this
end
end L2
namespace L2
open PySem PySem.Spec PyProof.Rows PySem.W
structure XStd (K:Frag) (c:Str) (C L:Addr) (cd:ClassData):Prop where
 cls:clsIn K C=some cd
 load:nsIn K mainGlobals "LoadError"=some (some (.ref L))
 name:cd.name=c
 dct:cd.hasDict=true
 mro:cd.mro=[.ref C,.ref L,.type "ValueError",.type "Exception",.type "BaseException",.type "object"]
 lname:∃ k,clsIn K L=some k∧k.name=("LoadError" : Str)
 ga:findIn K (.ref C) "__getattribute__"=some (some (.builtin "BaseException.__getattribute__"))
 gx:findIn K (.ref C) "__getattr__"=some none
 gc:findIn K (.ref C) "__class__"=some (some (.builtin "object.__class__"))
 sa:findIn K (.ref C) "__setattr__"=some (some (.builtin "object.__setattr__"))
 ty:typeIn K (.ref C)=some (.type "type")
 own:nsIn K mainGlobals c=some (some (.ref C))
theorem cS {K:Frag} {c:Str} {C:Addr} (h:fU K c C=true):∃L cd,XStd K c C L cd:=by
 unfold fU at h
 split at h
 ·
  rename_i cd L e1 e2
  simp only [Bool.and_eq_true,beq_iff_eq] at h
  obtain ⟨⟨⟨⟨⟨⟨⟨⟨⟨h1,h2⟩,h3⟩,h4⟩,h5⟩,h6⟩,h7⟩,h8⟩,h9⟩,h10⟩:=h
  obtain ⟨k,hk,hn⟩:=any_some h4
  exact ⟨L,cd,e1,e2,h1,h2,h3,⟨k,hk,beq_iff_eq.mp hn⟩,h5,h6,h7,h8,h9,h10⟩
 ·
  cases h
section
variable {K:Frag} {c:Str} {C L:Addr} {cd:ClassData}
theorem XStd.mroIn (S:XStd K c C L cd) (b:Value):PySem.W.mroIn K C b=some (([.ref C,.ref L,.type "ValueError",.type "Exception",.type "BaseException",.type "object"]:List Value).contains b):=by
 unfold PySem.W.mroIn
 rw [S.cls,Option.bind_some,S.mro]
 rfl
theorem l8 (C L:Addr) (T:String):(([.ref C,.ref L,.type "ValueError",.type "Exception",.type "BaseException",.type "object"]:List Value).contains (.type T))=(["ValueError","Exception","BaseException","object"]:List String).contains T:=by
 simp only [List.contains_cons,List.contains_nil,Bool.or_false]
 have e:∀a:Addr,(Value.type T == Value.ref a)=false:=fun _=>rfl
 have f:∀U:String,(Value.type T == Value.type U)=(T == U):=fun U=>by
  by_cases q:T=U
  ·
   subst q;simp
  ·
   rw [beq_eq_false_iff_ne.mpr q,beq_eq_false_iff_ne]
   intro z;injection z with z;exact q z
 rw [e,e,f,f,f,f];rfl
theorem ub (C L D:Addr):(([.ref C,.ref L,.type "ValueError",.type "Exception",.type "BaseException",.type "object"]:List Value).contains (.ref D))=(D == C || D == L):=by
 simp only [List.contains_cons,List.contains_nil,Bool.or_false]
 have e:∀T:String,(Value.ref D == Value.type T)=false:=fun _=>rfl
 have f:∀a:Addr,(Value.ref D == Value.ref a)=(D == a):=fun U=>by
  by_cases q:D=U
  ·
   subst q;simp
  ·
   rw [beq_eq_false_iff_ne.mpr q,beq_eq_false_iff_ne]
   intro z;injection z with z;exact q z
 rw [e,e,e,e,f,f,Bool.or_false,Bool.or_false,Bool.or_false,Bool.or_false]
theorem XStd.has (S:XStd K c C L cd) {T:String} (h:(["ValueError","Exception","BaseException","object"]:List String).contains T=true):PySem.W.mroIn K C (.type T)=some true:=by
 rw [S.mroIn,l8,h]
theorem XStd.isT (S:XStd K c C L cd) {M:Model} {h:Heap} (X:K.In h) (T:String):Looks M h (isSubtype (.ref C) (.type T)) ((["ValueError","Exception","BaseException","object"]:List String).contains T):=looks_mroIn X (by rw [S.mroIn,l8])
end
section
variable {prog:Program} {w:World} {A:Around} {E:Value→Shared→Prop} {s:Shared} {K:Frag} {c:Str} {x C L:Addr} {cd:ClassData} {ox:Obj} {od:Option Obj} {name:Str}
theorem vA {tk:Tok} {v:Value} {Q:Fin→Shared→Prop} (X:K.In s.heap) (I:InstAt s.heap x ox C od) (hf:findObj K C od name=some (.value v)) (hq:Q (.done (.ret v)) s) :
  wpAny (model prog w) A (Builtin.«object.__getattribute__» ⟨[.ref x,.str name tk],[]⟩) Q E s:=by
 obtain ⟨hh,g,d,t,os⟩:=s
 have L0:=I.type (M:=model prog w)
 have L1:=looks_find (M:=model prog w) X I hf
 unfold Builtin.«object.__getattribute__»
 refine wpAny_bind (wpAny_pure (wpAny_bind (wpAny_pure ?_)))
 exact wpAny_bind (L0.at (wpAny_bind (L1.at (wpAny_pure hq))))
theorem pX {tk:Tok} {Q:Fin→Shared→Prop} (S:XStd K c C L cd) (X:K.In s.heap) (I:InstAt s.heap x ox C od) (hf:findObj K C od "__class__"=some (.bind (.builtin "getset_descriptor.__get__") (.builtin "object.__class__"))) (hq:Q (.done (.ret (.ref C))) s) :
  wpAny (model prog w) A (Builtin.«object.__getattribute__» ⟨[.ref x,.str "__class__" tk],[]⟩) Q E s:=by
 obtain ⟨hh,g,d,t,os⟩:=s
 have L0:=I.type (M:=model prog w)
 have L1:=looks_find (M:=model prog w) X I hf
 unfold Builtin.«object.__getattribute__»
 refine wpAny_bind (wpAny_pure (wpAny_bind (wpAny_pure ?_)))
 refine wpAny_bind (L0.at (wpAny_bind (L1.at ?_)))
 show wpAny _ _ (holding [Value.builtin "object.__class__"] (call (.builtin "getset_descriptor.__get__") [.builtin "object.__class__",.ref x,.ref C]) >>= ret) _ _ _
 refine wpAny_bind (wpAny_holding (wpAny_call ?_))
 exact class_get (s:=⟨hh,g,d,t,os⟩) (ox:=ox) (od:=od) X I (S.has (by decide)) (wpAny_pure hq)
theorem wX {tk:Tok} {v:Value} {fill expr:Bool} {Q:Value→Shared→Prop} (S:XStd K c C L cd) (X:K.In s.heap) (I:InstAt s.heap x ox C od)
  (he:∀(A':Around) (Q':Fin→Shared→Prop),Q' (.done (.ret v)) s→wpAny (model prog w) A' (Builtin.«object.__getattribute__» ⟨[.ref x,.str name tk],[]⟩) Q' (fun _ _=>False) s) (hh:handedIn v=true) (hq:Q v s) :
  wpAny (model prog w) A (getAttrBy (.ref x) (.str name tk) fill expr) Q E s:=by
 have FB:=F.excAttr_ValueError
 have L0:=I.type (M:=model prog w)
 have L1:=looks_findIn (M:=model prog w) X S.ga
 have L2:=looks_findIn (M:=model prog w) X S.gx
 unfold getAttrBy
 refine wpAny_holding (wpAny_bind (L0.here (wpAny_bind (L1.here ?_))))
 have hx2:(Value.builtin "BaseException.__getattribute__" == Value.builtin "object.__getattribute__")=false:=by decide +kernel
 dsimp only
 rw [hx2,Bool.and_false,if_neg (by decide)]
 unfold getAttrByItsOwn
 refine wpAny_bind ((looks_hook (mc:=.ref C) X (r:=none) S.gx).here ?_)
 refine wpAny_bind (wpAny_attempt (wpAny_holding ?_))
 have hx0:(expr && onTheHeap (Value.builtin "BaseException.__getattribute__"))=false:=by cases expr <;> rfl
 unfold callGetattribute boundAndCalled
 rw [hx0,if_neg (by decide),FB.ga.bind]
 refine wpAny_bind (wpAny_pure (wpAny_call ?_))
 have hi:Looks (model prog w) s.heap (isInstance (.ref x) (.type "BaseException")) true:=L0.andThen (S.isT X _)
 have hkd:builtinKind "BaseException.__getattribute__"=some .slot:=by decide +kernel
 have hsp:splitId "BaseException.__getattribute__"=some ("BaseException","__getattribute__"):=by decide +kernel
 refine codeAny_call_builtin FB.ga.plain F.entry_bexc_ga (@check_slot (model prog w) _ _ s "BaseException.__getattribute__" "BaseException" "__getattribute__" (.ref x) [.str name tk] [] _ hkd hsp hi (F.args_bexc_ga (.ref x) (.str name tk)) ?_)
 refine wpAny_mono (he _ _ ?_) (fun _ _ z=>z) fun _ _ z=>z.elim
 show wpAny _ _ (handedOut v) _ _ _
 rw [handedOut_of hh]
 exact wpAny_pure hq
end
end L2
namespace L2
open PySem PySem.Spec PyProof.Rows PySem.W
theorem B1 (K:Frag):specialIn K (.builtin "object.__class__") "__get__"=some (some (.builtin "getset_descriptor.__get__")):=(by decide +kernel:specialIn [] (.builtin "object.__class__") "__get__"=some (some (.builtin "getset_descriptor.__get__")))
theorem wY (K:Frag):takesIn K (.builtin "object.__class__")=some true:=(by decide +kernel:takesIn [] (.builtin "object.__class__")=some true)
section
variable {prog:Program} {w:World} {A:Around} {E:Value→Shared→Prop} {s:Shared} {K:Frag} {c:Str} {x C L:Addr} {cd:ClassData} {ox:Obj} {od:Option Obj} {name:Str}
theorem XStd.fclass (S:XStd K c C L cd) (od:Option Obj):findObj K C od "__class__"=some (.bind (.builtin "getset_descriptor.__get__") (.builtin "object.__class__")):=by
 unfold findObj
 rw [S.cls,Option.bind_some,S.gc,Option.bind_some]
 simp [B1,wY]
theorem rR {Q:Option Value→Shared→Prop} (S:XStd K c C L cd) (X:K.In s.heap) (I:InstAt s.heap x ox C od) (hq:Q (some (.ref C)) { s with toks:=s.toks+1 }) :
  wpAny (model prog w) A (getAttr? (.ref x) "__class__") Q E s:=by
 obtain ⟨hh,g,d,t,os⟩:=s
 unfold getAttr? getAttrBy?
 refine wpAny_bind (wpAny_mkText (wpAny_bind (wpAny_attempt ?_)))
 exact wX (s:=⟨hh,g,d,t+1,os⟩) (ox:=ox) (od:=od) S X I (fun A' Q' q=>pX (s:=⟨hh,g,d,t+1,os⟩) S X I (S.fclass od) q) rfl (wpAny_pure hq)
theorem wZ {v:Value} {expr:Bool} {Q:Value→Shared→Prop} (S:XStd K c C L cd) (X:K.In s.heap) (I:InstAt s.heap x ox C od) (hf:findObj K C od name=some (.value v)) (hv:handedIn v=true) (hq:Q v { s with toks:=s.toks+1 }) :
  wpAny (model prog w) A (getAttr (.ref x) name expr) Q E s:=by
 obtain ⟨hh,g,d,t,os⟩:=s
 unfold getAttr
 refine wpAny_bind (wpAny_mkText ?_)
 exact wX (s:=⟨hh,g,d,t+1,os⟩) (ox:=ox) (od:=od) S X I (fun A' Q' q=>vA (s:=⟨hh,g,d,t+1,os⟩) X I hf q) hv hq
theorem uc (S:XStd K c C L cd):KitX K (.ref x) (.ref C) (fun h=>∃ox od,InstAt h x ox C od) where
 ty:=fun _ _ _ ⟨_,_,I⟩=>I.type
 it:=fun _ _ X _=>by
  have hc:=S.cls
  unfold clsIn at hc
  split at hc
  ·
   rename_i ho
   intro A' Q' E' s' k q
   unfold isType loadHead
   exact wpAny_bind (wpAny_loadPart (k _ _ (X _ _ ho)) (wpAny_pure q))
  ·
   cases hc
 ne:=fun h tp dd its n sl X htp=>by
  refine Bool.eq_false_iff.mpr fun q=>?_
  have e:C=tp:=Value.ref.inj (beq_iff_eq.mp q)
  subst e
  have hc:=S.cls
  unfold clsIn at hc
  split at hc
  ·
   rename_i ho
   have z:=(X _ _ ho).symm.trans htp
   cases z
  ·
   cases hc
 ca:=fun X ⟨_,_,I⟩ k=>rR S X I k
theorem XStd.fown (S:XStd K c C L cd) {o:Obj} {v:Value} (hn:findIn K (.ref C) name=some none) (hl:lookIn name o=some (some v)):findObj K C (some o) name=some (.value v):=by
 unfold findObj
 rw [S.cls,Option.bind_some,hn,Option.bind_some]
 simp [PySem.W.ownOf,S.dct,hl]
end
theorem l9 {K:Frag} {C:Addr} {cd:ClassData} (h:clsIn K C=some cd):∃oc odc sl,K.lookup C=some ⟨oc,odc,.cls cd,sl⟩:=by
 unfold clsIn at h
 split at h
 ·
  rename_i ho;cases h;exact ⟨_,_,_,ho⟩
 ·
  cases h
section
variable {prog:Program} {w:World} {A:Around} {E:Value→Shared→Prop} {s:Shared} {K:Frag} {c:Str} {x C L:Addr} {cd:ClassData} {ox:Obj} {od:Option Obj} {name:Str}
theorem F4 {vs:Array Value} {text:Value} {Q:Value→Shared→Prop} (S:XStd K c C L cd) (X:K.In s.heap) (I:InstAt s.heap x ox C od) (hd:ox.data=.fields vs) (hz:0 <vs.size)
  (hq:∀ t,Q .none { s with heap:=(s.heap.push { cls:=.type "tuple",data:=.seq #[text] }).update x (Obj.mapFields (·.setIfInBounds 0 (.ref s.heap.objs.size))),toks:=t }) :
  wpAny (model prog w) A (call (.builtin "ValueError.__init__") [.ref x,text]) Q E s:=by
 have FB:=F.excBase_ValueError
 have hi:Looks (model prog w) s.heap (isInstance (.ref x) (.type "ValueError")) true:=I.type.andThen (S.isT X _)
 have hx:=I.at_
 obtain ⟨hh,g,d,t,os⟩:=s
 have hx1:=Heap.get?_push_of_some (h:=hh) { cls:=.type "tuple",data:=.seq #[text] } hx
 have h0:vs[0]?=some vs[0]:=Array.getElem?_eq_getElem hz
 have hst:=FB.noStar
 refine wpAny_call (codeAny_call_builtin FB.init.plain FB.initEntry ?_)
 simp only [checkBuiltinCall,FB.initKind,FB.initSplit,FB.initRow]
 refine wpAny_bind (hi.here ?_)
 simp only [Bool.not_true,Bool.false_eq_true,if_false]
 have hcl:=I.cls
 obtain ⟨oc,odc,sl,hK⟩:=l9 S.cls
 have hC:hh.get? C=some ⟨oc,odc,.cls cd,sl⟩:=X _ _ hK
 repeat (first|(with_reducible refine wpAny_loadPart_at hx ?_;rw [hcl])|with_reducible refine wpAny_loadPart_at hC ?_|with_reducible refine (S.isT X _).here ?_|wp_step)
 rw [hd]
 refine wpAny_pure ?_
 rw [h0]
 refine wpAny_pure (wpAny_bind (wpAny_setField hx1 hd hz ?_))
 have done:∀t',wpAny (model prog w) A.in1 (ret Value.none) (fun fin s'=>match fin with
   | Fin.done f=>(match (Except.ok f:Result) with
    | .ok (.ret v)=>Q v s'
    | .ok _=>False
    | .error e=>E e s')
   | Fin.again c'=>c'.quiet=true∧codeAny (model prog w) A c' (fun r s'=>match r with
    | .ok (.ret v)=>Q v s'
    | .ok _=>False
    | .error e=>E e s') s') (fun e s'=>E e s') ⟨(hh.push { cls:=.type "tuple",data:=.seq #[text] }).update x (Obj.mapFields (·.setIfInBounds 0 (.ref hh.objs.size))),g,d,t',os⟩:=fun t'=>wpAny_pure (hq t')
 split
 ·
  exact wpAny_letGo (done _)
 ·
  exact wpAny_pure (done _)
theorem pY {v:Value} {Q:Unit→Shared→Prop} (S:XStd K c C L cd) (X:K.In s.heap) (I:InstAt s.heap x ox C od) (hna:findIn K (.ref C) name=some none)
  (h:∀(A':Around) (R:Fin→Shared→Prop),(∀s',Q () s'→R (.done (.ret .none)) s')→wpAny (model prog w) A' (Builtin.ObjectAttr.storeInOwnDict (.ref x) (.ref C) (.str name s.toks) name v false) R (fun _ _=>False) { s with toks:=s.toks+1 }) :
  wpAny (model prog w) A (setAttr (.ref x) name v) Q E s:=by
 have SF:=PySem.F.store_ValueError
 obtain ⟨hh,g,d,t,os⟩:=s
 have L0:=I.type (M:=model prog w)
 have L1:=looks_findIn (M:=model prog w) X S.sa
 have L2:=looks_findIn (M:=model prog w) X hna
 have Lm:Looks (model prog w) hh (mroOf (.ref C)) cd.mro:=(looks_clsIn X S.cls).andThen .now
 have hi:Looks (model prog w) hh (isInstance (.ref x) (.type "object")) true:=L0.andThen (S.isT X _)
 unfold setAttr callSpecial? specialOf
 refine wpAny_bind (wpAny_mkText (wpAny_bind (wpAny_bind (wpAny_bind (L0.at (L1.at ?_))))))
 dsimp only
 refine wpAny_holding (wpAny_bind ?_)
 rw [SF.slot.bind]
 refine wpAny_pure (wpAny_bind (wpAny_call ?_))
 refine codeAny_call_builtin SF.slot.plain SF.entry (@check_slot (model prog w) _ _ ⟨hh,g,d,t+1,os⟩ "object.__setattr__" "object" "__setattr__" (.ref x) [.str name t,v] [] _ SF.kind SF.split hi (SF.args (.ref x) (.str name t) v) ?_)
 show wpAny _ _ (Builtin.«object.__setattr__» ⟨[.ref x,.str name t,v],[]⟩) _ _ _
 rw [osa_eq,refuse_eq]
 refine wpAny_bind (wpAny_bind (L0.at (wpAny_bind (Lm.at ?_))))
 rw [S.mro,refuseLoop_ref,refuseLoop_ref,SF.passes]
 refine wpAny_pure (wpAny_bind (L0.at (wpAny_bind (L2.at (wpAny_bind (wpAny_pure ?_))))))
 dsimp only
 refine wpAny_mono (h _ _ fun s' q=>?_) (fun _ _ z=>z) fun _ _ z=>z.elim
 exact wpAny_pure (wpAny_pure q)
theorem zJ {v:Value} {Q:Unit→Shared→Prop} (S:XStd K c C L cd) (X:K.In s.heap) (I:InstAt s.heap x ox C od) (hdn:ox.dict=none) (hna:findIn K (.ref C) name=some none)
  (hq:∀h' tk,h'.get? x=some { ox with dict:=some s.heap.objs.size }→h'.Ns1 s.heap.objs.size (fun y=>if y=name then some v else none)→(∀b o,b≠x→s.heap.get? b=some o→h'.get? b=some o)→Q () { s with heap:=h',toks:=tk }) :
  wpAny (model prog w) A (setAttr (.ref x) name v) Q E s:=by
 refine pY S X I hna fun A' R k=>?_
 obtain ⟨hh,g,d,t,os⟩:=s
 have hx:=I.at_
 have hcl:=I.cls
 have hno:=I.no
 have Lc:=looks_clsIn (M:=model prog w) X S.cls
 have hxs:x≠hh.objs.size:=Nat.ne_of_lt (Heap.lt_size hx)
 unfold Builtin.ObjectAttr.storeInOwnDict
 refine wpAny_bind (wpAny_pure ?_)
 rw [if_neg (by show ¬ ((Value.ref C == Value.type "module")=true); exact fun z=>by cases z)]
 refine wpAny_bind ?_
 show wpAny _ _ (instanceDict x true) _ _ _
 unfold instanceDict
 refine wpAny_bind (wpAny_loadPart_at hx ?_)
 rw [hcl]
 dsimp only
 refine wpAny_bind (Lc.at ?_)
 rw [S.dct]
 simp only [Bool.not_true,Bool.false_eq_true,if_false]
 rw [hdn]
 dsimp only
 rw [if_neg (by simp [typeHasDict])]
 have go:∀ (Q':Option Addr→Shared→Prop),(∀ h1,h1.get? x=some { ox with dict:=some hh.objs.size }→h1.get? hh.objs.size=some { cls:=.type "dict",data:=.dict #[] }→(∀ b o,b≠x→hh.get? b=some o→h1.get? b=some o)→Q' (some hh.objs.size) ⟨h1,g,d,t+1,os⟩) →
   wpAny (model prog w) A' (do
    let d ← alloc { cls:=.type "dict",data:=.dict #[] }
    update x fun o=>{ o with dict:=some d }
    dictMade (.ref C) x d) Q' (fun _ _=>False) ⟨hh,g,d,t+1,os⟩:=fun Q' q=>by
  have hx1:(hh.push { cls:=.type "dict",data:=.dict #[] }).get? x=some ox:=Heap.get?_push_of_some _ hx
  refine wpAny_bind (wpAny_alloc' ?_)
  refine wpAny_bind (wpAny_update' hx1 ?_)
  refine wpAny_pure (q _ ?_ ?_ fun b o hb e=>?_)
  ·
   refine Heap.get?_update_self _ hx1 ?_
   have fr:=(Heap.get?_some_iff.mp hx).2
   obtain ⟨c0,d0,dt,s0⟩:=ox
   cases dt<;>first|rfl|exact fr
  ·
   exact (Heap.get?_update_ne _ _ _ _ hxs.symm).trans (Heap.get?_push_at rfl rfl)
  ·
   exact (Heap.get?_update_ne _ _ _ _ hb).trans (Heap.get?_push_of_some _ e)
 have fin:∀ h1,h1.get? x=some { ox with dict:=some hh.objs.size }→h1.get? hh.objs.size=some { cls:=.type "dict",data:=.dict #[] }→(∀ b o,b≠x→hh.get? b=some o→h1.get? b=some o) →
   wpAny (model prog w) A' (Builtin.ObjectAttr.storeInDict hh.objs.size (.str name t) name v) R (fun _ _=>False) ⟨h1,g,d,t+1,os⟩:=fun h1 e1 e2 e3=>by
  have n0:h1.Ns hh.objs.size (fun _=>none):=⟨_,#[],_,e2,rfl,fun e he=>absurd he (by simp),fun _=>rfl⟩
  unfold Builtin.ObjectAttr.storeInDict Builtin.ObjectAttr.newKeyGuard
  refine wpAny_bind (wpAny_pure (wpAny_bind (wpAny_nsSet1 (Heap.Ns1.of_empty n0) fun h2 n2 hs=>?_)))
  obtain ⟨oD,esD,epD,hoD,hdD,hcD⟩:=n2.count (Within.cons name v Within.nil)
  refine wpAny_bind (wpAny_lookBehind hoD (by rw [hdD];exact pastItsLine_dict (Nat.le_trans hcD (by rw [List.length_cons,List.length_nil,sizeLine_eq];omega))) ?_)
  refine wpAny_pure (k _ (hq h2 _ ((hs.2 x hxs).trans e1) n2 fun b o hb e=>(hs.2 b (Nat.ne_of_lt (Heap.lt_size e))).trans (e3 b o hb e)))
 split
 ·
  rename_i q
  rw [notCls,q] at hno
  cases hno
 ·
  exact go _ fin
theorem zK {v:Value} {Q:Unit→Shared→Prop} {dx:Addr} {mA:Str→Option Value} {ns:List Str} (S:XStd K c C L cd) (X:K.In s.heap) (I:InstAt s.heap x ox C od) (hdx:ox.dict=some dx) (hN:s.heap.Ns1 dx mA) (hw:PySem.Within mA ns) (hz:ns.length≤1000) (hna:findIn K (.ref C) name=some none)
  (hq:∀h' tk,h'.Ns1 dx (fun y=>if y=name then some v else mA y)→Heap.SameBut dx s.heap h'→Q () { s with heap:=h',toks:=tk }) :
  wpAny (model prog w) A (setAttr (.ref x) name v) Q E s:=by
 refine pY S X I hna fun A' R k=>?_
 obtain ⟨hh,g,d,t,os⟩:=s
 have hx:=I.at_
 have hcl:=I.cls
 have Lc:=looks_clsIn (M:=model prog w) X S.cls
 unfold Builtin.ObjectAttr.storeInOwnDict
 refine wpAny_bind (wpAny_pure ?_)
 rw [if_neg (by show ¬ ((Value.ref C == Value.type "module")=true); exact fun z=>by cases z)]
 refine wpAny_bind ?_
 show wpAny _ _ (instanceDict x true) _ _ _
 unfold instanceDict
 refine wpAny_bind (wpAny_loadPart_at hx ?_)
 rw [hcl]
 dsimp only
 refine wpAny_bind (Lc.at ?_)
 rw [S.dct]
 simp only [Bool.not_true,Bool.false_eq_true,if_false]
 rw [hdx]
 refine wpAny_pure ?_
 show wpAny _ _ (Builtin.ObjectAttr.storeInDict dx (.str name t) name v) _ _ _
 unfold Builtin.ObjectAttr.storeInDict Builtin.ObjectAttr.newKeyGuard
 refine wpAny_bind (wpAny_pure (wpAny_bind (wpAny_nsSet1 hN fun h2 n2 hs=>?_)))
 obtain ⟨oD,esD,epD,hoD,hdD,hcD⟩:=n2.count (Within.cons name v hw)
 refine wpAny_bind (wpAny_lookBehind hoD (by rw [hdD];exact pastItsLine_dict (Nat.le_trans hcD (by rw [List.length_cons,sizeLine_eq];omega))) ?_)
 exact wpAny_pure (k _ (hq h2 _ n2 hs))
end
end L2
namespace L2
open PySem PySem.Spec PyProof.Rows
section
variable {X:Cx} {pins:List (Addr×Obj)} {σ:St} {H:Hp} {s:Shared}
theorem Inv.reword {a:Addr} {u w:HO} (I:Inv X pins σ H s) (h:H a=some u) (hu:¬Pers u) (hw:∀y,u≠.own y) (ht:∀ps,u≠.tbl ps) (nw:cQ X.prog X.w H s.heap a w) (hw2:∀C dx fs,w≠.ins C dx fs):Inv X pins σ (upd H a w) s:=by
 have ne:∀b,H b=none→b≠a:=fun b n e=>by subst e;rw [h] at n;cases n
 have nt:∀b xs,H b=some (.tup xs)→b≠a:=fun b xs n e=>by subst e;rw [h] at n;cases n;exact hu True.intro
 have nf:∀b o z,H b=some (.frz o z)→b≠a:=fun b o z n e=>by subst e;rw [h] at n;cases n;exact hu True.intro
 have no:∀b z,H b=some (.own z)→b≠a:=fun b z n e=>by subst e;rw [h] at n;cases n;exact hw _ rfl
 refine ⟨I.ok,I.os,I.bare,⟨I.base.keep,I.base.slot,fun b ob e n hx=>?_,I.base.there,fun b xs e=>?_,fun b ob z e=>?_,fun b ps e=>?_⟩,I.loc,I.cell,?_,fun x c e=>?_,fun p hp=>?_,fun b z e=>?_,I.len⟩
 ·
  have q:=I.base.free b ob e n hx
  rw [ax (ne b q)];exact q
 ·
  have q:=I.base.tups b xs e
  rw [ax (nt b xs q)];exact q
 ·
  have q:=I.base.frzs b ob z e
  rw [ax (nf b ob z q)];exact q
 ·
  obtain ⟨more,q⟩:=I.base.tbls b ps e
  refine ⟨more,?_⟩
  rw [ax (fun z=>by subst z;rw [h] at q;cases q;exact ht _ rfl)];exact q
 ·
  rw [ax (ne _ I.free)];exact I.free
 ·
  rw [ax (ne _ (I.freeC x c e))];exact I.freeC x c e
 ·
  obtain ⟨e,n,r⟩:=I.pin p hp
  exact ⟨e,by rw [ax (ne _ n)];exact n,r⟩
 ·
  by_cases hb:b=a
  ·
   subst hb
   rw [aW] at e
   cases e
   exact nw.stay (fun c v _ q=>q) (fun c q=>by rw [ax (no c _ q)];exact q) fun c xs q=>by rw [ax (nt c xs q)];exact q
  ·
   rw [ax hb] at e
   exact (I.hok b z e).stay (fun c v _ q=>q) (fun c q=>by rw [ax (no c _ q)];exact q) fun c xs q=>by rw [ax (nt c xs q)];exact q
theorem Inv.freezeL {a:Addr} {xs:List V} (I:Inv X pins σ H s) (h:H a=some (.lst xs)):∃o,Inv X pins σ (upd H a (.frz o (.lst xs))) s:=by
 obtain ⟨z,its,n,r,e⟩:=id (I.hok a _ h)
 exact ⟨_,I.reword h (fun q=>q) (fun _ q=>nomatch q) (fun _ q=>nomatch q) ⟨e,z,its,n,r,e⟩ (fun _ _ _ q=>nomatch q)⟩
end
section
variable {K:PySem.W.Frag} {Pr H H':Hp} {σ τ w:St} {ρ μ lam ρ':Ev}
theorem REnv.new (E:REnv K Pr H σ ρ) {p:Addr} {o:HO} (h:H p=none):REnv K Pr (upd H p o) σ ρ:=by
 have k:∀b u,H b=some u→upd H p o b=some u:=fun b u e=>by rw [ax (bg e h)];exact e
 exact ⟨fun b u e=>k b u (E.sub b u e),E.nd,E.off,Paired.impMem E.sl fun l hl s q=>q.pres (fun b u _ e=>k b u e) l fun a e=>by
  obtain ⟨vs,e,_⟩:=E.at_own (dW.mpr ⟨l,hl,e⟩)
  rw [k _ _ e,e]⟩
theorem Reps.new {vs:List V} {ds:List D} (r:Reps K H vs ds) {p:Addr} {o:HO} (h:H p=none):Reps K (upd H p o) vs ds:=r.pres fun b u _ e=>by rw [ax (bg e h)];exact e
theorem Rep.new {v:V} {d:D} (r:Rep K H v d) {p:Addr} {o:HO} (h:H p=none):Rep K (upd H p o) v d:=r.pres fun b u _ e=>by rw [ax (bg e h)];exact e
theorem kS:owns (.un::ρ)=owns ρ:=rfl
theorem aS {a:Addr} {xs:List D}:owns (.own a xs::ρ)=a::owns ρ:=rfl
theorem REnv.cons_d (E:REnv K Pr H σ ρ) {v:V} {x:D} (r:Rep K H v x):REnv K Pr H (some v::σ) (.d x::ρ):=⟨E.sub,E.nd,E.off,.cons ⟨v,rfl,r⟩ E.sl⟩
theorem REnv.cons_un (E:REnv K Pr H σ ρ) {v:Option V}:REnv K Pr H (v::σ) (.un::ρ):=⟨E.sub,E.nd,E.off,.cons True.intro E.sl⟩
theorem REnv.cons_own (E:REnv K Pr H σ ρ) {p:Addr} {vs:List V} {xs:List D} (h:H p=none) (r:Reps K H vs xs):REnv K Pr (upd H p (.lst vs)) (some (.ref p)::σ) (.own p xs::ρ):=by
 have E':=E.new (o:=.lst vs) h
 refine ⟨E'.sub,?_,fun a ha=>?_,.cons ⟨rfl,vs,aW,r.new h⟩ E'.sl⟩
 ·
  rw [aS]
  refine List.nodup_cons.mpr ⟨fun hm=>?_,E.nd⟩
  obtain ⟨us,e,_⟩:=E.at_own hm
  rw [h] at e;cases e
 ·
  rw [aS] at ha
  rcases List.mem_cons.mp ha with rfl|ha
  ·
   cases q:Pr a with
   | none=>rfl
   | some u=>rw [E.sub a u q] at h;cases h
  ·
   exact E.off a ha
theorem REnv.cons_tup (E:REnv K Pr H σ ρ) {p:Addr} {vs:List V} {xs:List D} (h:H p=none) (r:Reps K H vs xs):REnv K Pr (upd H p (.tup vs)) (some (.ref p)::σ) (.d (.tup xs)::ρ) :=
 (E.new h).cons_d (.tup (SqT.of aW) (r.new h))
theorem REnv.freeze (E:REnv K Pr H σ (.own a xs::ρ)) {vs:List V} (h:H a=some (.lst vs)) (o:Obj):REnv K Pr (upd H a (.frz o (.lst vs))) σ (.d (.lst xs)::ρ):=by
 have pa:Pr a=none:=E.off a (by rw [aS];exact List.mem_cons_self)
 have nd:=E.nd
 rw [aS] at nd
 obtain ⟨hn,nd⟩:=List.nodup_cons.mp nd
 have p:Pres H (upd H a (.frz o (.lst vs))):=fun b u pu e=>by
  rw [ax];exact e
  rintro rfl
  rw [h] at e;cases e;exact pu
 refine ⟨fun b u e=>?_,nd,fun b hb=>E.off b (by rw [aS];exact List.mem_cons_of_mem _ hb),?_⟩
 ·
  rw [ax];exact E.sub b u e
  rintro rfl
  rw [pa] at e;cases e
 ·
  have sl:=E.sl
  cases sl with
  | cons q t =>
   obtain ⟨e,us,e2,r⟩:=q
   rw [h] at e2;cases e2
   refine .cons ⟨.ref a,e,.lst (.inl ⟨o,aW⟩) (r.pres p)⟩ (Paired.impMem t fun l hl s z=>z.pres p l fun b hbm=>?_)
   rw [ax]
   rintro rfl
   exact hn (dW.mpr ⟨l,hl,hbm⟩)
theorem aA (l:L) (ρ:Ev):owns (l::ρ)=aT l++owns ρ:=rfl
theorem kT {a:Addr} {xs ys:List D}:∀{ρ:Ev} {i:Nat},ρ[i]?=some (.own a xs)→owns (ρ.set i (.own a ys))=owns ρ
 | [],_,h=>by simp at h
 | _::_,0,h=>by simp at h;subst h;rfl
 | l::ρ,i+1,h=>by
  have ih:=kT (i:=i) (ρ:=ρ) (ys:=ys) (by simpa using h)
  show owns (l::ρ.set i (.own a ys))=owns (l::ρ)
  rw [aA,aA,ih]
theorem eG {k:L}:∀{ρ:Ev} {i:Nat} {l:L},ρ[i]?=some k→aT l=[]→(owns ρ).Perm (aT k++owns (ρ.set i l))
 | [],_,_,h,_=>by simp at h
 | _::ρ,0,l,h,hl=>by
  simp at h;subst h
  show (owns (_::ρ)).Perm (_++owns (l::ρ))
  rw [aA,aA,hl]
  exact List.Perm.refl _
 | m::ρ,i+1,l,h,hl=>by
  have ih:=eG (i:=i) (ρ:=ρ) (l:=l) (by simpa using h) hl
  show (owns (m::ρ)).Perm (aT k++owns (m::ρ.set i l))
  rw [aA,aA]
  refine (List.Perm.append_left _ ih).trans ?_
  rw [← List.append_assoc,← List.append_assoc]
  exact List.Perm.append_right _ List.perm_append_comm
theorem w4 {a:Addr} {xs:List D} {ρ:Ev} {i:Nat} {l:L} (h:ρ[i]?=some (.own a xs)) (hl:aT l=[]):(owns ρ).Perm (a::owns (ρ.set i l)):=eG h hl
theorem ud {ρ:Ev} {i:Nat} (l:L) (h:ρ[i]?=some .un):(owns (ρ.set i l)).Perm (aT l++owns ρ):=by
 have hi:i <ρ.length:=(List.getElem?_eq_some_iff.mp h).1
 have pm:=eG (ρ:=ρ.set i l) (i:=i) (k:=l) (l:=.un) (by simp [hi]) rfl
 rw [List.set_set] at pm
 have e2:ρ.set i .un=ρ:=by
  have:=List.set_getElem_self (as:=ρ) (i:=i) hi
  have e3:ρ[i]=.un:=(List.getElem?_eq_some_iff.mp h).2
  rw [e3] at this;exact this
 rw [e2] at pm
 exact pm
theorem REnv.outL (E:REnv K Pr H σ ρ) {i:Nat} {k:L} {s:Option V} (h:ρ[i]?=some k) (hs:σ[i]?=some s):REnv K Pr H (s::σ) (k::ρ.set i .un):=by
 have pm:=eG (l:=.un) h rfl
 obtain ⟨s',hs',q⟩:=Paired.get2 E.sl h
 rw [hs] at hs'
 cases hs'
 refine ⟨E.sub,?_,fun b hb=>E.off b (pm.mem_iff.mpr (by rw [aA] at hb;exact hb)),.cons q (Paired.set_r i E.sl fun _ _=>by simp only [aM])⟩
 rw [aA];exact pm.nodup_iff.mp E.nd
theorem REnv.out (E:REnv K Pr H σ ρ) {i:Nat} {a:Addr} {xs:List D} (h:ρ[i]?=some (.own a xs)):REnv K Pr H (some (.ref a)::σ) (.own a xs::ρ.set i .un):=by
 have pm:=w4 (l:=.un) h rfl
 obtain ⟨s,hs,q⟩:=Paired.get2 E.sl h
 refine ⟨E.sub,?_,fun b hb=>E.off b (pm.mem_iff.mpr (by rw [aS] at hb;exact hb)),.cons ?_ (Paired.set_r i E.sl fun _ _=>by simp only [aM])⟩
 ·
  rw [aS];exact pm.nodup_iff.mp E.nd
 ·
  obtain ⟨_,r⟩:=q
  exact ⟨rfl,r⟩
theorem REnv.back {v:Option V} {l:L} (E:REnv K Pr H (v::σ) (l::ρ)) {i:Nat} (h:ρ[i]?=some .un) (hs:σ[i]?=some v):REnv K Pr H σ (ρ.set i l):=by
 have sl:=E.sl
 cases sl with
 | cons q t =>
  have e1:ρ.set i l=(ρ.set i l):=rfl
  refine ⟨E.sub,?_,fun b hb=>?_,Paired.set_r i t fun a e=>by rw [hs] at e;cases e;exact q⟩
  ·
   exact (ud l h).nodup_iff.mpr E.nd
  ·
   exact E.off b ((ud l h).mem_iff.mp hb)
theorem REnv.write (E:REnv K Pr H σ (.own a xs::ρ)) {vs:List V} {ys:List D} (r:Reps K H vs ys):REnv K Pr (upd H a (.lst vs)) σ (.own a ys::ρ):=by
 have pa:Pr a=none:=E.off a (by rw [aS];exact List.mem_cons_self)
 have nd:=E.nd
 rw [aS] at nd
 obtain ⟨hn,nd'⟩:=List.nodup_cons.mp nd
 obtain ⟨us,ha,mu⟩:=E.at_own (a:=a) (by rw [aS];exact List.mem_cons_self)
 have p:Pres H (upd H a (.lst vs)):=fun b u pu e=>by
  rw [ax];exact e
  rintro rfl
  rw [ha] at e;cases e;exact mu.no pu
 refine ⟨fun b u e=>?_,nd,fun b hb=>E.off b hb,?_⟩
 ·
  rw [ax];exact E.sub b u e
  rintro rfl
  rw [pa] at e;cases e
 ·
  have sl:=E.sl
  cases sl with
  | cons q t =>
   obtain ⟨e,_⟩:=q
   refine .cons ⟨e,vs,aW,r.pres p⟩ (Paired.impMem t fun l hl s z=>z.pres p l fun b hbm=>?_)
   rw [ax]
   rintro rfl
   exact hn (dW.mpr ⟨l,hl,hbm⟩)
end
end L2
namespace L2
open PySem PySem.Spec PyProof.Rows
abbrev W (α:Type):=Ev→(α→Ev→Prop)→Prop
inductive Fl where
 | nx|bk|ct|rt (r:L)
def EL (X:Cx) (pins:List (Addr×Obj)) (σ:St) (Pr:Hp) (post:L→Ev→Prop) (u:Value) (s':Shared):Prop :=
 ∃v H' r ρ',Inv X pins σ H' s'∧RelV v u∧REnv X.K Pr H' (some v::σ) (r::ρ')∧post r ρ'
def PL (X:Cx) (e:Expr) (t:W L):Prop :=
 ∀(pins:List (Addr×Obj)) (s:Shared) (σ:St) (H Pr:Hp) (ρ:Ev) (post:L→Ev→Prop),Inv X pins σ H s→REnv X.K Pr H σ ρ→t ρ post→wpAny (model X.prog X.w) X.A (eval e X.env) (EL X pins σ Pr post) X.xe s
def EB (X:Cx) (pins:List (Addr×Obj)) (σ:St) (Pr:Hp) (post:Bool→Ev→Prop) (b:Bool) (s':Shared):Prop :=
 ∃H' ρ',Inv X pins σ H' s'∧REnv X.K Pr H' σ ρ'∧post b ρ'
def PB (X:Cx) (e:Expr) (t:W Bool):Prop :=
 ∀(pins:List (Addr×Obj)) (s:Shared) (σ:St) (H Pr:Hp) (ρ:Ev) (post:Bool→Ev→Prop),Inv X pins σ H s→REnv X.K Pr H σ ρ→t ρ post→wpAny (model X.prog X.w) X.A (isTrue e X.env (eval e X.env)) (EB X pins σ Pr post) X.xe s
def EA (X:Cx) (pins:List (Addr×Obj)) (σ:St) (Pr:Hp) (bs:List (Option Nat)) (post:List L→Ev→Prop) (us:List Value) (s':Shared):Prop :=
 ∃vs H' ls ρ',Inv X pins σ H' s'∧Vals vs us∧vs.length=ls.length∧vs.length=bs.length∧REnv X.K Pr H' (vs.map some++σ) (ls++ρ')∧(∀(k i:Nat),bs[k]?=some (some i)→ls[k]?=some L.un∧∃v,vs[k]?=some v∧σ[i]?=some (some v))∧post ls ρ'
def PAL (X:Cx) (es:List Expr) (bs:List (Option Nat)) (t:W (List L)):Prop :=
 ∀(pos:Pos) (pins:List (Addr×Obj)) (s:Shared) (σ:St) (H Pr:Hp) (ρ:Ev) (post:List L→Ev→Prop),Inv X pins σ H s→REnv X.K Pr H σ ρ→t ρ post →
  wpAny (model X.prog X.w) X.A (spliced (backTo pos (starEach es X.env))) (EA X pins σ Pr bs post) X.xe s
def SM (X:Cx) (pins:List (Addr×Obj)) (Pr:Hp) (post:Fl→Ev→Prop) (f:Flow) (s':Shared):Prop :=
 match f with
 | .next=>∃σ' H' ρ',Inv X pins σ' H' s'∧REnv X.K Pr H' σ' ρ'∧post .nx ρ'
 | .brk=>∃σ' H' ρ',Inv X pins σ' H' s'∧REnv X.K Pr H' σ' ρ'∧post .bk ρ'
 | .cont=>∃σ' H' ρ',Inv X pins σ' H' s'∧REnv X.K Pr H' σ' ρ'∧post .ct ρ'
 | .ret u=>∃v σ' H' r ρ' τ,Inv X pins σ' H' s'∧RelV v u∧REnv X.K Pr H' (some v::τ) (r::ρ')∧post (.rt r) ρ'
def PM (X:Cx) (st:Stmt) (t:W Fl):Prop :=
 ∀(pins:List (Addr×Obj)) (s:Shared) (σ:St) (H Pr:Hp) (ρ:Ev) (post:Fl→Ev→Prop),Inv X pins σ H s→REnv X.K Pr H σ ρ→t ρ post→wpAny (model X.prog X.w) X.A (exec st X.env) (SM X pins Pr post) X.xe s
def PMs (X:Cx) (st:List Stmt) (t:W Fl):Prop :=
 ∀(pins:List (Addr×Obj)) (s:Shared) (σ:St) (H Pr:Hp) (ρ:Ev) (post:Fl→Ev→Prop),Inv X pins σ H s→REnv X.K Pr H σ ρ→t ρ post→wpAny (model X.prog X.w) X.A (execs st X.env) (SM X pins Pr post) X.xe s
section
variable {X:Cx} {e a b c:Expr} {es:List Expr} {pos:Pos} {ta tb tc:W L} {tA tB:W Bool}
theorem PL.of {t:TE} {u:W L} (h:PE X e t) (q:∀σ H Pr ρ post,REnv X.K Pr H σ ρ→u ρ post→t σ H fun v H'=>∃r ρ',REnv X.K Pr H' (some v::σ) (r::ρ')∧post r ρ'):PL X e u :=
 fun pins s σ H Pr ρ post I E hu=>thn (h pins s σ H _ I (q σ H Pr ρ post E hu)) fun u s1 ⟨v,H1,I1,r1,r,ρ',E1,p⟩=>⟨v,H1,r,ρ',I1,r1,E1,p⟩
mutual
def bh:L→Option D
 | .un=>none
 | .d x=>some x
 | .own _ xs=>some (.lst xs)
 | .bx none ls=>(bP ls).map .tup
 | .bx (some _) ls=>(bP ls).map .lst
 | .dic _ _=>none
def bP:List L→Option (List D)
 | []=>some []
 | l::ls=>match bh l,bP ls with
  | some x,some xs=>some (x::xs)
  | _,_=>none
end
def dD:Option D→(D→Prop)→Prop
 | some x,k=>k x
 | none,_=>False
theorem vB {o:Option D} {k:D→Prop} (h:dD o k):∃x,o=some x∧k x:=by
 cases o with
 | some x=>exact ⟨x,rfl,h⟩
 | none=>exact h.elim
def toDB (a:Option Addr) (ls:List L) (k:D→Prop):Prop:=dD (bh (.bx a ls)) k
def toD:L→(D→Prop)→Prop
 | .un,_=>False
 | .d x,k=>k x
 | .own _ xs,k=>k (.lst xs)
 | .bx a ls,k=>toDB a ls k
 | .dic _ _,_=>False
theorem nY {a:Option Addr} {ls:List L} {k:D→Prop} (h:toDB a ls k):∃x,bh (.bx a ls)=some x∧k x:=vB h
def eraK (ls:List L) (k:List D→Prop):Prop:=∃xs,bP ls=some xs∧k xs
theorem Ed (ls:List L) (k:D→Prop):toDB none ls k=eraK ls fun xs=>k (.tup xs):=by
 unfold toDB eraK
 simp only [bh]
 cases bP ls with
 | none=>simp [dD]
 | some xs=>simp [dD]
theorem Ee (a:Addr) (ls:List L) (k:D→Prop):toDB (some a) ls k=eraK ls fun xs=>k (.lst xs):=by
 unfold toDB eraK
 simp only [bh]
 cases bP ls with
 | none=>simp [dD]
 | some xs=>simp [dD]
theorem zL (k:List D→Prop):eraK [] k=k []:=by
 unfold eraK
 simp [bP]
theorem B2 (l:L) (k:D→Prop):toD l k=∃x,bh l=some x∧k x:=by
 cases l with
 | un=>simp [toD,bh]
 | d x=>simp [toD,bh]
 | own a xs=>simp [toD,bh]
 | bx a ls =>
  show dD _ k=_
  cases bh (.bx a ls) with
  | none=>simp [dD]
  | some x=>simp [dD]
 | dic a kvs=>simp [toD,bh]
theorem w5 (l:L) (ls:List L) (k:List D→Prop):eraK (l::ls) k=toD l fun x=>eraK ls fun xs=>k (x::xs):=by
 rw [B2]
 unfold eraK
 simp only [bP]
 cases bh l with
 | none=>simp
 | some x =>
  cases bP ls with
  | none=>simp
  | some xs=>simp
theorem bz {K:PySem.W.Frag} {H:Hp}:∀{vs:List V} {ls:List L},bD K H vs ls↔Paired (aM K H) (vs.map some) ls
 | [],[]=>⟨fun _=>.nil,fun _=>by simp only [bD]⟩
 | v::vs,l::ls=>by
  simp only [bD,List.map_cons]
  constructor
  ·
   rintro ⟨w,us,e,h1,h2⟩
   cases e
   exact .cons h1 (bz.mp h2)
  ·
   intro h
   cases h with
   | cons q t=>exact ⟨v,vs,rfl,q,bz.mpr t⟩
 | [],l::ls=>by
  simp only [bD,List.map_nil]
  constructor
  ·
   rintro ⟨w,us,e,_⟩;cases e
  ·
   intro h;cases h
 | v::vs,[]=>by
  simp only [bD,List.map_cons]
  constructor
  ·
   intro h;cases h
  ·
   intro h;cases h
theorem rS {K:PySem.W.Frag} {H:Hp}:∀{vs:List V} {xs:List D},Paired (aM K H) (vs.map some) (xs.map .d)→Reps K H vs xs
 | [],[],_=>.nil
 | v::vs,x::xs,h=>by
  simp only [List.map_cons] at h
  cases h with
  | cons q t =>
   simp only [aM] at q
   obtain ⟨w,e,r⟩:=q
   cases e
   exact .cons r (rS t)
 | [],_::_,h=>by simp only [List.map_cons,List.map_nil] at h;cases h
 | _::_,[],h=>by simp only [List.map_cons,List.map_nil] at h;cases h
theorem bD.len {K:PySem.W.Frag} {H:Hp} {vs:List V} {ls:List L} (h:bD K H vs ls):vs.length=ls.length:=by
 have:=Paired.length (bz.mp h)
 simpa using this
theorem eV:∀{ls:List L} {xs:List D},bP ls=some xs→xs.length=ls.length
 | [],_,h=>by simp [bP] at h;subst h;rfl
 | l::ls,xs,h=>by
  simp only [bP] at h
  split at h
  ·
   rename_i x ys h1 h2
   cases h
   simp [eV h2]
  ·
   cases h
theorem REnv.openT {K:PySem.W.Frag} {Pr H:Hp} {σ:St} {ρ:Ev} {v:Option V} {ls:List L} (E:REnv K Pr H (v::σ) (.bx none ls::ρ)):∃a vs,v=some (.ref a)∧SqT K H a vs∧vs.length=ls.length∧REnv K Pr H (vs.map some++σ) (ls++ρ):=by
 have sl:=E.sl
 cases sl with
 | cons q t =>
  simp only [aM] at q
  obtain ⟨a,vs,e,h,r⟩:=q
  have ow:owns (.bx none ls::ρ)=owns (ls++ρ):=by
   rw [aA,ay]
   simp only [aT,Option.toList,List.nil_append,ck]
  exact ⟨a,vs,e,h,r.len,E.sub,by rw [← ow];exact E.nd,fun b hb=>E.off b (by rw [ow];exact hb),Paired.app (bz.mp r) t⟩
theorem REnv.openO {K:PySem.W.Frag} {Pr H:Hp} {σ:St} {ρ:Ev} {v:Option V} {a:Addr} {ls:List L} (E:REnv K Pr H (v::σ) (.bx (some a) ls::ρ)):∃vs,v=some (.ref a)∧H a=some (.lst vs)∧vs.length=ls.length∧a∉owns (ls++ρ)∧Pr a=none∧REnv K Pr H (vs.map some++σ) (ls++ρ):=by
 have sl:=E.sl
 cases sl with
 | cons q t =>
  simp only [aM] at q
  obtain ⟨e,vs,h,r⟩:=q
  have ow:owns (.bx (some a) ls::ρ)=a::owns (ls++ρ):=by
   rw [aA,ay]
   simp only [aT,Option.toList,List.cons_append,List.nil_append,ck]
  have nd:=E.nd
  rw [ow] at nd
  obtain ⟨n1,n2⟩:=List.nodup_cons.mp nd
  exact ⟨vs,e,h,r.len,n1,E.off a (by rw [ow];exact List.mem_cons_self),E.sub,n2,fun b hb=>E.off b (by rw [ow];exact List.mem_cons_of_mem _ hb),Paired.app (bz.mp r) t⟩
theorem w7 (xs:List D):owns (xs.map .d)=[]:=by
 induction xs with
 | nil=>rfl
 | cons x xs ih=>rw [List.map_cons,aA,ih];rfl
def kU (H H':Hp) (S:List Addr):Prop:=Pres H H'∧(∀b,b∉S→H' b=H b)∧∀a∈S,∀vs,H a=some (.lst vs)→∃o,H' a=some (.frz o (.lst vs))
theorem kU.refl (H:Hp):kU H H []:=⟨fun _ _ _ e=>e,fun _ _=>rfl,fun _ h=>by simp at h⟩
mutual
theorem frzL:∀(l:L) {pins:List (Addr×Obj)} {σ0:St} {s:Shared} {Pr H:Hp} {σ:St} {ρ:Ev} {v:Option V} {x:D},Inv X pins σ0 H s→REnv X.K Pr H (v::σ) (l::ρ)→bh l=some x→∃H',Inv X pins σ0 H' s∧REnv X.K Pr H' (v::σ) (.d x::ρ)∧kU H H' (aT l)
 | .un,_,_,_,_,_,_,_,_,_,_,_,h=>by simp [bh] at h
 | .dic _ _,_,_,_,_,_,_,_,_,_,_,_,h=>by simp [bh] at h
 | .d y,_,_,_,_,_,_,_,_,_,I,E,h=>by
  simp only [bh,Option.some.injEq] at h
  subst h
  exact ⟨_,I,E,kU.refl _⟩
 | .own a xs,_,_,_,_,H,σ,ρ,v,_,I,E,h=>by
  simp only [bh,Option.some.injEq] at h
  subst h
  have sl:=E.sl
  cases sl with
  | cons q t =>
   simp only [aM] at q
   obtain ⟨e0,vs,ha,r⟩:=q
   obtain ⟨o,I'⟩:=I.freezeL ha
   refine ⟨_,I',E.freeze ha o,fun b u pu eb=>?_,fun b hb=>?_,fun b hb vs' eb=>?_⟩
   ·
    rw [ax];exact eb
    rintro rfl
    rw [ha] at eb;cases eb;exact pu
   ·
    rw [ax]
    rintro rfl
    exact hb (by simp [aT])
   ·
    have e:b=a:=by simpa [aT] using hb
    subst e
    rw [ha] at eb;cases eb
    exact ⟨o,aW⟩
 | .bx none ls,_,_,_,Pr,H,σ,ρ,v,x,I,E,h=>by
  simp only [bh,Option.map_eq_some_iff] at h
  obtain ⟨xs,h,rfl⟩:=h
  obtain ⟨a,vs,rfl,ha,hl,E1⟩:=E.openT
  obtain ⟨H',I',E',F⟩:=B3 ls hl I E1 h
  have hxl:=eV h
  obtain ⟨s1,s2⟩:=Paired.unapp (by simp [hl,hxl]) E'.sl
  refine ⟨H',I',(E'.drop (by simp [hl,hxl])).cons_d (.tup (ha.pres F.1) (rS s1)),F.1,fun b hb=>F.2.1 b ?_,fun b hb=>F.2.2 b ?_⟩
  ·
   simpa [aT,ck] using hb
  ·
   simpa [aT,ck] using hb
 | .bx (some a) ls,_,_,_,Pr,H,σ,ρ,v,x,I,E,h=>by
  simp only [bh,Option.map_eq_some_iff] at h
  obtain ⟨xs,h,rfl⟩:=h
  obtain ⟨vs,rfl,ha,hl,hn,hp,E1⟩:=E.openO
  obtain ⟨H',I',E',F⟩:=B3 ls hl I E1 h
  have hxl:=eV h
  have hal:a∉owns ls:=fun z=>hn (by rw [ay];exact List.mem_append_left _ z)
  have haρ:a∉owns ρ:=fun z=>hn (by rw [ay];exact List.mem_append_right _ z)
  have ha':H' a=some (.lst vs):=(F.2.1 a hal).trans ha
  obtain ⟨s1,s2⟩:=Paired.unapp (by simp [hl,hxl]) E'.sl
  have E2:=E'.drop (by simp [hl,hxl])
  have E3:REnv X.K Pr H' (some (.ref a)::σ) (.own a xs::ρ):=by
   refine ⟨E2.sub,?_,fun b hb=>?_,.cons ?_ E2.sl⟩
   ·
    rw [aS];exact List.nodup_cons.mpr ⟨haρ,E2.nd⟩
   ·
    rw [aS] at hb
    rcases List.mem_cons.mp hb with z|z
    ·
     rw [z];exact hp
    ·
     exact E2.off b z
   ·
    unfold aM
    exact ⟨rfl,vs,ha',rS s1⟩
  obtain ⟨o,I2⟩:=I'.freezeL ha'
  refine ⟨_,I2,E3.freeze ha' o,fun b u pu e=>?_,fun b hb=>?_,fun b hb vs' eb=>?_⟩
  ·
   rw [ax];exact F.1 b u pu e
   rintro rfl
   rw [ha] at e;cases e;exact pu
  ·
   have hb':b≠a∧b∉owns ls:=by simpa [aT,ck,not_or] using hb
   rw [ax hb'.1]
   exact F.2.1 b hb'.2
  ·
   by_cases hba:b=a
   ·
    subst hba
    rw [ha] at eb;cases eb
    exact ⟨o,aW⟩
   ·
    have hb':b∈owns ls:=by
     rcases (by simpa [aT,ck] using hb:b=a∨b∈owns ls) with z|z
     ·
      exact absurd z hba
     ·
      exact z
    rw [ax hba]
    exact F.2.2 b hb' vs' eb
theorem B3:∀(ls:List L) {pins:List (Addr×Obj)} {σ0:St} {s:Shared} {Pr H:Hp} {σ:St} {ρ:Ev} {vs:List V} {xs:List D},vs.length=ls.length→Inv X pins σ0 H s→REnv X.K Pr H (vs.map some++σ) (ls++ρ)→bP ls=some xs→∃H',Inv X pins σ0 H' s∧REnv X.K Pr H' (vs.map some++σ) (xs.map .d++ρ)∧kU H H' (owns ls)
 | [],_,_,_,_,_,_,_,vs,xs,hl,I,E,h=>by
  simp only [bP,Option.some.injEq] at h
  subst h
  cases vs with
  | nil=>exact ⟨_,I,E,kU.refl _⟩
  | cons _ _=>simp at hl
 | l::ls,_,_,_,Pr,H,σ,ρ,vs,xs,hl,I,E,h=>by
  simp only [bP] at h
  split at h
  rotate_left
  ·
   cases h
  rename_i x ys h1 h2
  cases h
  cases vs with
  | nil=>simp at hl
  | cons v vs =>
   have hl':vs.length=ls.length:=by simpa using hl
   obtain ⟨H1,I1,E1,F1⟩:=frzL l I E h1
   have E2:REnv X.K (ba H1 (ls++ρ)) H1 (vs.map some++σ) (ls++ρ):=(E1.drop (τ:=[some v]) (lam:=[.d x]) rfl).wide
   obtain ⟨H2,I2,E3,F2⟩:=B3 ls hl' I1 E2 h2
   have hyl:=eV h2
   have E4:REnv X.K Pr H2 (some v::(vs.map some++σ)) (.d x::(ys.map .d++ρ)):=by
    have z:=REnv.step (τ:=[some v]) (lam:=[.d x]) (w:=[]) (μ:=[]) (σ':=vs.map some++σ) (ρ':=ys.map .d++ρ) E1 rfl E3 rfl
    exact z
   refine ⟨H2,I2,E4,fun b u pu e=>F2.1 b u pu (F1.1 b u pu e),fun b hb=>?_,fun b hb vs' eb=>?_⟩
   ·
    rw [aA] at hb
    rw [F2.2.1 b (fun z=>hb (List.mem_append_right _ z)),F1.2.1 b (fun z=>hb (List.mem_append_left _ z))]
   ·
    rw [aA] at hb
    rcases List.mem_append.mp hb with z|z
    ·
     obtain ⟨o,eo⟩:=F1.2.2 b z vs' eb
     exact ⟨o,F2.1 b _ True.intro eo⟩
    ·
     have hn:b∉aT l:=fun z'=>by
      have nd:=E.nd
      rw [List.cons_append,aA,ay] at nd
      exact (List.nodup_append.mp nd).2.2 b z' b (List.mem_append_left _ z) rfl
     exact F2.2.2 b z vs' ((F1.2.1 b hn).trans eb)
end
theorem EL.frz {pins:List (Addr×Obj)} {σ:St} {Pr:Hp} {post:D→Ev→Prop} {u:Value} {s':Shared} (h:EL X pins σ Pr (fun r ρ=>toD r fun x=>post x ρ) u s') :
  ∃v H' x ρ',Inv X pins σ H' s'∧RelV v u∧REnv X.K Pr H' (some v::σ) (.d x::ρ')∧post x ρ':=by
 obtain ⟨v,H',r,ρ',I,rv,E,p⟩:=h
 cases r with
 | un=>exact p.elim
 | d x=>exact ⟨v,H',x,ρ',I,rv,E,p⟩
 | own a xs =>
  obtain ⟨H2,I2,E2,_⟩:=frzL (.own a xs) I E rfl
  exact ⟨v,H2,.lst xs,ρ',I2,rv,E2,p⟩
 | bx a ls =>
  obtain ⟨x,ex,p⟩:=nY p
  obtain ⟨H2,I2,E2,_⟩:=frzL (.bx a ls) I E ex
  exact ⟨v,H2,x,ρ',I2,rv,E2,p⟩
 | dic a kvs=>exact p.elim
def wFrz (t:W L):W L:=fun ρ post=>t ρ fun r ρ1=>toD r fun x=>post (.d x) ρ1
theorem ar {t:W L} (h:PL X e t):PL X e (wFrz t):=fun pins s σ H Pr ρ post I E ht =>
 thn (h pins s σ H Pr ρ _ I E ht) fun u s1 q=>by
  obtain ⟨v,H',x,ρ',I',rv,E',p⟩:=EL.frz (post:=fun x ρ=>post (.d x) ρ) q
  exact ⟨v,H',.d x,ρ',I',rv,E',p⟩
theorem REnv.head_d {K:PySem.W.Frag} {Pr H:Hp} {v:Option V} {σ:St} {x:D} {ρ:Ev} (E:REnv K Pr H (v::σ) (.d x::ρ)):∃w,v=some w∧Rep K H w x:=by
 have sl:=E.sl
 cases sl with
 | cons q t=>exact q
theorem REnv.tail {K:PySem.W.Frag} {Pr H:Hp} {v:Option V} {σ:St} {l:L} {ρ:Ev} (E:REnv K Pr H (v::σ) (l::ρ)):REnv K Pr H σ ρ:=REnv.drop (τ:=[v]) (lam:=[l]) E rfl
theorem two {pins:List (Addr×Obj)} {s:Shared} {σ:St} {H Pr:Hp} {ρ:Ev} {R:D→D→Ev→Prop} (ha:PL X a ta) (hb:PL X b tb) (I:Inv X pins σ H s) (E:REnv X.K Pr H σ ρ)
  (h:ta ρ fun x ρ1=>toD x fun dx=>tb ρ1 fun y ρ2=>toD y fun dy=>R dx dy ρ2) {α:Type} {Q:α→Shared→Prop} {f:Value→Value→Sem α}
  (hf:∀v u s2 x y H2 dx dy ρ2,Inv X pins σ H2 s2→RelV x v→RelV y u→REnv X.K Pr H2 (some y::some x::σ) (.d dy::.d dx::ρ2)→Rep X.K H2 x dx→Rep X.K H2 y dy→R dx dy ρ2→wpAny (model X.prog X.w) X.A (f v u) Q X.xe s2) :
  wpAny (model X.prog X.w) X.A (eval a X.env) (fun v s₁=>wpAny (model X.prog X.w) X.A (eval b X.env) (fun u s₂=>wpAny (model X.prog X.w) X.A (f v u) Q X.xe s₂) X.xe s₁) X.xe s:=by
 refine thn (ha pins s σ H Pr ρ _ I E h) fun v s1 q=>?_
 obtain ⟨x,H1,dx,ρ1,I1,r1,E1,q1⟩:=EL.frz (post:=fun dx ρ1=>tb ρ1 fun y ρ2=>toD y fun dy=>R dx dy ρ2) q
 refine thn (hb pins s1 σ H1 _ ρ1 _ I1 E1.tail.wide q1) fun u s2 q=>?_
 obtain ⟨y,H2,dy,ρ2,I2,r2,E2,q2⟩:=EL.frz (post:=fun dy ρ2=>R dx dy ρ2) q
 have E3:REnv X.K Pr H2 (some y::some x::σ) (.d dy::.d dx::ρ2):=REnv.step (τ:=[some x]) (lam:=[.d dx]) (w:=[some y]) (μ:=[.d dy]) E1 rfl E2 rfl
 obtain ⟨_,e1,p1⟩:=E3.head_d
 obtain ⟨_,e2,p2⟩:=E3.tail.head_d
 cases e1
 cases e2
 exact hf v u s2 x y H2 dx dy ρ2 I2 r1 r2 E3 p2 p1 q2
abbrev Op2:=D→D→(L→Prop)→Prop
def OpD (X:Cx) (f:Value→Value→Sem Value) (op:Op2):Prop :=
 ∀(pins:List (Addr×Obj)) (s:Shared) (σ:St) (H Pr:Hp) (ρ:Ev) (x y:V) (v u:Value) (dx dy:D) (post:L→Prop),Inv X pins σ H s→RelV x v→RelV y u→REnv X.K Pr H σ ρ→Rep X.K H x dx→Rep X.K H y dy→op dx dy post →
  wpAny (model X.prog X.w) X.A (f v u) (fun w s'=>∃z H' r,Inv X pins σ H' s'∧RelV z w∧REnv X.K Pr H' (some z::σ) (r::ρ)∧post r) X.xe s
theorem OpD.of {f:Value→Value→Sem Value} {r:R2} {op:Op2} (h:OpR X f r) (q:∀σ H Pr ρ x y dx dy post,REnv X.K Pr H σ ρ→Rep X.K H x dx→Rep X.K H y dy→op dx dy post→r x y H fun z H'=>∃r,REnv X.K Pr H' (some z::σ) (r::ρ)∧post r):OpD X f op :=
 fun pins s σ H Pr ρ x y v u dx dy post I rx ry E px py ho=>thn (h pins s σ H x y v u _ I rx ry (q σ H Pr ρ x y dx dy post E px py ho)) fun w s' ⟨z,H',I',rz,r,E',p⟩=>⟨z,H',r,I',rz,E',p⟩
theorem OpD.imp {f:Value→Value→Sem Value} {o1 o2:Op2} (h1:OpD X f o1) (h:∀x y p,o2 x y p→o1 x y p):OpD X f o2 :=
 fun pins s σ H Pr ρ x y v u dx dy post I rx ry E px py ho=>h1 pins s σ H Pr ρ x y v u dx dy post I rx ry E px py (h _ _ _ ho)
def wBin (op:Op2) (ta tb:W L):W L:=fun ρ post=>ta ρ fun x ρ1=>toD x fun dx=>tb ρ1 fun y ρ2=>toD y fun dy=>op dx dy fun r=>post r ρ2
theorem ao {op:Operator} {o:Op2} (ho:OpD X (binaryOp op) o) (ha:PL X a ta) (hb:PL X b tb):PL X (.BinOp a op b pos) (wBin o ta tb):=fun pins s σ H Pr ρ post I E h =>
 wpAny_BinOp (two (R:=fun dx dy ρ2=>o dx dy fun r=>post r ρ2) ha hb I E h fun v u s2 x y H2 dx dy ρ2 I2 r1 r2 E2 p1 p2 q =>
  thn (ho pins s2 σ H2 Pr ρ2 x y v u dx dy _ I2 r1 r2 E2.tail.tail p1 p2 q) fun w s3 ⟨z,H3,r,I3,rz,E3,p⟩=>⟨z,H3,r,ρ2,I3,rz,E3,p⟩)
theorem dh {op:CmpOp} {o:Op2} (ho:OpD X (compareOp op) o) (ha:PL X a ta) (hb:PL X b tb) (hm:behindInMarks op b=false):PL X (.Compare a [op] [b] pos) (wBin o ta tb):=fun pins s σ H Pr ρ post I E h =>
 wpAny_Compare1 (two (R:=fun dx dy ρ2=>o dx dy fun r=>post r ρ2) ha hb I E h fun v u s2 x y H2 dx dy ρ2 I2 r1 r2 E2 p1 p2 q =>
  thn (ho pins s2 σ H2 Pr ρ2 x y v u dx dy _ I2 r1 r2 E2.tail.tail p1 p2 q) fun w s3 ⟨z,H3,r,I3,rz,E3,p⟩=>⟨z,H3,r,ρ2,I3,rz,E3,p⟩) hm
def wC (x:D):W L:=fun ρ post=>post (.d x) ρ
theorem ah {i j pos}:PL X (.Constant (.int i) j pos) (wC (.int i)):=PL.of DL fun σ H Pr ρ post E h=>⟨_,_,E.cons_d (.int i),h⟩
theorem fN {b j pos}:PL X (.Constant (.bool b) j pos) (wC (.bl b)):=PL.of FN fun σ H Pr ρ post E h=>⟨_,_,E.cons_d (.bl b),h⟩
theorem jo {j pos}:PL X (.Constant .none j pos) (wC .non):=PL.of DM fun σ H Pr ρ post E h=>⟨_,_,E.cons_d .non,h⟩
theorem cT {x j pos}:PL X (.Constant (.str x) j pos) (wC (.str x)):=PL.of wu fun σ H Pr ρ post E h=>⟨_,_,E.cons_d (.str x),h⟩
def varW (o:Option L) (i:Nat) (ρ:Ev) (post:L→Ev→Prop):Prop:=match o with
 | some (.d x)=>post (.d x) ρ
 | some (.own _ xs)=>post (.d (.lst xs)) (ρ.set i (.d (.lst xs)))
 | some (.bx a ls)=>toDB a ls fun x=>post (.d x) (ρ.set i (.d x))
 | _=>False
def wVar (i:Nat):W L:=fun ρ post=>varW ρ[i]? i ρ post
theorem Ef (x:D) (i:Nat) (ρ:Ev) (post:L→Ev→Prop):varW (some (.d x)) i ρ post=post (.d x) ρ:=(rfl)
theorem zM (a:Addr) (xs:List D) (i:Nat) (ρ:Ev) (post:L→Ev→Prop):varW (some (.own a xs)) i ρ post=post (.d (.lst xs)) (ρ.set i (.d (.lst xs))):=(rfl)
theorem B4 (a:Option Addr) (ls:List L) (i:Nat) (ρ:Ev) (post:L→Ev→Prop):varW (some (.bx a ls)) i ρ post=toDB a ls fun x=>post (.d x) (ρ.set i (.d x)):=(rfl)
theorem REnv.slot {K:PySem.W.Frag} {Pr H:Hp} {σ:St} {ρ:Ev} {i:Nat} {l:L} (E:REnv K Pr H σ ρ) (h:ρ[i]?=some l):∃s,σ[i]?=some s∧aM K H s l:=Paired.get2 E.sl h
theorem af (i:Nat) {x:Str} {pos:Pos} (hN:X.N[i]?=some x:=by rfl) (hv:Vis X.env.scope x:=by first | exact Or.inl rfl | exact Or.inr (Or.inl rfl) | exact Or.inr (Or.inr rfl)) (hd:(x == ("__debug__" : Str))=false:=by decide)
  (hcd:(x == ("__classdict__" : Str))=false:=by decide):PL X (.Name x pos) (wVar i):=by
 intro pins s σ H Pr ρ post I E h
 unfold wVar varW at h
 cases q:ρ[i]? with
 | none=>rw [q] at h;exact h.elim
 | some l =>
  rw [q] at h
  obtain ⟨sv,hs,sl⟩:=E.slot q
  cases l with
  | un=>exact h.elim
  | dic a kvs=>exact h.elim
  | d y =>
   obtain ⟨v,rfl,r⟩:=sl
   exact thn (dB hN hv hd hcd pins s σ H (fun w H'=>w=v∧H'=H) I ⟨v,hs,rfl,rfl⟩) fun u s1 ⟨w,H1,I1,r1,e1,e2⟩=>by
    subst e1 e2
    exact ⟨w,H1,_,ρ,I1,r1,E.cons_d r,h⟩
  | own a xs =>
   obtain ⟨rfl,vs,ha,r⟩:=sl
   refine thn (dB hN hv hd hcd pins s σ H (fun w H'=>w=.ref a∧H'=H) I ⟨.ref a,hs,rfl,rfl⟩) fun u s1 ⟨w,H1,I1,r1,e1,e2⟩=>?_
   subst e1 e2
   obtain ⟨o,I2⟩:=I1.freezeL ha
   have E2:=(E.out q).freeze ha o
   have hi:i <ρ.length:=(List.getElem?_eq_some_iff.mp q).1
   have E3:=E2.back (i:=i) (by simp [hi]) hs
   rw [List.set_set] at E3
   obtain ⟨_,e,p⟩:=E2.head_d
   cases e
   exact ⟨_,_,_,_,I2,r1,E3.cons_d p,h⟩
  | bx a ls =>
   obtain ⟨y,ey,h⟩:=nY h
   have hv':∃b,sv=some (.ref b):=by
    cases a with
    | none=>simp only [aM] at sl;obtain ⟨b,_,e,_⟩:=sl;exact ⟨b,e⟩
    | some b=>simp only [aM] at sl;exact ⟨b,sl.1⟩
   obtain ⟨b,rfl⟩:=hv'
   refine thn (dB hN hv hd hcd pins s σ H (fun w H'=>w=.ref b∧H'=H) I ⟨.ref b,hs,rfl,rfl⟩) fun u s1 ⟨w,H1,I1,r1,e1,e2⟩=>?_
   subst e1 e2
   obtain ⟨H2,I2,E2,_⟩:=frzL (.bx a ls) I1 (E.outL q hs) ey
   have hi:i <ρ.length:=(List.getElem?_eq_some_iff.mp q).1
   have E3:=E2.back (i:=i) (by simp [hi]) hs
   rw [List.set_set] at E3
   obtain ⟨_,e,p⟩:=E2.head_d
   cases e
   exact ⟨_,_,_,_,I2,r1,E3.cons_d p,h⟩
def movW (o:Option L) (i:Nat) (ρ:Ev) (post:L→Ev→Prop):Prop:=match o with
 | some (.d x)=>post (.d x) ρ
 | some (.own a xs)=>post (.own a xs) (ρ.set i .un)
 | some (.bx a ls)=>post (.bx a ls) (ρ.set i .un)
 | _=>False
def lz (i:Nat):W L:=fun ρ post=>movW ρ[i]? i ρ post
theorem Eg (x:D) (i:Nat) (ρ:Ev) (post:L→Ev→Prop):movW (some (.d x)) i ρ post=post (.d x) ρ:=(rfl)
theorem zN (a:Addr) (xs:List D) (i:Nat) (ρ:Ev) (post:L→Ev→Prop):movW (some (.own a xs)) i ρ post=post (.own a xs) (ρ.set i .un):=(rfl)
theorem B5 (a:Option Addr) (ls:List L) (i:Nat) (ρ:Ev) (post:L→Ev→Prop):movW (some (.bx a ls)) i ρ post=post (.bx a ls) (ρ.set i .un):=(rfl)
theorem eW (i:Nat) {x:Str} {pos:Pos} (hN:X.N[i]?=some x:=by rfl) (hv:Vis X.env.scope x:=by first | exact Or.inl rfl | exact Or.inr (Or.inl rfl) | exact Or.inr (Or.inr rfl)) (hd:(x == ("__debug__" : Str))=false:=by decide)
  (hcd:(x == ("__classdict__" : Str))=false:=by decide):PL X (.Name x pos) (lz i):=by
 intro pins s σ H Pr ρ post I E h
 unfold lz movW at h
 cases q:ρ[i]? with
 | none=>rw [q] at h;exact h.elim
 | some l =>
  rw [q] at h
  obtain ⟨sv,hs,sl⟩:=E.slot q
  cases l with
  | un=>exact h.elim
  | dic a kvs=>exact h.elim
  | d y =>
   obtain ⟨v,rfl,r⟩:=sl
   exact thn (dB hN hv hd hcd pins s σ H (fun w H'=>w=v∧H'=H) I ⟨v,hs,rfl,rfl⟩) fun u s1 ⟨w,H1,I1,r1,e1,e2⟩=>by
    subst e1 e2
    exact ⟨w,H1,_,ρ,I1,r1,E.cons_d r,h⟩
  | own a xs =>
   obtain ⟨rfl,vs,ha,r⟩:=sl
   refine thn (dB hN hv hd hcd pins s σ H (fun w H'=>w=.ref a∧H'=H) I ⟨.ref a,hs,rfl,rfl⟩) fun u s1 ⟨w,H1,I1,r1,e1,e2⟩=>?_
   subst e1 e2
   exact ⟨_,_,_,_,I1,r1,E.out q,h⟩
  | bx a ls =>
   have hv':∃b,sv=some (.ref b):=by
    cases a with
    | none=>simp only [aM] at sl;obtain ⟨b,_,e,_⟩:=sl;exact ⟨b,e⟩
    | some b=>simp only [aM] at sl;exact ⟨b,sl.1⟩
   obtain ⟨b,rfl⟩:=hv'
   refine thn (dB hN hv hd hcd pins s σ H (fun w H'=>w=.ref b∧H'=H) I ⟨.ref b,hs,rfl,rfl⟩) fun u s1 ⟨w,H1,I1,r1,e1,e2⟩=>?_
   subst e1 e2
   exact ⟨_,_,_,_,I1,r1,E.outL q hs,h⟩
theorem B6 {x:Str} {v:V} {u:Value} {y:D} {pos:Pos} (hg:Gl X x) (hm:X.mg x=some u) (r:RelV v u) (hy:∀ H,Rep X.K H v y) (hd:(x == ("__debug__" : Str))=false:=by decide):PL X (.Name x pos) (wC y) :=
 PL.of (rL hg hm r hd) fun σ H Pr ρ post E h=>⟨_,_,E.cons_d (hy H),h⟩
def isBl:L→(Bool→Prop)→Prop
 | .d (.bl b),k=>k b
 | _,_=>False
def aI (t:W L):W Bool:=fun ρ post=>t ρ fun r ρ1=>isBl r fun b=>post b ρ1
theorem nZ {r:L} {k:Bool→Prop} (h:isBl r k):∃b,r=.d (.bl b)∧k b:=by
 cases r with
 | d x=>cases x with
  | bl b=>exact ⟨b,rfl,h⟩
  | _=>exact h.elim
 | _=>exact h.elim
theorem bQ {t:W L} (h:PL X e t) (he:∀whole,isTrue e X.env whole=(do let v ← whole;standAt e.pos;holding [v] (truthy v)):=by intro _;rfl):PB X e (aI t):=by
 intro pins s σ H Pr ρ post I E ht
 rw [he]
 refine wpAny_bind (thn (h pins s σ H Pr ρ _ I E ht) fun u s1 ⟨v,H1,r,ρ1,I1,rv,E1,p⟩=>wpAny_bind (wpAny_standAt (wpAny_holding ?_)))
 obtain ⟨b,rfl,p⟩:=nZ p
 obtain ⟨_,e1,p1⟩:=E1.head_d
 cases e1
 cases p1
 cases rv
 exact wpAny_truthy_bool ⟨H1,ρ1,I1,E1.tail,p⟩
end
end L2
namespace L2
open PySem PySem.Spec PyProof.Rows
section
variable {X:Cx} {e a b c:Expr} {es rest:List Expr} {pos:Pos} {ta tb tc:W L} {tA tB:W Bool}
def PBw (X:Cx) (e:Expr) (t:W Bool):Prop :=
 ∀(whole:Sem Value) (pins:List (Addr×Obj)) (s:Shared) (σ:St) (H Pr:Hp) (ρ:Ev) (post:Bool→Ev→Prop),Inv X pins σ H s→REnv X.K Pr H σ ρ→t ρ post→wpAny (model X.prog X.w) X.A (isTrue e X.env whole) (EB X pins σ Pr post) X.xe s
theorem PBw.pb {t:W Bool} (h:PBw X e t):PB X e t:=h _
def wAnd (t u:W Bool):W Bool:=fun ρ post=>t ρ fun c ρ1=>if c=true then u ρ1 post else post false ρ1
def wOr (t u:W Bool):W Bool:=fun ρ post=>t ρ fun c ρ1=>if c=true then post true ρ1 else u ρ1 post
def wNot (t:W Bool):W Bool:=fun ρ post=>t ρ fun c ρ1=>post (!c) ρ1
theorem zO (ha:PB X a tA):PBw X (.BoolOp .And [a] pos) tA:=by
 intro wh pins s σ H Pr ρ post I E h
 refine isTrue_and (thn (ha pins s σ H Pr ρ post I E h) fun c s1 e=>?_)
 cases c with
 | true=>exact isTrue_and_nil e
 | false=>exact e
theorem c7 (ha:PB X a tA):PBw X (.BoolOp .Or [a] pos) tA:=by
 intro wh pins s σ H Pr ρ post I E h
 refine isTrue_or (thn (ha pins s σ H Pr ρ post I E h) fun c s1 e=>?_)
 cases c with
 | false=>exact isTrue_or_nil e
 | true=>exact e
theorem B7 (ha:PB X a tA) (hb:PBw X (.BoolOp .And (b::rest) pos) tB):PBw X (.BoolOp .And (a::b::rest) pos) (wAnd tA tB):=by
 intro wh pins s σ H Pr ρ post I E h
 refine isTrue_and (thn (ha pins s σ H Pr ρ _ I E h) fun c s1 ⟨H1,ρ1,I1,E1,q1⟩=>?_)
 cases c with
 | true=>exact hb wh pins s1 σ H1 Pr ρ1 post I1 E1 q1
 | false=>exact ⟨H1,ρ1,I1,E1,q1⟩
theorem dE (ha:PB X a tA) (hb:PBw X (.BoolOp .Or (b::rest) pos) tB):PBw X (.BoolOp .Or (a::b::rest) pos) (wOr tA tB):=by
 intro wh pins s σ H Pr ρ post I E h
 refine isTrue_or (thn (ha pins s σ H Pr ρ _ I E h) fun c s1 ⟨H1,ρ1,I1,E1,q1⟩=>?_)
 cases c with
 | true=>exact ⟨H1,ρ1,I1,E1,q1⟩
 | false=>exact hb wh pins s1 σ H1 Pr ρ1 post I1 E1 q1
theorem dX (ha:PB X a tA):PB X (.UnaryOp .Not a pos) (wNot tA):=by
 intro pins s σ H Pr ρ post I E h
 exact isTrue_not (ha pins s σ H Pr ρ (fun c ρ1=>post (!c) ρ1) I E h)
theorem pbc {op:CmpOp} {o:Op2} (ho:OpD X (compareOp op) o) (ha:PL X a ta) (hb:PL X b tb) (hm:behindInMarks op b=false):PB X (.Compare a [op] [b] pos) (aI (wBin o ta tb)):=by
 intro pins s σ H Pr ρ post I E h
 refine wpAny_isTrue_Compare1 (two (R:=fun dx dy ρ2=>o dx dy fun r=>isBl r fun b=>post b ρ2) ha hb I E h fun v u s2 x y H2 dx dy ρ2 I2 r1 r2 E2 p1 p2 q=>?_) hm
 refine thn (ho pins s2 σ H2 Pr ρ2 x y v u dx dy _ I2 r1 r2 E2.tail.tail p1 p2 q) fun w s3 ⟨z,H3,r,I3,rz,E3,p⟩=>?_
 obtain ⟨b,rfl,p⟩:=nZ p
 obtain ⟨_,e1,p1⟩:=E3.head_d
 cases e1
 cases p1
 cases rz
 exact wpAny_truthy_bool ⟨H3,ρ2,I3,E3.tail,p⟩
def jq (ta tb:W L):W L:=fun ρ post=>ta ρ fun r ρ1=>isBl r fun c=>if c=true then tb ρ1 post else post (.d (.bl false)) ρ1
def w8 (t:W Bool):W L:=fun ρ post=>t ρ fun c ρ1=>post (.d (.bl (!c))) ρ1
theorem kW {op} {t:W L} (h:PL X a t):PL X (.BoolOp op [a] pos) t:=fun pins s σ H Pr ρ post I E hw=>BoolOp_one (h pins s σ H Pr ρ post I E hw)
theorem EL.bl {pins:List (Addr×Obj)} {σ:St} {Pr:Hp} {post:Bool→Ev→Prop} {u:Value} {s':Shared} (h:EL X pins σ Pr (fun r ρ=>isBl r fun b=>post b ρ) u s') :
  ∃H' b ρ',u=.bool b∧Inv X pins σ H' s'∧REnv X.K Pr H' σ ρ'∧post b ρ':=by
 obtain ⟨v,H',r,ρ',I,rv,E,p⟩:=h
 obtain ⟨b,rfl,p⟩:=nZ p
 obtain ⟨_,e1,p1⟩:=E.head_d
 cases e1
 cases p1
 cases rv
 exact ⟨H',b,ρ',rfl,I,E.tail,p⟩
theorem fH (ha:PL X a ta) (hb:PL X (.BoolOp .And (b::rest) pos) tb):PL X (.BoolOp .And (a::b::rest) pos) (jq ta tb):=by
 intro pins s σ H Pr ρ post I E h
 refine BoolOp_and (thn (ha pins s σ H Pr ρ _ I E h) fun v s1 q=>?_)
 obtain ⟨H1,c,ρ1,rfl,I1,E1,q1⟩:=EL.bl (post:=fun c ρ1=>if c=true then tb ρ1 post else post (.d (.bl false)) ρ1) q
 refine wpAny_truthy_bool ?_
 cases c with
 | true=>exact hb pins s1 σ H1 Pr ρ1 post I1 E1 q1
 | false=>exact ⟨.bl false,H1,_,ρ1,I1,rfl,E1.cons_d (.bl false),q1⟩
theorem w9 (ha:PL X a ta):PL X (.UnaryOp .Not a pos) (w8 (aI ta)):=by
 intro pins s σ H Pr ρ post I E h
 refine UnaryOp_ (thn (ha pins s σ H Pr ρ _ I E h) fun v s1 q=>?_)
 obtain ⟨H1,c,ρ1,rfl,I1,E1,q1⟩:=EL.bl (post:=fun c ρ1=>post (.d (.bl (!c))) ρ1) q
 exact not_of (wpAny_truthy_bool ⟨.bl (!c),H1,_,ρ1,I1,rfl,E1.cons_d (.bl _),q1⟩)
def wIfE (t:W Bool) (ta tb:W L):W L:=fun ρ post=>t ρ fun c ρ1=>if c=true then ta ρ1 post else tb ρ1 post
theorem xa (hc:PB X c tA) (ha:PL X a ta) (hb:PL X b tb):PL X (.IfExp c a b pos) (wIfE tA ta tb):=by
 intro pins s σ H Pr ρ post I E h
 refine wpAny_IfExp (thn (hc pins s σ H Pr ρ _ I E h) fun d s1 ⟨H1,ρ1,I1,E1,q1⟩=>?_)
 cases d with
 | true=>exact ha pins s1 σ H1 Pr ρ1 post I1 E1 q1
 | false=>exact hb pins s1 σ H1 Pr ρ1 post I1 E1 q1
def wUn (op:D→(L→Prop)→Prop) (t:W L):W L:=fun ρ post=>t ρ fun x ρ1=>toD x fun dx=>op dx fun r=>post r ρ1
def rT:D→(L→Prop)→Prop
 | .int i,k=>k (.d (.int (-i)))
 | _,_=>False
theorem ue (ha:PL X a ta):PL X (.UnaryOp .USub a pos) (wUn rT ta):=by
 intro pins s σ H Pr ρ post I E h
 refine UnaryOp_ (thn (ha pins s σ H Pr ρ _ I E h) fun v s1 q=>?_)
 obtain ⟨x,H1,dx,ρ1,I1,r1,E1,q1⟩:=EL.frz (post:=fun dx ρ1=>rT dx fun r=>post r ρ1) q
 obtain ⟨_,e1,p1⟩:=E1.head_d
 cases e1
 cases p1 with
 | int i =>
  exact thn (DW pins s1 σ H1 _ v (fun w H'=>w=.int (-i)∧H'=H1) I1 r1 ⟨i,rfl,rfl,rfl⟩) fun u s2 ⟨w,H2,I2,r2,e1,e2⟩=>by
   subst e1 e2
   exact ⟨_,_,_,ρ1,I2,r2,E1.tail.cons_d (.int _),q1⟩
 | _=>exact q1.elim
variable {st:Stmt} {sts:List Stmt} {t u:W Fl}
def bq:W Fl:=fun ρ post=>post .nx ρ
def wSeq (t u:W Fl):W Fl:=fun ρ post=>t ρ fun f ρ1=>match f with
 | .nx=>u ρ1 post
 | f=>post f ρ1
theorem aQ:PMs X [] bq:=fun _ _ σ H Pr ρ post I E h=>wpAny_execs_nil ⟨σ,H,ρ,I,E,h⟩
theorem ai (h1:PM X st t) (h2:PMs X sts u):PMs X (st::sts) (wSeq t u):=by
 intro pins s σ H Pr ρ post I E h
 refine wpAny_execs_cons (thn (h1 pins s σ H Pr ρ _ I E h) fun f s1 q=>?_)
 cases f with
 | next =>
  obtain ⟨σ',H',ρ',I',E',q⟩:=q
  exact h2 pins s1 σ' H' Pr ρ' post I' E' q
 | ret v=>exact q
 | brk=>exact q
 | cont=>exact q
theorem ak (h1:PM X st t):PMs X [st] t:=by
 intro pins s σ H Pr ρ post I E h
 refine wpAny_execs_cons (thn (h1 pins s σ H Pr ρ _ I E h) fun f s1 q=>?_)
 cases f with
 | next=>exact wpAny_execs_nil q
 | ret v=>exact q
 | brk=>exact q
 | cont=>exact q
def m5 (t:W L):W Fl:=fun ρ post=>t ρ fun _ ρ1=>post .nx ρ1
theorem fV {te:W L} (he:PL X e te) (hs:swapsWith e none pos.line X.env=pure false:=by rfl):PM X (.Expr e pos) (m5 te):=by
 intro pins s σ H Pr ρ post I E h
 exact wpAny_Expr_any (thn (he pins s σ H Pr ρ _ I E h) fun v s1 ⟨x,H1,r,ρ1,I1,r1,E1,q1⟩=>⟨σ,H1,ρ1,I1,E1.tail,q1⟩) I.quiet hs
def wRet (t:W L):W Fl:=fun ρ post=>t ρ fun r ρ1=>post (.rt r) ρ1
theorem aD {te:W L} (he:PL X e te):PM X (.Return (some e) pos) (wRet te):=by
 intro pins s σ H Pr ρ post I E h
 exact wpAny_Return_some (thn (he pins s σ H Pr ρ _ I E h) fun v s1 ⟨x,H1,r,ρ1,I1,r1,E1,q1⟩=>⟨x,σ,H1,r,ρ1,σ,I1,r1,E1,q1⟩)
def wIf (c:W Bool) (t u:W Fl):W Fl:=fun ρ post=>c ρ fun b ρ1=>if b=true then t ρ1 post else u ρ1 post
theorem bT {sa sb:List Stmt} (hc:PB X c tA) (ha:PMs X sa t) (hb:PMs X sb u):PM X (.If c sa sb pos) (wIf tA t u):=by
 intro pins s σ H Pr ρ post I E h
 refine wpAny_If (thn (hc pins s σ H Pr ρ _ I E h) fun d s1 ⟨H1,ρ1,I1,E1,q1⟩=>?_)
 cases d with
 | true=>exact ha pins s1 σ H1 Pr ρ1 post I1 E1 q1
 | false=>exact hb pins s1 σ H1 Pr ρ1 post I1 E1 q1
theorem REnv.forget {K:PySem.W.Frag} {Pr H:Hp} {σ:St} {ρ:Ev} (E:REnv K Pr H σ ρ) (i:Nat) (v:Option V):REnv K Pr H (σ.set i v) (ρ.set i .un):=by
 have hsub:(owns (ρ.set i .un)).Sublist (owns ρ):=by
  have:∀(ρ:Ev) (i:Nat),(owns (ρ.set i .un)).Sublist (owns ρ):=by
   intro ρ
   induction ρ with
   | nil=>intro i;exact List.Sublist.refl _
   | cons l ρ ih =>
    intro i
    cases i with
    | zero =>
     show (owns ρ).Sublist (owns (l::ρ))
     rw [aA];exact List.sublist_append_right _ _
    | succ i =>
     show (owns (l::ρ.set i .un)).Sublist (owns (l::ρ))
     rw [aA,aA]
     exact (List.Sublist.refl _).append (ih i)
  exact this ρ i
 exact ⟨E.sub,E.nd.sublist hsub,fun a h=>E.off a (hsub.subset h),Paired.set2 True.intro i E.sl⟩
theorem REnv.store {K:PySem.W.Frag} {Pr H:Hp} {σ:St} {ρ:Ev} {v:Option V} {l:L} (E:REnv K Pr H (v::σ) (l::ρ)) {i:Nat} (hi:i <σ.length):REnv K Pr H (σ.set i v) (ρ.set i l):=by
 have E1:=E.forget (i+1) v
 have E2:REnv K Pr H (v::σ.set i v) (l::ρ.set i .un):=E1
 have hl:=E.tail.len
 have E3:=E2.back (i:=i) (by rw [List.getElem?_set_self (by omega)]) (by rw [List.getElem?_set_self hi])
 rw [List.set_set] at E3
 exact E3
def wSet (i:Nat) (t:W L):W Fl:=fun ρ post=>t ρ fun r ρ1=>post .nx (ρ1.set i r)
theorem av {i:Nat} {x:Str} {te:W L} {pos':Pos} (hN:X.N.Nodup) (hi:X.N[i]?=some x) (hx:Loc X.env.scope x) (he:PL X e te) (hs:swapsWith e (some (.Name x pos')) pos.line X.env=pure false:=by rfl) (hf:X.fn x=true∨X.env.scope.names.lookup x=some .local:=by first|exact .inl rfl|exact .inr rfl|assumption) :
  PM X (.Assign [.Name x pos'] e pos) (wSet i te):=by
 intro pins s σ H Pr ρ post I E h
 refine wpAny_Assign_Name (thn (he pins s σ H Pr ρ _ I E h) fun v s1 ⟨y,H1,r,ρ1,I1,r1,E1,q1⟩=>?_) hs
 exact eU I1 hN hi hx r1 (fun s2 I2=>⟨_,H1,_,I2,E1.store (by rw [I1.len];exact (List.getElem?_eq_some_iff.mp hi).1),q1⟩) hf
end
end L2
namespace L2
open PySem PySem.Spec PyProof.Rows
theorem jr {a b:Ev} (h:a.Perm b):(owns a).Perm (owns b):=by
 induction h with
 | nil=>exact .refl _
 | cons x _ ih=>rw [aA,aA];exact ih.append_left _
 | swap x y l =>
  rw [aA,aA,aA,aA,← List.append_assoc,← List.append_assoc]
  exact List.Perm.append_right _ List.perm_append_comm
 | trans _ _ h1 h2=>exact h1.trans h2
theorem zP {a b:Ev} (h:a.Sublist b):(owns a).Sublist (owns b):=by
 induction h with
 | slnil=>exact .refl _
 | cons x _ ih=>rw [aA];exact ih.trans (List.sublist_append_right _ _)
 | cons_cons x _ ih=>rw [aA,aA];exact (List.Sublist.refl _).append ih
def tL (K:PySem.W.Frag) (t:W L):TE:=fun σ H Q=>∃Pr ρ post,REnv K Pr H σ ρ∧t ρ post∧∀v H' r ρ',REnv K Pr H' (some v::σ) (r::ρ')→post r ρ'→Q v H'
def tW (K:PySem.W.Frag) (t:W Fl):TS:=fun D σ H=>∃Pr ρ post,REnv K Pr H σ ρ∧t ρ post∧(∀σ' H' ρ',REnv K Pr H' σ' ρ'→post .nx ρ'→D.nx σ' H')∧(∀σ' H' ρ',REnv K Pr H' σ' ρ'→post .bk ρ'→D.bk σ' H')∧(∀σ' H' ρ',REnv K Pr H' σ' ρ'→post .ct ρ'→D.ct σ' H') ∧
 ∀v τ H' r ρ',REnv K Pr H' (some v::τ) (r::ρ')→post (.rt r) ρ'→D.rt v H'
def tWb (K:PySem.W.Frag) (t:W Bool):TT:=fun σ H Q=>∃Pr ρ post,REnv K Pr H σ ρ∧t ρ post∧∀b H' ρ',REnv K Pr H' σ ρ'→post b ρ'→Q b H'
section
variable {X:Cx} {e a b c:Expr} {es rest:List Expr} {pos:Pos} {ta tb tc:W L} {tA tB:W Bool} {st:Stmt} {sts:List Stmt} {t u:W Fl}
theorem PL.pe {t:W L} (h:PL X e t):PE X e (tL X.K t):=fun pins s σ H Q I ⟨Pr,ρ,post,E,ht,q⟩ =>
 thn (h pins s σ H Pr ρ post I E ht) fun u s1 ⟨v,H1,r,ρ1,I1,rv,E1,p⟩=>⟨v,H1,I1,rv,q v H1 r ρ1 E1 p⟩
theorem PB.pt {t:W Bool} (h:PB X e t):PT X e (tWb X.K t):=fun pins s σ H Q I ⟨Pr,ρ,post,E,ht,q⟩ =>
 thn (h pins s σ H Pr ρ post I E ht) fun b s1 ⟨H1,ρ1,I1,E1,p⟩=>⟨H1,I1,q b H1 ρ1 E1 p⟩
theorem PMs.pss (h:PMs X sts t):PSs X sts (tW X.K t):=fun pins s σ H D I ⟨Pr,ρ,post,E,ht,q1,q2,q3,q4⟩ =>
 thn (h pins s σ H Pr ρ post I E ht) fun f s1 q=>by
  cases f with
  | next=>obtain ⟨σ',H',ρ',I',E',p⟩:=q;exact ⟨σ',H',I',q1 σ' H' ρ' E' p⟩
  | brk=>obtain ⟨σ',H',ρ',I',E',p⟩:=q;exact ⟨σ',H',I',q2 σ' H' ρ' E' p⟩
  | cont=>obtain ⟨σ',H',ρ',I',E',p⟩:=q;exact ⟨σ',H',I',q3 σ' H' ρ' E' p⟩
  | ret u=>obtain ⟨v,σ',H',r,ρ',τ,I',rv,E',p⟩:=q;exact ⟨v,σ',H',I',rv,q4 v τ H' r ρ' E' p⟩
def Eh (K:PySem.W.Frag) (Pr:Hp) (post:Fl→Ev→Prop):Ends where
 nx:=fun σ' H'=>∃ρ',REnv K Pr H' σ' ρ'∧post .nx ρ'
 rt:=fun v H'=>∃τ r ρ',REnv K Pr H' (some v::τ) (r::ρ')∧post (.rt r) ρ'
 bk:=fun σ' H'=>∃ρ',REnv K Pr H' σ' ρ'∧post .bk ρ'
 ct:=fun σ' H'=>∃ρ',REnv K Pr H' σ' ρ'∧post .ct ρ'
theorem PM.of {ts:TS} (h:PS X st ts) (q:∀σ H Pr ρ post,σ.length=X.N.length→REnv X.K Pr H σ ρ→t ρ post→ts (Eh X.K Pr post) σ H):PM X st t:=fun pins s σ H Pr ρ post I E ht =>
 thn (h pins s σ H _ I (q σ H Pr ρ post I.len E ht)) fun f s1 q=>by
  cases f with
  | next=>obtain ⟨σ',H',I',ρ',E',p⟩:=q;exact ⟨σ',H',ρ',I',E',p⟩
  | brk=>obtain ⟨σ',H',I',ρ',E',p⟩:=q;exact ⟨σ',H',ρ',I',E',p⟩
  | cont=>obtain ⟨σ',H',I',ρ',E',p⟩:=q;exact ⟨σ',H',ρ',I',E',p⟩
  | ret u=>obtain ⟨v,σ',H',I',rv,τ,r,ρ',E',p⟩:=q;exact ⟨v,σ',H',r,ρ',τ,I',rv,E',p⟩
theorem REnv.narrow {K:PySem.W.Frag} {Pr H1 H:Hp} {σ1 σ:St} {ρ1 ρ:Ev} (E1:REnv K Pr H1 σ1 ρ1) (E:REnv K (ba H1 ρ1) H σ ρ):REnv K Pr H σ ρ:=by
 refine ⟨fun b o e=>E.sub b o ?_,E.nd,fun a ha=>?_,E.sl⟩
 ·
  unfold ba
  rw [if_neg,E1.sub b o e]
  intro hm
  have z:=E1.off b hm
  rw [e] at z
  cases z
 ·
  have z:=E.off a ha
  unfold ba at z
  by_cases hm:a∈owns ρ1
  ·
   exact E1.off a hm
  ·
   rw [if_neg hm] at z
   cases q:Pr a with
   | none=>rfl
   | some o=>rw [E1.sub a o q] at z;cases z
def aNil:W (List L):=fun ρ post=>post [] ρ
def aVal (t:W L) (r:W (List L)):W (List L):=fun ρ post=>t ρ fun x ρ1=>r ρ1 fun xs ρ2=>post (x::xs) ρ2
def aVar (i:Nat) (r:W (List L)):W (List L):=fun ρ post=>match ρ[i]? with
 | some (.own _ _)=>r ρ fun xs ρ2=>post (.un::xs) ρ2
 | _=>False
theorem ag:PAL X [] [] aNil:=fun _ pins s σ H Pr ρ post I E h=>Calls.spliced_nil ⟨[],H,[],ρ,I,.nil,rfl,rfl,E,fun k i e=>by simp at e,h⟩
theorem ae {bs:List (Option Nat)} {r:W (List L)} {t:W L} (ha:PL X e t) (hr:PAL X es bs r) (hs:starEach (e::es) X.env=(false,eval e X.env)::starEach es X.env:=by rfl):PAL X (e::es) (none::bs) (aVal t r):=by
 intro pos pins s σ H Pr ρ post I E h
 rw [hs]
 show wpAny _ _ (spliced ((false,eval e X.env)::backTo pos (starEach es X.env))) _ _ s
 refine Calls.spliced_cons (thn (ha pins s σ H Pr ρ _ I E h) fun u s1 ⟨x,H1,l,ρ1,I1,r1,E1,q1⟩=>?_)
 refine thn (hr pos pins s1 σ H1 _ ρ1 _ I1 E1.tail.wide q1) fun us s2 ⟨vs,H2,ls,ρ2,I2,r2,hl,hb,E2,hv,q2⟩=>?_
 have E3:REnv X.K Pr H2 (vs.map some++(some x::σ)) (ls++(l::ρ2)):=REnv.step (τ:=[some x]) (lam:=[l]) E1 rfl E2 (by simp [hl])
 have E4:REnv X.K Pr H2 (some x::(vs.map some++σ)) (l::(ls++ρ2)):=by
  have pm:(owns (ls++(l::ρ2))).Perm (owns (l::(ls++ρ2))):=jr List.perm_middle
  have s1:=Paired.unapp (by simp [hl]) E3.sl
  obtain ⟨s1,s2⟩:=s1
  cases s2 with
  | cons q t=>exact ⟨E3.sub,pm.nodup_iff.mp E3.nd,fun a h=>E3.off a (pm.mem_iff.mpr h),.cons q (Paired.app s1 t)⟩
 refine ⟨x::vs,H2,l::ls,ρ2,I2,.cons r1 r2,by simp [hl],by simp [hb],E4,fun k i e=>?_,q2⟩
 cases k with
 | zero=>simp at e
 | succ k=>simpa using hv k i (by simpa using e)
theorem aR (i:Nat) {x:Str} {p:Pos} {bs:List (Option Nat)} {r:W (List L)} (hr:PAL X es bs r) (hN:X.N[i]?=some x:=by rfl) (hv:Vis X.env.scope x:=by first | exact Or.inl rfl | exact Or.inr (Or.inl rfl) | exact Or.inr (Or.inr rfl)) (hd:(x == ("__debug__" : Str))=false:=by decide)
  (hcd:(x == ("__classdict__" : Str))=false:=by decide) (hs:starEach (.Name x p::es) X.env=(false,eval (.Name x p) X.env)::starEach es X.env:=by rfl):PAL X (.Name x p::es) (some i::bs) (aVar i r):=by
 intro pos pins s σ H Pr ρ post I E h
 unfold aVar at h
 cases q:ρ[i]? with
 | none=>rw [q] at h;exact h.elim
 | some l =>
  rw [q] at h
  cases l with
  | un=>exact h.elim
  | d y=>exact h.elim
  | bx _ _=>exact h.elim
  | dic _ _=>exact h.elim
  | own a xs =>
   obtain ⟨sv,hsl,sl⟩:=E.slot q
   obtain ⟨rfl,_⟩:=sl
   rw [hs]
   show wpAny _ _ (spliced ((false,eval (.Name x p) X.env)::backTo pos (starEach es X.env))) _ _ s
   refine Calls.spliced_cons (thn (dB hN hv hd hcd pins s σ H (fun w H'=>w=.ref a∧H'=H) I ⟨.ref a,hsl,rfl,rfl⟩) fun u s1 ⟨w,H1,I1,r1,e1,e2⟩=>?_)
   subst e1 e2
   refine thn (hr pos pins s1 σ H1 Pr ρ _ I1 E h) fun us s2 ⟨vs,H2,ls,ρ2,I2,r2,hl,hb,E2,hv,q2⟩=>?_
   refine ⟨.ref a::vs,H2,.un::ls,ρ2,I2,.cons r1 r2,by simp [hl],by simp [hb],E2.cons_un,fun k j e=>?_,q2⟩
   cases k with
   | zero=>simp at e;subst e;exact ⟨rfl,.ref a,rfl,hsl⟩
   | succ k=>simpa using hv k j (by simpa using e)
def toDs:List L→(List D→Prop)→Prop
 | [],k=>k []
 | .d x::r,k=>toDs r fun xs=>k (x::xs)
 | _::_,_=>False
theorem fW:∀{ls:List L} {k:List D→Prop},toDs ls k→∃xs,ls=xs.map .d∧k xs
 | [],_,h=>⟨[],rfl,h⟩
 | .d x::r,k,h=>by
  obtain ⟨xs,e,q⟩:=fW (ls:=r) h
  exact ⟨x::xs,by rw [e];rfl,q⟩
 | .un::_,_,h=>h.elim
 | .own _ _::_,_,h=>h.elim
theorem fX {K:PySem.W.Frag} {Pr H:Hp} {σ:St} {ρ:Ev}:∀{vs:List V} {xs:List D},vs.length=xs.length→REnv K Pr H (vs.map some++σ) (xs.map .d++ρ)→Reps K H vs xs
 | [],[],_,_=>.nil
 | v::vs,x::xs,hl,E=>by
  obtain ⟨w,e,r⟩:=REnv.head_d (v:=some v) (x:=x) E
  cases e
  exact .cons r (fX (by simpa using hl) (REnv.tail (v:=some v) (l:=.d x) E))
 | [],_::_,hl,_=>by simp at hl
 | _::_,[],hl,_=>by simp at hl
def wTup (t:W (List L)):W L:=fun ρ post=>t ρ fun ls ρ1=>toDs ls fun xs=>xs.length≤sizeLine∧post (.d (.tup xs)) ρ1
def wLst (t:W (List L)):W L:=fun ρ post=>t ρ fun ls ρ1=>toDs ls fun xs=>xs.length≤sizeLine∧∀a,post (.own a xs) ρ1
theorem aJ {x1} {bs:List (Option Nat)} {t:W (List L)} (h:PAL X es bs t):PL X (.Tuple es x1 pos) (wTup t):=by
 intro pins s σ H Pr ρ post I E hq
 refine wpAny_Tuple_spliced (thn (h pos pins s σ H Pr ρ _ I E hq) fun us s1 ⟨vs,H1,ls,ρ1,I1,r,hl,hb,E1,hv,q⟩=>?_)
 obtain ⟨xs,rfl,z,q⟩:=fW q
 have hlen:vs.length=xs.length:=by simpa using hl
 refine ⟨by rw [← r.length,hlen];exact z,?_⟩
 have hf:H1 s1.heap.objs.size=none:=I1.hok.fresh (Nat.le_refl _)
 refine ⟨.ref s1.heap.objs.size,upd H1 s1.heap.objs.size (.tup vs),_,ρ1,I1.laid (t':=s1.toks) (fun b u e=>Heap.get?_push_of_some _ e) (Nat.le_refl _) ?_,rfl,(E1.drop (by simp [hlen])).cons_tup hf (fX hlen E1),q⟩
 exact ⟨by rw [hlen];exact z,us,r,⟨_,Heap.get?_push_size _ rfl,rfl,_,rfl⟩⟩
theorem aY {bs:List (Option Nat)} {t:W (List L)} (h:PAL X es bs t):PL X (.List es pos) (wLst t):=by
 intro pins s σ H Pr ρ post I E hq
 refine wpAny_List_spliced (thn (h pos pins s σ H Pr ρ _ I E hq) fun us s1 ⟨vs,H1,ls,ρ1,I1,r,hl,hb,E1,hv,q⟩=>?_)
 obtain ⟨xs,rfl,z,q⟩:=fW q
 have hlen:vs.length=xs.length:=by simpa using hl
 refine ⟨by rw [← r.length,hlen];exact z,?_⟩
 have hf:H1 s1.heap.objs.size=none:=I1.hok.fresh (Nat.le_refl _)
 refine ⟨.ref s1.heap.objs.size,upd H1 s1.heap.objs.size (.lst vs),_,ρ1,I1.laid (t':=s1.toks) (fun b u e=>Heap.get?_push_of_some _ e) (Nat.le_refl _) ?_,rfl,(E1.drop (by simp [hlen])).cons_own hf (fX hlen E1),q _⟩
 exact ⟨by rw [hlen];exact z,us,0,r,Heap.get?_push_size _ rfl⟩
abbrev FS:=List L→(L→List L→Prop)→Prop
def spF (K:PySem.W.Frag) (n:Nat) (fs:FS):Sp:=fun vs H Q _=>vs.length=n∧∃Pr ls post,REnv K Pr H (vs.map some) ls∧fs ls post∧∀v H' r ls',REnv K Pr H' (some v::vs.map some) (r::ls')→post r ls'→Q v H'
theorem REnv.swap {K:PySem.W.Frag} {Pr H:Hp} {σ τ:St} {ρ lam:Ev} (hl:τ.length=lam.length) (E:REnv K Pr H (τ++σ) (lam++ρ)):REnv K Pr H (σ++τ) (ρ++lam):=by
 have pm:(owns (lam++ρ)).Perm (owns (ρ++lam)):=jr List.perm_append_comm
 obtain ⟨s1,s2⟩:=Paired.unapp hl E.sl
 exact ⟨E.sub,pm.nodup_iff.mp E.nd,fun a h=>E.off a (pm.mem_iff.mpr h),Paired.app s2 s1⟩
theorem Bi {K:PySem.W.Frag} {Pr H H':Hp} {σ τ:St} {ρ ls ls':Ev} {v:Option V} {r:L} (hl:τ.length=ls.length) (E:REnv K Pr H (τ++σ) (ls++ρ)) (E':REnv K (ba H ls) H' (v::τ) (r::ls')):REnv K Pr H' (v::(τ++σ)) (r::(ls'++ρ)):=by
 have hρ:σ.length=ρ.length:=(E.drop hl).len
 have z:=REnv.step (τ:=σ) (σ:=τ) (lam:=ρ) (ρ:=ls) (w:=[v]) (μ:=[r]) (E.swap hl) hρ E' rfl
 have hl':τ.length=ls'.length:=by have:=E'.len;simpa using this
 obtain ⟨s1,s2⟩:=Paired.unapp (a:=[v]) (b:=[r]) rfl z.sl
 obtain ⟨s2,s3⟩:=Paired.unapp hρ s2
 have pm:(owns ([r]++(ρ++ls'))).Perm (owns (r::(ls'++ρ))):=jr (List.Perm.cons r (List.perm_append_comm (l₁:=ρ) (l₂:=ls')))
 exact ⟨z.sub,pm.nodup_iff.mp z.nd,fun a h=>z.off a (pm.mem_iff.mpr h),Paired.app s1 (Paired.app s3 s2)⟩
def aP (fs:FS) (t:W (List L)):W L:=fun ρ post=>t ρ fun ls ρ1=>fs ls fun r _=>post r ρ1
def aZ (fs:FS) (k i:Nat) (t:W (List L)):W L:=fun ρ post=>t ρ fun ls ρ1=>match ρ1[i]? with
 | some (.own a xs)=>fs (ls.set k (.own a xs)) fun r ls'=>∃ys,ls'[k]?=some (.own a ys)∧post r (ρ1.set i (.own a ys))
 | _=>False
section
variable {CX:CXT} {k n:Nat} {f:Addr} {fd:FuncData} {ps:List Str} {fs:FS} {E:XK} {x:Str} {p:Pos} {bs:List (Option Nat)} {t:W (List L)}
theorem REnv.drop1 {K:PySem.W.Frag} {Pr H:Hp} {σ τ:St} {ρ lam:Ev} {v:Option V} {r:L} (hl:τ.length=lam.length) (E:REnv K Pr H (v::(τ++σ)) (r::(lam++ρ))):REnv K Pr H (v::σ) (r::ρ):=by
 obtain ⟨s1,s2⟩:=Paired.unapp (a:=[v]) (b:=[r]) rfl E.sl
 obtain ⟨s2,s3⟩:=Paired.unapp hl s2
 have sb:(owns (r::ρ)).Sublist (owns (r::(lam++ρ))):=zP (List.Sublist.cons_cons r (List.sublist_append_right _ _))
 exact ⟨E.sub,E.nd.sublist sb,fun a h=>E.off a (sb.subset h),Paired.app s1 s3⟩
theorem B8 (F:FnOk X.prog X.w X.K X.mg X.base CX k f fd ps (spF X.K n fs)) (hr:Room k X.A) (hg:Gl X x) (hm:X.mg x=some (.ref f)) (hk:PySem.W.keepIn X.K (.ref f)=true) (hb:ka X.K fd ps []) (hx:t9 CX X E)
  (ha:PAL X (e::es) bs t) (hn:bs.length=n) (hdb:(x == ("__debug__" : Str))=false:=by decide) (he:starEach (e::es) X.env=(false,eval e X.env)::starEach es X.env:=by rfl) (hpl:(backTo pos (starEach es X.env)).any (·.1)=false:=by rfl) :
  PL X (.Call (.Name x p) (e::es) [] pos) (aP fs t):=by
 intro pins s σ H Pr ρ post I E0 h
 refine wpAny_Call_Name_kw (fR I hg hm ?_ hdb)
 refine PySem.W.callWith_K (h₀:=X.base) I.ok.mod.kin hk (thn (ha pos pins s σ H Pr ρ _ I E0 h) fun us s1 ⟨vs,H1,ls,ρ1,I1,r,hl,hbl,E1,hv,q⟩=>⟨I1.kIn,?_⟩) he hpl
 have hl':(vs.map some).length=ls.length:=by simp [hl]
 refine thn (wN (Q:=fun v H'=>∃r ρ',REnv X.K Pr H' (some v::σ) (r::ρ')∧post r ρ') F hr hb .nil hx I1 r ?_) fun u s2 ⟨v,H2,I2,rv,r,ρ',E2,p⟩=>⟨v,H2,r,ρ',I2,rv,E2,p⟩
 rw [List.append_nil]
 refine ⟨hbl.trans hn,ba H1 ls,ls,_,(E1.left hl').wide,q,fun v H' r ls' E2 p=>⟨r,ρ1,?_,p⟩⟩
 have z:=Bi hl' E1 E2
 have hl2:(vs.map some).length=ls'.length:=by have:=E2.len;simpa using this
 exact z.drop1 hl2
theorem zQ (F:FnOk X.prog X.w X.K X.mg X.base CX k f fd ps (spF X.K n fs)) (hr:Room k X.A) (hg:Gl X x) (hm:X.mg x=some (.ref f)) (hk:PySem.W.keepIn X.K (.ref f)=true) (hb:ka X.K fd ps []) (hx:t9 CX X E)
  (j i:Nat) (ha:PAL X (e::es) bs t) (hj:bs[j]?=some (some i)) (hn:bs.length=n) (hdb:(x == ("__debug__" : Str))=false:=by decide) (he:starEach (e::es) X.env=(false,eval e X.env)::starEach es X.env:=by rfl) (hpl:(backTo pos (starEach es X.env)).any (·.1)=false:=by rfl) :
  PL X (.Call (.Name x p) (e::es) [] pos) (aZ fs j i t):=by
 intro pins s σ H Pr ρ post I E0 h
 refine wpAny_Call_Name_kw (fR I hg hm ?_ hdb)
 refine PySem.W.callWith_K (h₀:=X.base) I.ok.mod.kin hk (thn (ha pos pins s σ H Pr ρ _ I E0 h) fun us s1 ⟨vs,H1,ls,ρ1,I1,r,hl,hbl,E1,hv,q⟩=>⟨I1.kIn,?_⟩) he hpl
 have hl':(vs.map some).length=ls.length:=by simp [hl]
 refine thn (wN (Q:=fun v H'=>∃r ρ',REnv X.K Pr H' (some v::σ) (r::ρ')∧post r ρ') F hr hb .nil hx I1 r ?_) fun u s2 ⟨v,H2,I2,rv,r,ρ',E2,p⟩=>⟨v,H2,r,ρ',I2,rv,E2,p⟩
 rw [List.append_nil]
 dsimp only at q
 cases qi:ρ1[i]? with
 | none=>rw [qi] at q;exact q.elim
 | some l =>
  rw [qi] at q
  cases l with
  | un=>exact q.elim
  | d y=>exact q.elim
  | bx _ _=>exact q.elim
  | dic _ _=>exact q.elim
  | own a xs =>
   obtain ⟨hun,w,hw,hσ⟩:=hv j i hj
   obtain ⟨sv,hs2,rfl,_⟩:=(E1.drop hl').slot qi
   rw [hσ] at hs2
   cases hs2
   have hjl:j <ls.length:=(List.getElem?_eq_some_iff.mp hun).1
   have hjv:j <vs.length:=by omega
   have hil:i <ρ1.length:=(List.getElem?_eq_some_iff.mp qi).1
   have E2:=E1.out (i:=ls.length+i) (a:=a) (xs:=xs) (by rw [List.getElem?_append_right (by omega)];simpa using qi)
   rw [List.set_append_right _ _ (by omega),Nat.add_sub_cancel_left] at E2
   have E3:=E2.back (i:=j) (by rw [List.getElem?_append_left hjl];exact hun) (by rw [List.getElem?_append_left (by simp;omega)];simp [hw])
   rw [List.set_append_left _ _ hjl] at E3
   have hl3:(vs.map some).length=(ls.set j (.own a xs)).length:=by simp [hl]
   refine ⟨hbl.trans hn,ba H1 (ls.set j (.own a xs)),_,_,(E3.left hl3).wide,q,fun v H' r ls' E4 p=>?_⟩
   obtain ⟨ys,hys,p⟩:=p
   refine ⟨r,ρ1.set i (.own a ys),?_,p⟩
   have z:=Bi hl3 E3 E4
   have hl4:(vs.map some).length=ls'.length:=by have:=E4.len;simpa using this
   have hjl':j <ls'.length:=by simp at hl4;omega
   have z1:=z.out (i:=1+j) (a:=a) (xs:=ys) (by rw [Nat.add_comm];simp only [List.getElem?_cons_succ];rw [List.getElem?_append_left hjl'];exact hys)
   rw [Nat.add_comm 1 j,List.set_cons_succ,List.set_append_left _ _ hjl'] at z1
   have z2:=z1.back (i:=(1+ls'.length)+i) (by
    rw [Nat.add_comm 1,Nat.add_right_comm,List.getElem?_cons_succ,List.getElem?_append_right (by simp)]
    simp [hil]) (by
    rw [Nat.add_comm 1,Nat.add_right_comm,List.getElem?_cons_succ,List.getElem?_append_right (by simp at hl4 ⊢;omega)]
    simp at hl4 ⊢
    rw [← hl4,Nat.add_sub_cancel_left]
    exact hσ)
   rw [Nat.add_comm 1,Nat.add_right_comm,List.set_cons_succ,List.set_append_right _ _ (by simp)] at z2
   simp only [List.length_set,Nat.add_sub_cancel_left,List.set_set] at z2
   exact z2.drop1 (by simp at hl4 ⊢;exact hl4)
end
end
end L2
namespace L2
open PySem PySem.Spec PyProof.Rows
def Back (ρ:Ev):List L→List L→Prop:=Paired fun l l'=>match l with
 | .own a _=>∃ys,l'=.own a ys∧L.own a ys∈ρ
 | .bx _ _=>l'=.un
 | .dic _ _=>l'=.un
 | l=>l'=l
def a7 (ls:List L) (post:L→List L→Prop):Fl→Ev→Prop:=fun f ρ=>match f with
 | .rt r=>∃ls',Back ρ ls ls'∧post r ls'
 | .nx=>∃ls',Back ρ ls ls'∧post (.d .non) ls'
 | _=>False
theorem Back.owns {ρ:Ev}:∀{ls ls':List L},Back ρ ls ls'→(owns ls').Sublist (owns ls)
 | _,_,.nil=>.refl _
 | l::ls,l'::ls',.cons h t=>by
  have ih:=Back.owns t
  rw [aA,aA]
  cases l with
  | own a xs=>obtain ⟨ys,rfl,_⟩:=h;exact (List.Sublist.refl _).append ih
  | un=>have e:l'=.un:=h;subst e;exact (List.Sublist.refl _).append ih
  | d x=>have e:l'=.d x:=h;subst e;exact (List.Sublist.refl _).append ih
  | bx k ms=>have e:l'=.un:=h;subst e;exact ih.trans (List.sublist_append_right _ _)
  | dic k ms=>have e:l'=.un:=h;subst e;exact ih.trans (List.sublist_append_right _ _)
theorem Back.sub {ρ:Ev}:∀{ls ls':List L},Back ρ ls ls'→∀a∈L2.owns ls',a∈L2.owns ρ
 | _,_,.nil=>fun a ha=>by simp [L2.owns] at ha
 | l::ls,l'::ls',.cons h t=>fun a ha=>by
  have ih:=Back.sub t
  rw [aA] at ha
  rcases List.mem_append.mp ha with z|z
  ·
   cases l with
   | own b xs =>
    obtain ⟨ys,rfl,hm⟩:=h
    have e:a=b:=by simpa [aT] using z
    subst e
    exact rP hm
   | un=>have e:l'=.un:=h;subst e;simp [aT] at z
   | d x=>have e:l'=.d x:=h;subst e;simp [aT] at z
   | bx k ms=>have e:l'=.un:=h;subst e;simp [aT] at z
   | dic k ms=>have e:l'=.un:=h;subst e;simp [aT] at z
  ·
   exact ih a z
theorem uf {K:PySem.W.Frag} {Pr H H':Hp} {σ τ:St} {ls ls' ρ:Ev} {v:Option V} {r:L} (E:REnv K Pr H σ ls) (E':REnv K (ba H ls) H' (v::τ) (r::ρ)) (B:Back ρ ls ls'):REnv K Pr H' (v::σ) (r::ls'):=by
 have E1:=E.narrow E'
 have p:Pres H H':=rQ E E'.sub
 have sub:=B.sub
 have nd1:(owns ls').Nodup:=E.nd.sublist B.owns
 refine ⟨E1.sub,?_,fun a ha=>?_,?_⟩
 ·
  have nd:=E'.nd
  rw [aA] at nd ⊢
  obtain ⟨n1,n2,n3⟩:=List.nodup_append.mp nd
  exact List.nodup_append.mpr ⟨n1,nd1,fun a ha b hb=>n3 a ha b (sub b hb)⟩
 ·
  rw [aA] at ha
  refine E1.off a ?_
  rw [aA]
  rcases List.mem_append.mp ha with z|z
  ·
   exact List.mem_append_left _ z
  ·
   exact List.mem_append_right _ (sub a z)
 ·
  have s1:=E'.sl
  cases s1 with
  | cons q t =>
   refine .cons q ?_
   have sl:=E.sl
   clear E E' E1 nd1 sub
   induction B generalizing σ with
   | nil=>cases sl;exact .nil
   | cons h u ih =>
    rename_i l l' _ _
    cases sl with
    | cons s0 s2 =>
     refine .cons ?_ (ih s2)
     cases l with
     | own a xs =>
      obtain ⟨ys,rfl,hm⟩:=h
      obtain ⟨e,_⟩:=s0
      obtain ⟨_,_,_,z⟩:=Paired.mem2 t hm
      exact ⟨e,z⟩
     | un=>have e:l'=.un:=h;subst e;unfold aM;exact True.intro
     | bx k ms=>have e:l'=.un:=h;subst e;unfold aM;exact True.intro
     | dic k ms=>have e:l'=.un:=h;subst e;unfold aM;exact True.intro
     | d x =>
      have e:l'=.d x:=h
      subst e
      obtain ⟨w,e,r⟩:=s0
      exact ⟨w,e,r.pres p⟩
section
variable {P:Program} {w:World} {K:PySem.W.Frag} {mg:Str→Option Value} {base:Heap}
theorem REnv.uns {K:PySem.W.Frag} {Pr H:Hp} {σ:St} {ρ:Ev} (E:REnv K Pr H σ ρ):∀n,REnv K Pr H (σ++List.replicate n none) (ρ++List.replicate n .un):=fun n=>by
 have e:owns (ρ++List.replicate n .un)=owns ρ:=by
  rw [ay]
  have:owns (List.replicate n L.un)=[]:=by
   induction n with
   | zero=>rfl
   | succ n ih=>rw [List.replicate_succ,kS];exact ih
  rw [this,List.append_nil]
 refine ⟨E.sub,by rw [e];exact E.nd,fun a h=>E.off a (by rw [e] at h;exact h),Paired.app E.sl ?_⟩
 induction n with
 | zero=>exact .nil
 | succ n ih =>
  rw [List.replicate_succ,List.replicate_succ]
  refine .cons True.intro (ih ?_)
  have:owns (List.replicate n L.un)=[]:=by
   clear ih e
   induction n with
   | zero=>rfl
   | succ n ih=>rw [List.replicate_succ,kS];exact ih
  rw [ay,this,List.append_nil]
theorem bu {x qual:Str} {st:Stmt} {f:Addr} {fd:FuncData} {N ps:List Str} {k:Nat} {fs:FS} (F:Fun K x qual st f fd) (S:aC N ps (aq st)) (t:W Fl)
  (hbody:∀(cdv:Value) (A:Around) (outer:List Env) (s:Shared) (H:Hp) (E:XK),Room k (A.deeper (envOfC qual (aq st) s.heap.objs.size f cdv))→PMs (cxOf CX0 P w K mg base N qual (aq st) f cdv A outer s H E).nox (dC st) t)
  (h:∀ls post,ls.length=ps.length→fs ls post→t (ls++List.replicate (N.length - ps.length) .un) (a7 ls post)):FnOk P w K mg base CX0 (k+1) f fd ps (spF K ps.length fs):=by
 refine F.ok S (fun vs H Q E q=>q.1) (fun cdv A outer s H vs Q E hr q=>?_)
 obtain ⟨hl,Pr,ls,post,E0,hf,q⟩:=q
 refine ⟨_,(hbody cdv A outer s H E hr).pss,ba H ls,ls++List.replicate (N.length - ps.length) .un,a7 ls post,?_,h ls post (by rw [← hl];have:=E0.len;simpa using this.symm) hf,fun σ' H' ρ' E' p=>?_,fun _ _ _ _ p=>p.elim,fun _ _ _ _ p=>p.elim,fun v τ H' r ρ' E' p=>?_⟩
 ·
  unfold lx
  rw [hl]
  exact E0.wide.uns _
 ·
  obtain ⟨ls',B,p⟩:=p
  exact q .non H' (.d .non) ls' (uf E0 (E'.cons_d .non) B) p
 ·
  obtain ⟨ls',B,p⟩:=p
  exact q v H' r ls' (uf E0 E' B) p
end
theorem aN {ρ:Ev}:Back ρ [] []:=.nil
theorem aj {ρ:Ev} {x:D} {a b:List L} (t:Back ρ a b):Back ρ (.d x::a) (.d x::b):=.cons rfl t
theorem dj {ρ:Ev} {p:Addr} {xs ys:List D} {a b:List L} (h:L.own p ys∈ρ) (t:Back ρ a b):Back ρ (.own p xs::a) (.own p ys::b):=.cons ⟨ys,rfl,h⟩ t
section
variable {X:Cx} {e a b c tg:Expr} {es rest:List Expr} {pos:Pos} {ta tb tc:W L} {tA tB:W Bool} {st:Stmt} {sts:List Stmt} {t u:W Fl}
def nD (c:W Bool) (b:W Fl):W Fl:=fun ρ post=>∃J:Nat→Ev→Prop,(∃n,J n ρ)∧∀n ρ,J n ρ→c ρ fun t ρ1=>if t=true then b ρ1 fun f ρ2=>(match f with
 | .nx=>∃m,m <n∧J m ρ2
 | .ct=>∃m,m <n∧J m ρ2
 | .bk=>post .nx ρ2
 | .rt r=>post (.rt r) ρ2) else post .nx ρ1
theorem lL {body:List Stmt} (hp:PassesOwn (model X.prog X.w) X.A X.env X.xe) (hc:PB X c tA) (hb:PMs X body t):PM X (.While c body [] pos) (nD tA t):=by
 refine PM.of (zy hp hc.pt hb.pss) fun σ H Pr ρ post hlen E h=>?_
 obtain ⟨J,⟨n0,j0⟩,turn⟩:=h
 refine ⟨fun n σ H=>∃ρ,REnv X.K Pr H σ ρ∧J n ρ,⟨n0,ρ,E,j0⟩,fun n σ1 H1 ⟨ρ1,E1,j1⟩=>⟨Pr,ρ1,_,E1,turn n ρ1 j1,fun b H2 ρ2 E2 q=>?_⟩⟩
 cases b with
 | false=>exact ⟨ρ2,E2,q⟩
 | true =>
  refine ⟨fun σ' H'=>∃ρ' m,REnv X.K Pr H' σ' ρ'∧m <n∧J m ρ',fun σ' H' ⟨ρ',m,E',hm,j⟩=>⟨m,hm,ρ',E',j⟩,Pr,ρ2,_,E2,q,fun σ' H' ρ' E' ⟨m,hm,j⟩=>⟨ρ',m,E',hm,j⟩,fun σ' H' ρ' E' p=>⟨ρ',E',p⟩,fun σ' H' ρ' E' ⟨m,hm,j⟩=>⟨ρ',m,E',hm,j⟩,fun v τ H' r ρ' E' p=>⟨τ,r,ρ',E',p⟩⟩
abbrev Tg:=D→Ev→(Ev→Prop)→Prop
def PT1 (X:Cx) (tg:Expr) (g:Tg):Prop:=∃gg:TG,PG X tg gg∧∀v σ H Pr ρ x k,σ.length=X.N.length→REnv X.K Pr H σ ρ→Rep X.K H v x→g x ρ k→gg v σ H fun σ' H'=>H'=H∧σ'.length=X.N.length∧∃ρ',REnv X.K Pr H σ' ρ'∧k ρ'
def cj (i:Nat):Tg:=fun x ρ k=>k (ρ.set i (.d x))
theorem n4 {i:Nat} {x:Str} (hN:X.N.Nodup) (hi:X.N[i]?=some x) (hx:Loc X.env.scope x) (hf:X.fn x=true∨X.env.scope.names.lookup x=some .local:=by first|exact .inl rfl|exact .inr rfl|assumption):PT1 X (.Name x pos) (cj i) :=
 ⟨_,rM hN hi hx hf,fun v σ H Pr ρ x k hl E r h=>⟨rfl,by simpa using hl,_,(E.cons_d r).store (by rw [hl];exact (List.getElem?_eq_some_iff.mp hi).1),h⟩⟩
def fY:List Nat→List D→Ev→(Ev→Prop)→Prop
 | [],[],ρ,k=>k ρ
 | i::is,x::xs,ρ,k=>fY is xs (ρ.set i (.d x)) k
 | _,_,_,_=>False
def PTs (X:Cx) (es:List Expr) (is:List Nat):Prop:=∃gg:TGs,PGs X es gg∧es.length=is.length∧∀vs σ H Pr ρ xs k,σ.length=X.N.length→REnv X.K Pr H σ ρ→Reps X.K H vs xs→fY is xs ρ k→gg vs σ H fun σ' H'=>H'=H∧σ'.length=X.N.length∧∃ρ',REnv X.K Pr H σ' ρ'∧k ρ'
theorem ei:PTs X [] []:=⟨_,BN,rfl,fun vs σ H Pr ρ xs k hl E r h=>by
 cases r with
 | nil=>exact ⟨rfl,rfl,hl,ρ,E,h⟩
 | cons _ _=>exact h.elim⟩
theorem aE {i:Nat} {is:List Nat} {x:Str} (hN:X.N.Nodup) (hi:X.N[i]?=some x) (hx:Loc X.env.scope x) (hr:PTs X es is) (hf:X.fn x=true∨X.env.scope.names.lookup x=some .local:=by first|exact .inl rfl|exact .inr rfl|assumption)
  (hs:(assignEach (.Name x pos::es) X.env).map (·.2)=assign (.Name x pos) X.env::(assignEach es X.env).map (·.2):=by rfl):PTs X (.Name x pos::es) (i::is):=by
 obtain ⟨gg,hg,hlen,q⟩:=hr
 refine ⟨_,zx (rM hN hi hx hf) hg hs,by simp [hlen],fun vs σ H Pr ρ xs k hl E r h=>?_⟩
 cases r with
 | nil=>exact h.elim
 | cons r0 t =>
  refine ⟨_,_,rfl,?_⟩
  exact q _ _ H Pr _ _ k (by simpa using hl) ((E.cons_d r0).store (by rw [hl];exact (List.getElem?_eq_some_iff.mp hi).1)) t h
def lA (is:List Nat):Tg:=fun x ρ k=>match x with
 | .tup xs=>fY is xs ρ k
 | _=>False
theorem ma:∀{is:List Nat} {xs:List D} {ρ:Ev} {k:Ev→Prop},fY is xs ρ k→xs.length=is.length
 | [],[],_,_,_=>rfl
 | _::is,_::xs,_,_,h=>by simp [ma (is:=is) (xs:=xs) h]
 | [],_::_,_,_,h=>h.elim
 | _::_,[],_,_,h=>h.elim
theorem hW {is:List Nat} {k:Nat} (hc:X.calm=true) (h:PTs X es is) (hn:(assignEach es X.env).length=is.length:=by rfl) (hst:(assignEach es X.env).findIdx? (·.1)=none:=by rfl):PT1 X (.Tuple es k pos) (lA is):=by
 obtain ⟨gg,hg,hlen,q⟩:=h
 refine ⟨_,DN hc hg hn hst,fun v σ H Pr ρ x k hl E r h=>?_⟩
 cases r with
 | tup hs rs=>exact ⟨_,_,rfl,hs,by rw [rs.length];exact ma h,q _ σ H Pr ρ _ k hl E rs h⟩
 | _=>exact h.elim
def cB (g:Tg) (b:W Fl):List D→W Fl
 | []=>fun ρ post=>post .nx ρ
 | x::xs=>fun ρ post=>g x ρ fun ρ1=>b ρ1 fun f ρ2=>match f with
  | .nx=>cB g b xs ρ2 post
  | .ct=>cB g b xs ρ2 post
  | .bk=>post .nx ρ2
  | .rt r=>post (.rt r) ρ2
def fZ:D→(List D→Prop)→Prop
 | .lst xs,k=>k xs
 | .tup xs,k=>k xs
 | _,_=>False
def Ei (H H':Hp):Prop:=H'=H∨∃p o,H p=none∧H'=upd H p o
theorem REnv.grown {K:PySem.W.Frag} {Pr H H':Hp} {σ:St} {ρ:Ev} (E:REnv K Pr H σ ρ) (g:Ei H H'):REnv K Pr H' σ ρ:=by
 rcases g with rfl|⟨p,o,h,rfl⟩
 ·
  exact E
 ·
  exact E.new h
def xb (K:PySem.W.Frag) (H:Hp) (J:It) (xs:List D):Prop:=∀H',Pres H H' →
 (∀i x,xs[i]?=some x→J.go i H'∧∀v H2,J.yld i H' v H2→Ei H' H2∧Rep K H2 v x)∧J.stop xs.length H'
def EI (X:Cx) (pins:List (Addr×Obj)) (σ:St) (tg:Expr) (Pr:Hp) (post:List D→Ev→Prop) (itv:Value) (s2:Shared):Prop :=
 ∃(it:Addr) (fp:List Addr) (tn:Nat→Heap→Prop) (J:It) (H':Hp) (xs:List D) (ρ':Ev),itv=.ref it∧Inv X pins σ H' s2∧Turn X.prog X.w X.K tg J fp it tn∧tn 0 s2.heap∧(∀b∈fp,FpOk X pins H' b)∧REnv X.K Pr H' σ ρ'∧xb X.K H' J xs∧post xs ρ'
def PIL (X:Cx) (tg iter:Expr) (w:W (List D)):Prop :=
 ∀(pins:List (Addr×Obj)) (s:Shared) (σ:St) (H Pr:Hp) (ρ:Ev) (post:List D→Ev→Prop),Inv X pins σ H s→REnv X.K Pr H σ ρ→w ρ post →
  wpAny (model X.prog X.w) X.A (eval iter X.env) (fun v s1=>wpAny (model X.prog X.w) X.A (pyIter v) (EI X pins σ tg Pr post) X.xe s1) X.xe s
def wSrc (t:W L):W (List D):=fun ρ post=>t ρ fun r ρ1=>toD r fun x=>fZ x fun xs=>post xs ρ1
theorem vC {K:PySem.W.Frag} {H:Hp} {a:Addr} {vs:List V} {xs:List D} (h:SqZ K H a vs) (r:Reps K H vs xs):xb K H (Itl K a) xs:=fun H' p=>by
 have h':=(h.pres p).l
 refine ⟨fun i x e=>?_,⟨vs,h',by rw [r.length];exact Nat.le_refl _⟩⟩
 obtain ⟨v,ev,rv⟩:=r.get e
 refine ⟨⟨vs,v,h',ev⟩,fun w H2 ⟨e1,e2⟩=>?_⟩
 have e3:=e2 vs h'
 rw [ev] at e3
 cases e3
 subst e1
 exact ⟨.inl rfl,rv.pres p⟩
theorem xc {K:PySem.W.Frag} {H:Hp} {a:Addr} {vs:List V} {xs:List D} (h:SqT K H a vs) (r:Reps K H vs xs):xb K H (Itt K a) xs:=fun H' p=>by
 have h':=h.pres p
 refine ⟨fun i x e=>?_,⟨vs,h',by rw [r.length];exact Nat.le_refl _⟩⟩
 obtain ⟨v,ev,rv⟩:=r.get e
 refine ⟨⟨vs,v,h',ev⟩,fun w H2 ⟨e1,e2⟩=>?_⟩
 have e3:=e2 vs h'
 rw [ev] at e3
 cases e3
 subst e1
 exact ⟨.inl rfl,rv.pres p⟩
theorem iJ {t:W L} (h:PL X e t):PIL X tg e (wSrc t):=by
 intro pins s σ H Pr ρ post I E ht
 refine thn (h pins s σ H Pr ρ _ I E ht) fun u s1 q=>?_
 obtain ⟨v,H1,x,ρ1,I1,r1,E1,q2⟩:=EL.frz (post:=fun x ρ1=>fZ x fun xs=>post xs ρ1) q
 obtain ⟨_,e1,p⟩:=E1.head_d
 cases e1
 cases p with
 | lst hz rs =>
  cases r1
  obtain ⟨its,rv,pl,hz'⟩:=I1.list hz.l
  refine wpAny_pyIter_list pl.isList ?_
  refine ⟨s1.heap.objs.size,[s1.heap.objs.size],_,_,H1,_,ρ1,rfl,I1.kept (t':=s1.toks) fun b o e=>Heap.get?_push_of_some _ e,wz _ _,⟨_,Heap.get?_push_size _ rfl,rfl,rfl⟩,fun b hb=>?_,E1.tail,vC hz rs,q2⟩
  have e:b=s1.heap.objs.size:=by simpa using hb
  subst e
  exact I1.fpOk (Nat.le_refl _) (I1.hok.fresh (Nat.le_refl _))
 | tup hz rs =>
  cases r1
  obtain ⟨its,rv,pl,hz'⟩:=I1.tuple hz
  refine wpAny_pyIter_tuple (show s1.heap.IsTuple _ its.toArray from pl) ?_
  refine ⟨s1.heap.objs.size,[s1.heap.objs.size],_,_,H1,_,ρ1,rfl,I1.kept (t':=s1.toks) fun b o e=>Heap.get?_push_of_some _ e,vk _ _,⟨_,Heap.get?_push_size _ rfl,rfl,rfl⟩,fun b hb=>?_,E1.tail,xc hz rs,q2⟩
  have e:b=s1.heap.objs.size:=by simpa using hb
  subst e
  exact I1.fpOk (Nat.le_refl _) (I1.hok.fresh (Nat.le_refl _))
 | _=>exact q2.elim
def rngD (lo:Int) (n:Nat):List D:=(List.range n).map fun (i:Nat)=>.int (lo+(i:Int))
theorem pZ {K:PySem.W.Frag} {H:Hp} (lo:Int) (n:Nat):xb K H (Itr lo n) (rngD lo n):=fun H' p=>by
 refine ⟨fun i x e=>?_,?_⟩
 ·
  have hi:i <n:=by
   have:=(List.getElem?_eq_some_iff.mp e).1
   simpa [rngD] using this
  refine ⟨hi,fun v H2 ⟨e1,e2⟩=>?_⟩
  subst e1 e2
  have:x=.int (lo+(i:Int)):=by
   unfold rngD at e
   rw [List.getElem?_map,List.getElem?_range hi] at e
   simpa using e.symm
  subst this
  exact ⟨.inl rfl,.int _⟩
 ·
  show n≤(rngD lo n).length
  simp [rngD]
def jt:L→(Int→Prop)→Prop
 | .d (.int i),k=>k i
 | _,_=>False
theorem cM {r:L} {k:Int→Prop} (h:jt r k):∃i,r=.d (.int i)∧k i:=by
 cases r with
 | d x=>cases x with
  | int i=>exact ⟨i,rfl,h⟩
  | _=>exact h.elim
 | _=>exact h.elim
def xf (j:Int):Prop:=-(2 ^ 62)≤j∧j <2 ^ 62
def p5 (t:W L):W (List D):=fun ρ post=>t ρ fun r ρ1=>jt r fun j=>xf j∧post (rngD 0 j.toNat) ρ1
def B9 (t u:W L):W (List D):=fun ρ post=>t ρ fun r ρ1=>jt r fun i=>u ρ1 fun r ρ2=>jt r fun j=>xf i∧xf j∧post (rngD i (j - i).toNat) ρ2
theorem gT {t:W L} {p pos:Pos} (hg:Gl X "range") (hm:X.mg "range"=none) (ha:PL X a t) (hs:starEach [a] X.env=[(false,eval a X.env)]:=by rfl):PIL X tg (.Call (.Name "range" p) [a] [] pos) (p5 t):=by
 intro pins s σ H Pr ρ post I E h
 refine thn (wB (tg:=tg) hg hm (bC ha.pe fG hs) hs pins s σ H (fun J H1=>∃ρ1 n,J=Itr 0 n∧REnv X.K Pr H1 σ ρ1∧post (rngD 0 n) ρ1) I ?_) fun v s1 q=>thn q fun itv s2 ⟨it,fp,tn,J,H',e,I',T,t0,hf,ρ1,n,eJ,E1,q⟩=>?_
 ·
  refine ⟨Pr,ρ,_,E,h,fun v H' r ρ' E' p=>?_⟩
  obtain ⟨j,rfl,hj,p⟩:=cM p
  obtain ⟨_,e1,p1⟩:=E'.head_d
  cases e1
  cases p1
  exact ⟨j,rfl,hj.1,hj.2,ρ',_,rfl,E'.tail,p⟩
 ·
  subst eJ
  exact ⟨it,fp,tn,_,H',_,ρ1,e,I',T,t0,hf,E1,pZ 0 n,q⟩
theorem zR {t u:W L} {p pos:Pos} (hg:Gl X "range") (hm:X.mg "range"=none) (ha:PL X a t) (hb:PL X b u) (hs:starEach [a,b] X.env=[(false,eval a X.env),(false,eval b X.env)]:=by rfl) (hs2:starEach [b] X.env=[(false,eval b X.env)]:=by rfl):PIL X tg (.Call (.Name "range" p) [a,b] [] pos) (B9 t u):=by
 intro pins s σ H Pr ρ post I E h
 refine thn (wD (tg:=tg) hg hm (bC ha.pe (bC hb.pe fG hs2) (hs.trans (by rw [hs2]))) hs hs2 pins s σ H (fun J H1=>∃ρ1 lo n,J=Itr lo n∧REnv X.K Pr H1 σ ρ1∧post (rngD lo n) ρ1) I ?_) fun v s1 q=>thn q fun itv s2 ⟨it,fp,tn,J,H',e,I',T,t0,hf,ρ1,lo,n,eJ,E1,q⟩=>?_
 ·
  refine ⟨Pr,ρ,_,E,h,fun v H' r ρ' E' p=>?_⟩
  obtain ⟨i,rfl,p⟩:=cM p
  obtain ⟨_,e1,p1⟩:=E'.head_d
  cases e1
  cases p1
  refine ⟨Pr,ρ',_,E'.tail,p,fun v H2 r ρ2 E2 p=>?_⟩
  obtain ⟨j,rfl,hi,hj,p⟩:=cM p
  obtain ⟨_,e1,p1⟩:=E2.head_d
  cases e1
  cases p1
  exact ⟨i,j,rfl,⟨hi.1,hi.2,hj.1,hj.2⟩,ρ2,_,_,rfl,E2.tail,p⟩
 ·
  subst eJ
  exact ⟨it,fp,tn,_,H',_,ρ1,e,I',T,t0,hf,E1,pZ lo n,q⟩
def wFor (s:W (List D)) (g:Tg) (b:W Fl):W Fl:=fun ρ post=>s ρ fun xs ρ1=>cB g b xs ρ1 post
theorem ju {iter:Expr} {body:List Stmt} {w:W (List D)} {g:Tg} (hp:PassesOwn (model X.prog X.w) X.A X.env X.xe) (hc:X.calm=true) (hi:PIL X tg iter w) (hg:PT1 X tg g) (hb:PMs X body t)
  (hs:∀x,foldedSetIterable iter X.env x=pure x:=by intro _;rfl):PM X (.For tg iter body [] pos) (wFor w g t):=by
 intro pins s σ H Pr ρ post I E h
 obtain ⟨gg,hg,hgg⟩:=hg
 refine wpAny_For (thn (hi pins s σ H Pr ρ _ I E h) fun v s1 h1=>thn h1 fun itv s2 h2=>?_) hs
 obtain ⟨it,fp,tn,J,H2,xs,ρ2,e,I2,T,st2,f2,E2,G,w0⟩:=h2
 subst e
 have stat:∀{H':Hp},(∀b∈fp,H' b=none)→∀b∈fp,FpOk X pins H' b:=fun hn b hb=>⟨hn b hb,(f2 b hb).2⟩
 refine codeAny_forLoop_any (fun n s'=>∃i σ' H' ρ',n+i=xs.length∧Inv X pins σ' H' s'∧tn i s'.heap∧(∀b∈fp,H' b=none)∧REnv X.K (ba H2 ρ2) H' σ' ρ'∧cB g t (xs.drop i) ρ' post) ?_ xs.length ⟨0,σ,H2,ρ2,by omega,I2,st2,fun b hb=>(f2 b hb).1,E2.wide,by simpa using w0⟩
 rintro n s3 ⟨i,σ3,H3,ρ3,hn,I3,st3,fr3,E3,w3⟩
 obtain ⟨go,stop⟩:=G H3 (rQ E2 E3.sub)
 by_cases hlt:i <xs.length
 ·
  obtain ⟨hgo,hy⟩:=go i xs[i] (List.getElem?_eq_getElem hlt)
  rw [List.drop_eq_getElem_cons hlt] at w3
  refine wpAny_passesOwn hp (thn (T.item X rfl rfl rfl hc i pins s3 σ3 H3 X.xe I3 (stat fr3) st3 hgo) fun r s4 ⟨u,hr,h4⟩=>?_)
  subst hr
  refine wpAny_passesOwn hp (thn h4 fun _ s5 ⟨x,H5,I5,r5,y5,st5,fr5⟩=>?_)
  obtain ⟨gr,rx⟩:=hy x H5 y5
  have I5':=I5.pinned (stat fr5) (T.obj _ _ st5)
  have E5:=E3.grown gr
  refine wpAny_passesOwn hp (thn (hg _ s5 σ3 H5 x u _ I5' r5 (hgg x σ3 H5 _ ρ3 xs[i] _ I5.len E5 rx w3)) fun _ s6 ⟨σ6,H6,I6,e6,hl6,ρ6,E6,q6⟩=>?_)
  subst e6
  refine wpAny_passesOwn hp (thn (hb _ s6 σ6 _ _ ρ6 _ I6 E6 q6) fun f s7 q7=>?_)
  have again:∀{σ7:St} {H7:Hp} {ρ7:Ev},Inv X (pins++pL fp s5.heap) σ7 H7 s7→REnv X.K (ba H2 ρ2) H7 σ7 ρ7→cB g t (xs.drop (i+1)) ρ7 post →
    ∃m,m <n∧∃i σ' H' ρ',m+i=xs.length∧Inv X pins σ' H' s7∧tn i s7.heap∧(∀b∈fp,H' b=none)∧REnv X.K (ba H2 ρ2) H' σ' ρ'∧cB g t (xs.drop i) ρ' post:=fun {σ7 H7 ρ7} I7 E7 n7=>by
   refine ⟨n - 1,by omega,i+1,σ7,H7,ρ7,by omega,I7.unpinned,T.keep _ _ _ st5 fun b hb o e=>(I7.pin (b,o) (List.mem_append_right _ (List.mem_append_right _ (gS hb e)))).1,fun b hb=>?_,E7,n7⟩
   obtain ⟨o,e,d⟩:=T.obj _ _ st5 b hb
   exact (I7.pin (b,o) (List.mem_append_right _ (List.mem_append_right _ (gS hb e)))).2.1
  cases f with
  | next=>obtain ⟨σ7,H7,ρ7,I7,E7,n7⟩:=q7;exact again I7 E7 n7
  | cont=>obtain ⟨σ7,H7,ρ7,I7,E7,n7⟩:=q7;exact again I7 E7 n7
  | brk=>obtain ⟨σ7,H7,ρ7,I7,E7,q7⟩:=q7;exact ⟨σ7,H7,ρ7,I7.unpinned,E2.narrow E7,q7⟩
  | ret v=>obtain ⟨x7,σ7,H7,r,ρ7,τ,I7,r7,E7,q7⟩:=q7;exact ⟨x7,σ7,H7,r,ρ7,τ,I7.unpinned,r7,E2.narrow E7,q7⟩
 ·
  have e:i=xs.length:=by omega
  subst e
  refine wpAny_passesOwn hp (thn (T.done X rfl rfl rfl hc xs.length pins s3 σ3 H3 X.xe I3 (stat fr3) st3 stop) fun r s4 ⟨hr,I4⟩=>?_)
  subst hr
  rw [List.drop_length] at w3
  exact wpAny_execs_nil ⟨σ3,H3,ρ3,I4,E2.narrow E3,w3⟩
end
end L2
namespace L2
open PySem PySem.Spec PyProof.Rows
section
variable {X:Cx} {e a b c:Expr} {es rest:List Expr} {pos:Pos} {ta tb tc:W L}
def bZ (i:Int):Prop:=i.natAbs <2 ^ 1000000
def bH:Op2:=fun x y k=>match x,y with
 | .int i,.int j=>k (.d (.int (i+j)))
 | .str i,.str j=>i.length+j.length≤sizeLine∧k (.d (.str (i++j)))
 | .lst xs,.lst ys=>xs.length+ys.length≤sizeLine∧∀a,k (.own a (xs++ys))
 | _,_=>False
def fO:Op2:=fun x y k=>match x,y with
 | .int i,.int j=>k (.d (.int (i - j)))
 | _,_=>False
def m6:Op2:=fun x y k=>match x,y with
 | .int i,.int j=>j≠0∧j.natAbs <2 ^ 9000∧k (.d (.int (i.fdiv j)))
 | _,_=>False
def c8:Op2:=fun x y k=>match x,y with
 | .int i,.int j=>j≠0∧k (.d (.int (i.fmod j)))
 | _,_=>False
def vD:Op2:=fun x y k=>match x,y with
 | .int i,.int j=>0≤j∧j≤1000000∧i.natAbs <2 ^ 64∧k (.d (.int (i ^ j.toNat)))
 | _,_=>False
def opLt:Op2:=fun x y k=>match x,y with
 | .int i,.int j=>k (.d (.bl (decide (i <j))))
 | _,_=>False
def opLe:Op2:=fun x y k=>match x,y with
 | .int i,.int j=>k (.d (.bl (decide (i≤j))))
 | _,_=>False
def opGt:Op2:=fun x y k=>match x,y with
 | .int i,.int j=>k (.d (.bl (decide (j <i))))
 | _,_=>False
def opGe:Op2:=fun x y k=>match x,y with
 | .int i,.int j=>k (.d (.bl (decide (j≤i))))
 | _,_=>False
theorem xg {i j:Int} (h1:bZ i) (h2:bZ j):IntMulOk i j:=IntMulOk.of_le (PySem.intBits_le_iff.mpr h1) (PySem.intBits_le_iff.mpr h2) (by decide)
theorem Ca:OpR X (binaryOp .Mult) (rI (fun i j=>bZ i∧bZ j) fun i j=>.int (i*j)):=opI fun _ _ _ _ _ _ _ hc q=>mul_int q (xg hc.1 hc.2)
theorem Cb:OpR X (binaryOp .FloorDiv) (rI (fun i j=>j≠0∧j.natAbs <2 ^ 9000) fun i j=>.int (i.fdiv j)):=opI fun i j _ _ _ _ _ hc q=>floordiv_int hc.1 q (.inl (PyProof.noPylong_of_log2 ((Nat.log2_lt (by have:=hc.1;omega)).mpr hc.2)))
theorem xh:OpR X (binaryOp .Add) (fun x y H Q=>∃l b xs zs,x=.ref l∧y=.ref b∧SqL X.K H l xs∧SqL X.K H b zs∧xs.length+zs.length≤sizeLine∧∀p,H p=none→Q (.ref p) (upd H p (.lst (xs++zs)))):=by
 intro pins s σ H x y v u Q I rx ry h
 obtain ⟨l,b,xs,zs,rfl,rfl,hH,hB,hz,q⟩:=h
 cases rx
 cases ry
 obtain ⟨its,r,⟨o,n,e,c,d,f⟩,z⟩:=I.list hH
 obtain ⟨its2,r2,⟨o2,n2,e2,c2,d2,f2⟩,z2⟩:=I.list hB
 obtain ⟨cl,dd,dt,sl⟩:=o
 obtain ⟨cl2,dd2,dt2,sl2⟩:=o2
 simp only at c f c2 f2
 subst c f c2 f2
 have hl:=r.length
 have hl2:=r2.length
 refine concat_meets ⟨_,e,rfl⟩ ⟨_,e2,rfl⟩ noFill_list_add seq_list_add PySem.F.slot_list_add PySem.F.entry_list_add (PySem.F.args_list_add_2 _ _) (list_addW l b its.toArray its2.toArray n n2 dd dd2 sl sl2 (by rw [List.size_toArray,List.size_toArray];omega)) ⟨e,e2,?_⟩
 have ea:its.toArray++its2.toArray=(its++its2).toArray:=by simp
 rw [ea]
 exact ⟨.ref _,_,I.lnew (t':=s.toks) (r.append r2) (by rw [List.length_append];omega),rfl,q _ I.fresh⟩
theorem a6:OpD X (binaryOp .Add) bH:=by
 intro pins s σ H Pr ρ x y v u dx dy post I rx ry E px py ho
 cases px with
 | int i =>
  cases py with
  | int j=>exact OpD.of DT (op:=fun x y k=>∃i j,x=.int i∧y=.int j∧k (.d (.int (i+j)))) (fun σ H Pr ρ x y dx dy post E px py ⟨i,j,e1,e2,h⟩=>by subst e1 e2;cases px;cases py;exact ⟨i,j,rfl,rfl,_,E.cons_d (.int _),h⟩) pins s σ H Pr ρ _ _ v u _ _ post I rx ry E (.int i) (.int j) ⟨i,j,rfl,rfl,ho⟩
  | _=>exact ho.elim
 | str i =>
  cases py with
  | str j=>exact OpD.of vn (op:=fun x y k=>∃i j,x=.str i∧y=.str j∧i.length+j.length≤sizeLine∧k (.d (.str (i++j)))) (fun σ H Pr ρ x y dx dy post E px py ⟨i,j,e1,e2,z,h⟩=>by subst e1 e2;cases px;cases py;exact ⟨i,j,rfl,rfl,z,_,E.cons_d (.str _),h⟩) pins s σ H Pr ρ _ _ v u _ _ post I rx ry E (.str i) (.str j) ⟨i,j,rfl,rfl,ho.1,ho.2⟩
  | _=>exact ho.elim
 | lst h1 r1 =>
  cases py with
  | lst h2 r2 =>
   refine OpD.of xh (op:=fun x y k=>∃xs ys,x=.lst xs∧y=.lst ys∧xs.length+ys.length≤sizeLine∧∀a,k (.own a (xs++ys))) (fun σ H Pr ρ x y dx dy post E px py ⟨xs,ys,e1,e2,z,h⟩=>?_) pins s σ H Pr ρ _ _ v u _ _ post I rx ry E (.lst h1 r1) (.lst h2 r2) ⟨_,_,rfl,rfl,ho.1,ho.2⟩
   subst e1 e2
   cases px with
   | lst h1 r1 =>
    cases py with
    | lst h2 r2=>exact ⟨_,_,_,_,rfl,rfl,h1.l,h2.l,by rw [r1.length,r2.length];exact z,fun p hp=>⟨_,E.cons_own hp (r1.append r2),h p⟩⟩
  | _=>exact ho.elim
 | _=>cases py<;>exact ho.elim
theorem ug {f:Value→Value→Sem Value} {C:Int→Int→Prop} {g:Int→Int→V} {gd:Int→Int→D} (h:OpR X f (rI C g)) (hg:∀K H i j,Rep K H (g i j) (gd i j)) :
  OpD X f (fun x y k=>∃i j,x=.int i∧y=.int j∧C i j∧k (.d (gd i j))) :=
 OpD.of h fun σ H Pr ρ x y dx dy post E px py ⟨i,j,e1,e2,z,h⟩=>by subst e1 e2;cases px;cases py;exact ⟨i,j,rfl,rfl,z,_,E.cons_d (hg _ _ _ _),h⟩
theorem me {f:Value→Value→Sem Value} {g:Int→Int→V} {gd:Int→Int→D} (h:OpR X f (rI0 g)) (hg:∀K H i j,Rep K H (g i j) (gd i j)) :
  OpD X f (fun x y k=>∃i j,x=.int i∧y=.int j∧k (.d (gd i j))) :=
 OpD.of h fun σ H Pr ρ x y dx dy post E px py ⟨i,j,e1,e2,h⟩=>by subst e1 e2;cases px;cases py;exact ⟨i,j,rfl,rfl,_,E.cons_d (hg _ _ _ _),h⟩
theorem dF:OpD X (binaryOp .Sub) fO:=(me DU (gd:=fun i j=>.int (i - j)) fun _ _ _ _=>.int _).imp fun x y k h=>by
 unfold fO at h
 split at h
 ·
  exact ⟨_,_,rfl,rfl,h⟩
 ·
  exact h.elim
theorem Ej:OpD X (binaryOp .Mult) (fun x y k=>∃i j,x=.int i∧y=.int j∧(bZ i∧bZ j)∧k (.d (.int (i*j)))):=ug Ca (gd:=fun i j=>.int (i*j)) fun _ _ _ _=>.int _
def bf:Op2:=fun x y k=>match x,y with
 | .int i,.int j=>bZ i∧bZ j∧k (.d (.int (i*j)))
 | _,_=>False
theorem aX:OpD X (binaryOp .Mult) bf:=Ej.imp fun x y k h=>by
 unfold bf at h
 split at h
 ·
  exact ⟨_,_,rfl,rfl,⟨h.1,h.2.1⟩,h.2.2⟩
 ·
  exact h.elim
theorem mf:OpD X (binaryOp .FloorDiv) m6:=(ug Cb (gd:=fun i j=>.int (i.fdiv j)) fun _ _ _ _=>.int _).imp fun x y k h=>by
 unfold m6 at h
 split at h
 ·
  exact ⟨_,_,rfl,rfl,⟨h.1,h.2.1⟩,h.2.2⟩
 ·
  exact h.elim
theorem bV:OpD X (binaryOp .Mod) c8:=(ug BP (gd:=fun i j=>.int (i.fmod j)) fun _ _ _ _=>.int _).imp fun x y k h=>by
 unfold c8 at h
 split at h
 ·
  exact ⟨_,_,rfl,rfl,h.1,h.2⟩
 ·
  exact h.elim
theorem xi:OpD X (binaryOp .Pow) vD:=(ug DV (gd:=fun i j=>.int (i ^ j.toNat)) fun _ _ _ _=>.int _).imp fun x y k h=>by
 unfold vD at h
 split at h
 ·
  exact ⟨_,_,rfl,rfl,⟨h.1,h.2.1,h.2.2.1⟩,h.2.2.2⟩
 ·
  exact h.elim
theorem rV:OpD X (compareOp .Lt) opLt:=(me DY (gd:=fun i j=>.bl (decide (i <j))) fun _ _ _ _=>.bl _).imp fun x y k h=>by
 unfold opLt at h
 split at h
 ·
  exact ⟨_,_,rfl,rfl,h⟩
 ·
  exact h.elim
theorem F5:OpD X (compareOp .LtE) opLe:=(me DZ (gd:=fun i j=>.bl (decide (i≤j))) fun _ _ _ _=>.bl _).imp fun x y k h=>by
 unfold opLe at h
 split at h
 ·
  exact ⟨_,_,rfl,rfl,h⟩
 ·
  exact h.elim
theorem zS:OpD X (compareOp .Gt) opGt:=(me FV (gd:=fun i j=>.bl (decide (j <i))) fun _ _ _ _=>.bl _).imp fun x y k h=>by
 unfold opGt at h
 split at h
 ·
  exact ⟨_,_,rfl,rfl,h⟩
 ·
  exact h.elim
theorem Ek:OpD X (compareOp .GtE) opGe:=(me FW (gd:=fun i j=>.bl (decide (j≤i))) fun _ _ _ _=>.bl _).imp fun x y k h=>by
 unfold opGe at h
 split at h
 ·
  exact ⟨_,_,rfl,rfl,h⟩
 ·
  exact h.elim
mutual
def toP:D→PyData
 | .non=>.none
 | .bl b=>.bool b
 | .int i=>.int i
 | .str x=>.str x
 | .tup xs=>.tuple (toPs xs)
 | .lst xs=>.list (toPs xs)
 | .dct _=>.dict []
 | .exc _ _ _=>.dict []
def toPs:List D→List PyData
 | []=>[]
 | x::xs=>toP x::toPs xs
end
def eqD (x y:D):Bool:=PyData.eqv (toP x) (toP y)
def di (x:D):Prop:=SeqAt.shaped (toP x)=true
def opEq:Op2:=fun x y k=>di x∧di y∧k (.d (.bl (eqD x y)))
def opNe:Op2:=fun x y k=>di x∧di y∧k (.d (.bl (!eqD x y)))
mutual
theorem gU {pins:List (Addr×Obj)} {σ:St} {H:Hp} {s:Shared} (I:Inv X pins σ H s):∀(d:D) (x:V) (u:Value),RelV x u→Rep X.K H x d→(toP d).canLay0=true→∃as,Reads s.heap u (toP d) as
 | .non,_,_,rv,r,_=>by cases r;cases rv;exact ⟨_,.none⟩
 | .bl b,_,_,rv,r,_=>by cases r;cases rv;exact ⟨_,.bool b⟩
 | .int i,_,_,rv,r,_=>by cases r;obtain ⟨t,rfl⟩:=rv;exact ⟨_,.int i t⟩
 | .str z,_,_,rv,r,_=>by cases r;obtain ⟨t,rfl⟩:=rv;exact ⟨_,.str z t⟩
 | .tup xs,_,_,rv,r,hc=>by
  cases r with
  | tup h rs =>
   cases rv
   obtain ⟨its,vs,⟨o,e,c,n,d⟩,_⟩:=I.tuple h
   obtain ⟨as,ra⟩:=iK I xs _ _ vs rs hc
   exact ⟨_,.tuple (xs:=toPs xs) e c d (by simpa using ra)⟩
 | .lst xs,_,_,rv,r,hc=>by
  cases r with
  | lst h rs =>
   cases rv
   obtain ⟨its,vs,⟨o,n,e,c,_,d⟩,_⟩:=I.list h.l
   obtain ⟨as,ra⟩:=iK I xs _ _ vs rs hc
   exact ⟨_,.list (xs:=toPs xs) e c d (by simpa using ra)⟩
 | .dct _,_,_,_,_,hc=>nomatch hc
 | .exc _ _ _,_,_,_,_,hc=>nomatch hc
theorem iK {pins:List (Addr×Obj)} {σ:St} {H:Hp} {s:Shared} (I:Inv X pins σ H s):∀(ds:List D) (vs:List V) (us:List Value),Vals vs us→Reps X.K H vs ds→PyData.canLayAll0 (toPs ds)=true→∃as,ReadsAll s.heap us (toPs ds) as
 | [],_,_,rv,r,_=>by cases r;cases rv;exact ⟨_,.nil⟩
 | d::ds,_,_,rv,r,hc=>by
  have hc':(toP d).canLay0=true∧PyData.canLayAll0 (toPs ds)=true:=by simpa [toPs,PyData.canLayAll0] using hc
  cases r with
  | cons r0 rs =>
   cases rv with
   | cons v0 vs =>
    obtain ⟨as,ra⟩:=gU I d _ _ v0 r0 hc'.1
    obtain ⟨bs,rb⟩:=iK I ds _ _ vs rs hc'.2
    exact ⟨_,.cons ra rb⟩
end
theorem eH (hu:X.A.units+64 <cLine):OpD X (compareOp .Eq) opEq:=by
 intro pins s σ H Pr ρ x y v u dx dy post I rx ry E px py ⟨h1,h2,ho⟩
 obtain ⟨as,ra⟩:=gU I dx x v rx px (SeqAt.canLay_of_shaped h1)
 obtain ⟨bs,rb⟩:=gU I dy y u ry py (SeqAt.canLay_of_shaped h2)
 exact eq_dataH ra rb h1 h2 hu ⟨.bl _,H,_,I,rfl,E.cons_d (.bl _),ho⟩
theorem p6 (hu:X.A.units+64 <cLine):OpD X (compareOp .NotEq) opNe:=by
 intro pins s σ H Pr ρ x y v u dx dy post I rx ry E px py ⟨h1,h2,ho⟩
 obtain ⟨as,ra⟩:=gU I dx x v rx px (SeqAt.canLay_of_shaped h1)
 obtain ⟨bs,rb⟩:=gU I dy y u ry py (SeqAt.canLay_of_shaped h2)
 exact ne_dataH ra rb h1 h2 hu ⟨.bl _,H,_,I,rfl,E.cons_d (.bl _),ho⟩
theorem El:OpD X (compareOp .Is) (fun x y k=>y=.non∧k (.d (.bl (match x with | .non=>true|_=>false)))):=OpD.of D1 fun σ H Pr ρ x y dx dy post E px py ⟨e,h⟩=>by
 subst e
 cases py
 refine ⟨rfl,_,E.cons_d (.bl _),?_⟩
 cases px<;>exact h
def opIx:Op2:=fun x y k=>match x,y with
 | .lst xs,.int i=>∃v,atI xs i=some v∧k (.d v)
 | .tup xs,.int i=>∃v,atI xs i=some v∧k (.d v)
 | .str z,.int i=>z.length≤sizeLine∧∃c,atI z.cps.toList i=some c∧k (.d (.str ⟨#[c]⟩))
 | _,_=>False
theorem rW {K:PySem.W.Frag} {H:Hp} {vs:List V} {xs:List D} (r:Reps K H vs xs) {i:Int} {x:D} (h:atI xs i=some x):∃v,atI vs i=some v∧Rep K H v x:=by
 unfold atI at h ⊢
 rw [r.length]
 cases q:ixN xs.length i with
 | none=>rw [q] at h;cases h
 | some j =>
  rw [q] at h
  exact r.get h
theorem au (ha:PL X a ta) (hb:PL X b tb) (hs:nW b):PL X (.Subscript a b pos) (wBin opIx ta tb):=by
 intro pins s σ H Pr ρ post I E h
 refine Subscript_ (two (R:=fun dx dy ρ2=>opIx dx dy fun r=>post r ρ2) ha hb I E h fun v u s2 x y H2 dx dy ρ2 I2 r1 r2 E2 p1 p2 q=>?_)
 have fin:∀(Q:VK),(∀z H',Q z H'→∃r,REnv X.K Pr H' (some z::σ) (r::ρ2)∧post r ρ2)→∀w s',EP X pins σ Q w s'→EL X pins σ Pr post w s':=fun Q hQ w s' ⟨z,H',I',rz,q⟩=>by
  obtain ⟨r,E',p⟩:=hQ z H' q
  exact ⟨z,H',r,ρ2,I',rz,E',p⟩
 have Eσ:=E2.tail.tail
 cases p2 with
 | int i =>
  cases p1 with
  | lst hz rs =>
   obtain ⟨z,hz',q⟩:=q
   obtain ⟨w,hw,rw⟩:=rW rs hz'
   exact thn (rO a b pins s2 σ H2 _ _ v u (fun z H'=>z=w∧H'=H2) I2 r1 r2 ⟨_,_,i,w,rfl,rfl,hz.l,hw,rfl,rfl⟩ (hs _ _)) (fin _ fun z H' ⟨e1,e2⟩=>by subst e1 e2;exact ⟨_,Eσ.cons_d rw,q⟩)
  | tup hz rs =>
   obtain ⟨z,hz',q⟩:=q
   obtain ⟨w,hw,rw⟩:=rW rs hz'
   exact thn (Bf a b pins s2 σ H2 _ _ v u (fun z H'=>z=w∧H'=H2) I2 r1 r2 ⟨_,_,i,w,rfl,rfl,hz,hw,rfl,rfl⟩ (hs _ _)) (fin _ fun z H' ⟨e1,e2⟩=>by subst e1 e2;exact ⟨_,Eσ.cons_d rw,q⟩)
  | str z =>
   obtain ⟨hz,c,hc,q⟩:=q
   exact thn (D8 a b pins s2 σ H2 _ _ v u (fun z H'=>z=.str ⟨#[c]⟩∧H'=H2) I2 r1 r2 ⟨z,i,c,rfl,rfl,hz,hc,rfl,rfl⟩ (hs _ _)) (fin _ fun z H' ⟨e1,e2⟩=>by subst e1 e2;exact ⟨_,Eσ.cons_d (.str _),q⟩)
  | _=>exact q.elim
 | _=>cases p1<;>exact q.elim
end
end L2
namespace L2
open PySem PySem.Spec PyProof.Rows
section
variable {X:Cx} {e a b c:Expr} {es rest:List Expr} {pos p apos:Pos} {ta tb tc:W L} {x:Str} {bs:List (Option Nat)} {t:W (List L)} {id T:String}
abbrev OpN:=List D→(L→Prop)→Prop
def eX (X:Cx) (f:Value) (op:OpN):Prop :=
 ∀(pins:List (Addr×Obj)) (s:Shared) (σ:St) (H Pr:Hp) (ρ:Ev) (vs:List V) (us:List Value) (ds:List D) (post:L→Prop),Inv X pins σ H s→Vals vs us→REnv X.K Pr H σ ρ→Reps X.K H vs ds→op ds post →
  wpAny (model X.prog X.w) X.A (call f us) (fun w s'=>∃z H' r,Inv X pins σ H' s'∧RelV z w∧REnv X.K Pr H' (some z::σ) (r::ρ)∧post r) X.xe s
theorem eX.of {f:Value} {r:List V→Hp→VK→Prop} {op:OpN} (h:fS X f r) (q:∀σ H Pr ρ vs ds post,REnv X.K Pr H σ ρ→Reps X.K H vs ds→op ds post→r vs H fun z H'=>∃r,REnv X.K Pr H' (some z::σ) (r::ρ)∧post r):eX X f op :=
 fun pins s σ H Pr ρ vs us ds post I rv E ps ho=>thn (h pins s σ H vs us _ I rv (q σ H Pr ρ vs ds post E ps ho)) fun w s' ⟨z,H',I',rz,r,E',p⟩=>⟨z,H',r,I',rz,E',p⟩
def aL (op:OpN) (t:W (List L)):W L:=fun ρ post=>t ρ fun ls ρ1=>toDs ls fun ds=>op ds fun r=>post r ρ1
theorem aK (hc:eX X (.builtin id) op) (hg:Gl X x) (hm:X.mg x=none) (hv:bootBuiltins x=some (.builtin id)) (ha:PAL X (e::es) bs t) (hn:x≠"__name__":=by decide) (hdb:(x == ("__debug__" : Str))=false:=by decide)
  (he:starEach (e::es) X.env=(false,eval e X.env)::starEach es X.env:=by rfl) (hpl:(backTo pos (starEach es X.env)).any (·.1)=false:=by rfl):PL X (.Call (.Name x p) (e::es) [] pos) (aL op t):=by
 intro pins s σ H Pr ρ post I E h
 refine wpAny_Call_Name_kw (kQ I hg hm hv ?_ hn hdb)
 refine PyProof.Rows.callWith_builtin1 (thn (ha pos pins s σ H Pr ρ _ I E h) fun us s1 ⟨vs,H1,ls,ρ1,I1,r1,hl,hb,E1,_,q1⟩=>?_) he hpl
 obtain ⟨ds,rfl,q2⟩:=fW q1
 have hlen:vs.length=ds.length:=by simpa using hl
 exact thn (hc pins s1 σ H1 Pr ρ1 vs us ds _ I1 r1 (E1.drop (by simp [hlen])) (fX hlen E1) q2) fun w s2 ⟨z,H2,r,I2,rz,E2,q⟩=>⟨z,H2,r,ρ1,I2,rz,E2,q⟩
theorem b6 (hc:eX X (.type T) op) (hg:Gl X x) (hm:X.mg x=none) (hv:bootBuiltins x=some (.type T)) (ha:PAL X (e::es) bs t) (hn:x≠"__name__":=by decide) (hdb:(x == ("__debug__" : Str))=false:=by decide)
  (he:starEach (e::es) X.env=(false,eval e X.env)::starEach es X.env:=by rfl) (hpl:(backTo pos (starEach es X.env)).any (·.1)=false:=by rfl):PL X (.Call (.Name x p) (e::es) [] pos) (aL op t):=by
 intro pins s σ H Pr ρ post I E h
 refine wpAny_Call_Name_kw (kQ I hg hm hv ?_ hn hdb)
 refine PyProof.Rows.callWith_type1 (thn (ha pos pins s σ H Pr ρ _ I E h) fun us s1 ⟨vs,H1,ls,ρ1,I1,r1,hl,hb,E1,_,q1⟩=>?_) he hpl
 obtain ⟨ds,rfl,q2⟩:=fW q1
 have hlen:vs.length=ds.length:=by simpa using hl
 exact thn (hc pins s1 σ H1 Pr ρ1 vs us ds _ I1 r1 (E1.drop (by simp [hlen])) (fX hlen E1) q2) fun w s2 ⟨z,H2,r,I2,rz,E2,q⟩=>⟨z,H2,r,ρ1,I2,rz,E2,q⟩
def cz:OpN:=fun ds k=>match ds with
 | [.lst xs]=>k (.d (.int xs.length))
 | [.tup xs]=>k (.d (.int xs.length))
 | [.str x]=>x.length≤sizeLine∧k (.d (.int x.length))
 | _=>False
theorem m7 {K:PySem.W.Frag} {H:Hp} {vs:List V} {d:D} (r:Reps K H vs [d]):∃v,vs=[v]∧Rep K H v d:=by
 cases r with
 | cons h t=>cases t;exact ⟨_,rfl,h⟩
theorem Em {K:PySem.W.Frag} {H:Hp} {vs:List V} {d d':D} (r:Reps K H vs [d,d']):∃v w,vs=[v,w]∧Rep K H v d∧Rep K H w d':=by
 cases r with
 | cons h t=>cases t with
  | cons h' t=>cases t;exact ⟨_,_,rfl,h,h'⟩
theorem cU:eX X (.builtin "len") cz:=eX.of (kR.or pT) fun σ H Pr ρ vs ds post E ps h=>by
 unfold cz at h
 split at h
 ·
  obtain ⟨v,rfl,r⟩:=m7 ps
  cases r with
  | lst hz rs=>exact .inl ⟨_,_,rfl,.inl hz.l,_,E.cons_d (.int _),by rw [rs.length];exact h⟩
 ·
  obtain ⟨v,rfl,r⟩:=m7 ps
  cases r with
  | tup hz rs=>exact .inl ⟨_,_,rfl,.inr hz,_,E.cons_d (.int _),by rw [rs.length];exact h⟩
 ·
  obtain ⟨v,rfl,r⟩:=m7 ps
  cases r with
  | str z=>exact .inr ⟨_,rfl,h.1,_,E.cons_d (.int _),h.2⟩
 ·
  exact h.elim
def vE:OpN:=fun ds k=>match ds with
 | [.int i]=>k (.d (.int (if i <0 then -i else i)))
 | _=>False
theorem xj:eX X (.builtin "abs") vE:=eX.of zB fun σ H Pr ρ vs ds post E ps h=>by
 unfold vE at h
 split at h
 ·
  obtain ⟨v,rfl,r⟩:=m7 ps
  cases r with
  | int i=>exact ⟨_,rfl,_,E.cons_d (.int _),h⟩
 ·
  exact h.elim
def xk:OpN:=fun ds k=>match ds with
 | [.int i,.int j]=>k (.d (.int (if j > i then j else i)))
 | _=>False
def xl:OpN:=fun ds k=>match ds with
 | [.int i,.int j]=>k (.d (.int (if j <i then j else i)))
 | _=>False
theorem Bj (hc:X.calm=true):eX X (.builtin "max") xk:=eX.of (wH hc) fun σ H Pr ρ vs ds post E ps h=>by
 unfold xk at h
 split at h
 ·
  obtain ⟨v,w,rfl,r,r'⟩:=Em ps
  cases r with
  | int i=>cases r' with
   | int j=>exact ⟨_,_,rfl,_,E.cons_d (.int _),h⟩
 ·
  exact h.elim
theorem Bk (hc:X.calm=true):eX X (.builtin "min") xl:=eX.of (wJ hc) fun σ H Pr ρ vs ds post E ps h=>by
 unfold xl at h
 split at h
 ·
  obtain ⟨v,w,rfl,r,r'⟩:=Em ps
  cases r with
  | int i=>cases r' with
   | int j=>exact ⟨_,_,rfl,_,E.cons_d (.int _),h⟩
 ·
  exact h.elim
def rX:OpN:=fun ds k=>match ds with
 | [.int i]=>k (.d (.int i))
 | [.bl b]=>k (.d (.int (if b then 1 else 0)))
 | _=>False
theorem uh:eX X (.type "int") rX:=eX.of wK fun σ H Pr ρ vs ds post E ps h=>by
 unfold rX at h
 split at h
 ·
  obtain ⟨v,rfl,r⟩:=m7 ps
  cases r with
  | int i=>exact .inl ⟨_,rfl,_,E.cons_d (.int _),h⟩
 ·
  obtain ⟨v,rfl,r⟩:=m7 ps
  cases r with
  | bl i=>exact .inr ⟨_,rfl,_,E.cons_d (.int _),h⟩
 ·
  exact h.elim
def jv:OpN:=fun ds k=>match ds with
 | [.lst xs]=>∀a,k (.own a xs)
 | [.tup xs]=>∀a,k (.own a xs)
 | _=>False
theorem kb:eX X (.type "list") jv:=eX.of pU fun σ H Pr ρ vs ds post E ps h=>by
 unfold jv at h
 split at h
 ·
  obtain ⟨v,rfl,r⟩:=m7 ps
  cases r with
  | lst hz rs=>exact ⟨_,_,rfl,.inl hz.l,fun l hl=>⟨_,E.cons_own hl rs,h l⟩⟩
 ·
  obtain ⟨v,rfl,r⟩:=m7 ps
  cases r with
  | tup hz rs=>exact ⟨_,_,rfl,.inr hz,fun l hl=>⟨_,E.cons_own hl rs,h l⟩⟩
 ·
  exact h.elim
def tyD:D→Value
 | .non=>.type "NoneType"
 | .bl _=>.type "bool"
 | .int _=>.type "int"
 | .str _=>.type "str"
 | .tup _=>.type "tuple"
 | .lst _=>.type "list"
 | .dct _=>.type "dict"
 | .exc _ _ _=>.none
def TyD (K:PySem.W.Frag) (d:D) (t:Value):Prop:=match d with
 | .exc c _ _=>∃C,t=.ref C∧fU K c C=true
 | d=>t=tyD d
theorem n5 {pins:List (Addr×Obj)} {σ:St} {H:Hp} {s:Shared} {a:Addr} {o:Obj} {u:HO} {C:Addr} {ns:List Str} {vs:List V} (I:Inv X pins σ H s) (h:H a=some (.frz o u)) (hc:o.cls=.ref C) (hn:PySem.W.notCls o=true) (hf:XF H o.dict ns vs):∃od,PySem.W.InstAt s.heap a o C od∧∀d,o.dict=some d→∃q,od=some q∧s.heap.get? d=some q:=by
 have e:=(show s.heap.get? a=some o∧_ from I.hok a _ h).1
 rcases hf with ⟨_,_,z⟩|⟨d,od,z,h2,_⟩
 ·
  exact ⟨none,⟨e,hc,hn,by rw [z];trivial⟩,fun d q=>by rw [z] at q;cases q⟩
 ·
  have e2:=(show s.heap.get? d=some od∧_ from I.hok d _ h2).1
  exact ⟨some od,⟨e,hc,hn,by rw [z];exact e2⟩,fun d' q=>by rw [z] at q;cases q;exact ⟨od,rfl,e2⟩⟩
theorem ui {pins:List (Addr×Obj)} {σ:St} {H:Hp} {s:Shared} {x:V} {u c:Value} {d:D} {b:Bool} {Q:Value→Shared→Prop} {A:Around} {E:Value→Shared→Prop} (I:Inv X pins σ H s) (rx:RelV x u) (r:Rep X.K H x d) (e:∀t,TyD X.K d t→PySem.W.kitOne X.K t c=some b) (h:∀tk,Q (.bool b) { s with toks:=tk }) :
  wpAny (model X.prog X.w) A (call (.builtin "isinstance") [u,c]) Q E s:=by
 cases r with
 | non=>cases rx;exact PySem.W.kia_one PySem.W.kitx_none I.kIn True.intro (e _ rfl) (fun z=>nomatch z) h
 | bl y=>cases rx;exact PySem.W.kia_one PySem.W.kitx_bool I.kIn True.intro (e _ rfl) (fun z=>nomatch z) h
 | int i=>obtain ⟨t,rfl⟩:=rx;exact PySem.W.kia_one PySem.W.kitx_int I.kIn True.intro (e _ rfl) (fun z=>nomatch z) h
 | str y=>obtain ⟨t,rfl⟩:=rx;exact PySem.W.kia_one PySem.W.kitx_str I.kIn True.intro (e _ rfl) (fun z=>nomatch z) h
 | lst hz rs =>
  cases rx
  obtain ⟨its,_,⟨o,n,e1,c1,_,_⟩,_⟩:=I.list hz.l
  exact PySem.W.kia_one PySem.W.kitx_list I.kIn ⟨o,e1,c1⟩ (e _ rfl) (fun z=>nomatch z) h
 | tup hz rs =>
  cases rx
  obtain ⟨its,_,⟨o,e1,c1,_⟩,_⟩:=I.tuple hz
  exact PySem.W.kia_one PySem.W.kitx_tuple I.kIn ⟨o,e1,c1⟩ (e _ rfl) (fun z=>nomatch z) h
 | @dct a o kvs hz =>
  cases rx
  obtain ⟨_,_,_,vs,_,o',es,ep,h1,h2,_⟩:=(show cQ X.prog X.w H s.heap a (.frz o (.dK kvs)) from I.hok a _ hz)
  exact PySem.W.kia_one PySem.W.kitx_dict I.kIn ⟨o',h1,h2.1⟩ (e _ rfl) (fun z=>nomatch z) h
 | @exc a o u cc C ns vs ds h1 hv hc hn hs hq hf rs =>
  cases rx
  obtain ⟨od,Ia,_⟩:=n5 I h1 hc hn hf
  obtain ⟨LL,cd,S⟩:=cS hs
  exact PySem.W.kia_one (uc S) I.kIn ⟨_,_,Ia⟩ (e _ ⟨C,rfl,hs⟩) (fun z=>nomatch z) h
def isTy (T:String):D→Bool
 | .non=>T == "NoneType"
 | .bl _=>T == "bool" || T == "int"
 | .int _=>T == "int"
 | .str _=>T == "str"
 | .tup _=>T == "tuple"
 | .lst _=>T == "list"
 | .dct _=>T == "dict"
 | .exc _ _ _=>(["ValueError","Exception","BaseException","object"]:List String).contains T
def fP (T:String):D→(L→Prop)→Prop:=fun d k=>k (.d (.bl (isTy T d)))
theorem dG {T:String} {y:Str} {py:Pos} (hT:∀ K d t,TyD K d t→PySem.W.kitOne K t (.type T)=some (isTy T d)) (hg:Gl X "isinstance") (hm:X.mg "isinstance"=none) (hy:Gl X y) (hmy:X.mg y=none) (hby:bootBuiltins y=some (.type T)) (ha:PL X a ta)
  (hny:y≠"__name__":=by decide) (hdy:(y == ("__debug__" : Str))=false:=by decide)
  (h1:starEach [a,.Name y py] X.env=(false,eval a X.env)::starEach [.Name y py] X.env:=by rfl) (h2:starEach [.Name y py] X.env=[(false,eval (.Name y py) X.env)]:=by rfl) (hpl:(backTo pos (starEach [.Name y py] X.env)).any (·.1)=false:=by rfl) :
  PL X (.Call (.Name "isinstance" p) [a,.Name y py] [] pos) (wUn (fP T) ta):=by
 have cr:fS X (.builtin "isinstance") (fun xs H Q=>∃ x d,xs=[x,.ty T]∧Rep X.K H x d∧Q (.bl (isTy T d)) H):=by
  intro pins s σ H xs us Q I rv h
  obtain ⟨x,d,rfl,r,q⟩:=h
  obtain ⟨u,w,rfl,r1,r2⟩:=vo rv
  cases r2
  exact ui I r1 r (hT _ d) fun tk=>⟨.bl _,H,I.tok _,rfl,q⟩
 refine PL.of (lK cr hg hm (by decide +kernel) (bC (ar ha).pe (bC (BL hy hmy hby (v:=.ty T) rfl hny hdy) fG h2) h1) (he:=h1) (hpl:=hpl)) fun σ H Pr ρ post E h=>?_
 refine ⟨Pr,ρ,fun r ρ1=>match r with
  | .d x=>fP T x fun r=>post r ρ1
  | _=>False,E,h,fun v H' r ρ' E' p=>?_⟩
 cases r with
 | d x =>
  obtain ⟨_,e1,p1⟩:=E'.head_d
  cases e1
  exact ⟨_,x,rfl,p1,_,ρ',E'.tail.cons_d (.bl _),p⟩
 | _=>exact p.elim
end
end L2
namespace L2
open PySem PySem.Spec PyProof.Rows
section
variable {X:Cx} {e a b c:Expr} {es rest:List Expr} {pos p apos cpos:Pos} {ta tb tc te:W L} {x:Str}
theorem REnv.updOwn {K:PySem.W.Frag} {Pr H:Hp} {σ:St} {ρ:Ev} {i:Nat} {l:Addr} {xs ys:List D} {vs:List V} (E:REnv K Pr H σ ρ) (q:ρ[i]?=some (.own l xs)) (r:Reps K H vs ys):REnv K Pr (upd H l (.lst vs)) σ (ρ.set i (.own l ys)):=by
 obtain ⟨sv,hs,rfl,_⟩:=E.slot q
 have hi:i <ρ.length:=(List.getElem?_eq_some_iff.mp q).1
 have E1:=(E.out q).write r
 have E2:=E1.back (i:=i) (by simp [hi]) hs
 rw [List.set_set] at E2
 exact E2
theorem REnv.ownAt {K:PySem.W.Frag} {Pr H:Hp} {σ:St} {ρ:Ev} {i:Nat} {l:Addr} {xs:List D} (E:REnv K Pr H σ ρ) (q:ρ[i]?=some (.own l xs)):σ[i]?=some (some (.ref l))∧∃vs,H l=some (.lst vs)∧Reps K H vs xs:=by
 obtain ⟨sv,hs,rfl,r⟩:=E.slot q
 exact ⟨hs,r⟩
def ownV (i:Nat) (ρ:Ev) (k:Addr→List D→Prop):Prop:=match ρ[i]? with
 | some (.own a xs)=>k a xs
 | _=>False
theorem eY {i:Nat} {ρ:Ev} {k:Addr→List D→Prop} (h:ownV i ρ k):∃a xs,ρ[i]?=some (.own a xs)∧k a xs:=by
 unfold ownV at h
 cases q:ρ[i]? with
 | none=>rw [q] at h;exact h.elim
 | some l =>
  rw [q] at h
  cases l with
  | own a xs=>exact ⟨a,xs,rfl,h⟩
  | un=>exact h.elim
  | d x=>exact h.elim
  | bx _ _=>exact h.elim
  | dic _ _=>exact h.elim
def wApp (i:Nat) (te:W L):W L:=fun ρ post=>ownV i ρ fun _ _=>te ρ fun r ρ1=>toD r fun y=>ownV i ρ1 fun a xs=>xs.length <sizeLine∧post (.d .non) (ρ1.set i (.own a (xs++[y])))
theorem dH (i:Nat) (he:PL X e te) (hN:X.N[i]?=some x:=by rfl) (hv:Vis X.env.scope x:=by first | exact Or.inl rfl | exact Or.inr (Or.inl rfl) | exact Or.inr (Or.inr rfl)) (hd:(x == ("__debug__" : Str))=false:=by decide)
  (hcd:(x == ("__classdict__" : Str))=false:=by decide) (hs1:starEach [e] X.env=[(false,eval e X.env)]:=by rfl) (hbase:attributeBase (.Name x p) "append" X.env (eval (.Name x p) X.env)=eval (.Name x p) X.env:=by rfl)
  (hfew:((backTo cpos (starEach [e] X.env)).all (fun x=>!x.1) && (backToKw cpos (keywordEach [] X.env)).all (fun x=>x.1.isSome)
   && decide (([e]).length+([]:List Keyword).length+(if ([]:List Keyword).isEmpty then 0 else 1) <30))=true:=by rfl)
  (hline:(apos.endLine == cpos.line)=true:=by rfl) (hplain:(backTo cpos (starEach ([]:List Expr) X.env)).any (·.1)=false:=by rfl) :
  PL X (.Call (.Attribute (.Name x p) "append" apos) [e] [] cpos) (wApp i te):=by
 refine PL.of (Eb PySem.F.plainAttrs_list PySem.F.slot_list_append PySem.F.type_list_append pV (dB hN hv hd hcd) (bC (ar he).pe fG hs1) (hbase:=hbase) (hfew:=hfew) (hline:=hline) (hs:=hs1) (hplain:=hplain)) fun σ H Pr ρ post E h=>?_
 obtain ⟨l,xs0,q0,h⟩:=eY h
 obtain ⟨hσ,vs0,hl0,_⟩:=E.ownAt q0
 refine ⟨.ref l,hσ,.inl ⟨rfl,vs0,SqL.of hl0⟩,Pr,ρ,fun r ρ1=>match r with
  | .d y=>ownV i ρ1 fun a xs=>xs.length <sizeLine∧post (.d .non) (ρ1.set i (.own a (xs++[y])))
  | _=>False,E,h,fun v H' r ρ' E' pp=>?_⟩
 cases r with
 | d y =>
  obtain ⟨l',xs,q,hlen,pp⟩:=eY pp
  obtain ⟨hσ',vs,hl,r⟩:=E'.tail.ownAt q
  rw [hσ] at hσ'
  cases hσ'
  obtain ⟨_,e1,p1⟩:=E'.head_d
  cases e1
  exact ⟨l,vs,v,rfl,rfl,hl,by rw [r.length];exact hlen,_,_,(E'.tail.updOwn q (r.append (.cons p1 .nil))).cons_d .non,pp⟩
 | _=>exact pp.elim
def wIxV (i:Nat) (tb:W L):W L:=fun ρ post=>ownV i ρ fun _ _=>tb ρ fun r ρ1=>jt r fun j=>ownV i ρ1 fun _ xs=>∃y,atI xs j=some y∧post (.d y) ρ1
theorem fJ (i:Nat) (hb:PL X b tb) (hs:nW b) (hN:X.N[i]?=some x:=by rfl) (hv:Vis X.env.scope x:=by first | exact Or.inl rfl | exact Or.inr (Or.inl rfl) | exact Or.inr (Or.inr rfl)) (hd:(x == ("__debug__" : Str))=false:=by decide)
  (hcd:(x == ("__classdict__" : Str))=false:=by decide):PL X (.Subscript (.Name x p) b pos) (wIxV i tb):=by
 refine PL.of (D7 rO (dB hN hv hd hcd) hb.pe hs) fun σ H Pr ρ post E h=>?_
 obtain ⟨l,xs0,q0,h⟩:=eY h
 obtain ⟨hσ,vs0,hl0,_⟩:=E.ownAt q0
 refine ⟨.ref l,hσ,Pr,ρ,_,E,h,fun v H' r ρ' E' pp=>?_⟩
 obtain ⟨j,rfl,pp⟩:=cM pp
 obtain ⟨l',xs,q,y,hy,pp⟩:=eY pp
 obtain ⟨hσ',vs,hl,r⟩:=E'.tail.ownAt q
 rw [hσ] at hσ'
 cases hσ'
 obtain ⟨_,e1,p1⟩:=E'.head_d
 cases e1
 cases p1
 obtain ⟨w,hw,rw⟩:=rW r hy
 exact ⟨l,vs,j,w,rfl,rfl,SqL.of hl,hw,_,ρ',E'.tail.cons_d rw,pp⟩
def xm (i:Nat):W L:=fun ρ post=>ownV i ρ fun _ xs=>post (.d (.int xs.length)) ρ
theorem xn (i:Nat) (hg:Gl X "len") (hm:X.mg "len"=none) (hN:X.N[i]?=some x:=by rfl) (hv:Vis X.env.scope x:=by first | exact Or.inl rfl | exact Or.inr (Or.inl rfl) | exact Or.inr (Or.inr rfl)) (hd:(x == ("__debug__" : Str))=false:=by decide)
  (hcd:(x == ("__classdict__" : Str))=false:=by decide) (h1:starEach [.Name x p] X.env=[(false,eval (.Name x p) X.env)]:=by rfl) (hpl:(backTo pos (starEach ([]:List Expr) X.env)).any (·.1)=false:=by rfl) :
  PL X (.Call (.Name "len" apos) [.Name x p] [] pos) (xm i):=by
 refine PL.of (lK kR hg hm PySem.boot_len (bC (dB hN hv hd hcd) fG h1) (he:=h1) (hpl:=hpl)) fun σ H Pr ρ post E h=>?_
 obtain ⟨l,xs0,q0,h⟩:=eY h
 obtain ⟨hσ,vs0,hl0,r⟩:=E.ownAt q0
 exact ⟨.ref l,hσ,l,vs0,rfl,.inl (SqL.of hl0),_,ρ,E.cons_d (.int _),by rw [r.length];exact h⟩
def n6 (i:Nat) (tb te:W L):W Fl:=fun ρ post=>te ρ fun r ρ1=>toD r fun y=>ownV i ρ1 fun _ _=>tb ρ1 fun r ρ2=>jt r fun j=>ownV i ρ2 fun a xs=>∃k,ixN xs.length j=some k∧post .nx (ρ2.set i (.own a (xs.set k y)))
theorem iL (i:Nat) {b:Expr} {ps:Pos} (hb:PL X b tb) (he:PL X e te) (hN:X.N[i]?=some x:=by rfl) (hv:Vis X.env.scope x:=by first | exact Or.inl rfl | exact Or.inr (Or.inl rfl) | exact Or.inr (Or.inr rfl)) (hd:(x == ("__debug__" : Str))=false:=by decide)
  (hcd:(x == ("__classdict__" : Str))=false:=by decide)
  (ha:∀v,assign (.Subscript (.Name x p) b ps) X.env v=(do
   let ov ← holding [v] (eval (.Name x p) X.env)
   let iv ← holding [v,ov] (eval b X.env)
   standAt ps
   holding [v,ov,iv] (setItem ov iv v)
   release [v,ov,iv] []):=by intro _;rfl)
  (hs:swapsWithSole [.Subscript (.Name x p) b ps] e pos.line X.env=pure false:=by rfl) (hw:swappedStores [.Subscript (.Name x p) b ps] e X.env=pure none:=by rfl)
  (h1:(assignEach [.Subscript (.Name x p) b ps] X.env).map (·.2)=[assign (.Subscript (.Name x p) b ps) X.env]:=by rfl):PM X (.Assign [.Subscript (.Name x p) b ps] e pos) (n6 i tb te):=by
 refine PM.of (DP (ar he).pe (DO (dB hN hv hd hcd) hb.pe zE ha) hs hw h1) fun σ H Pr ρ post hlen E h=>?_
 refine ⟨Pr,ρ,fun r ρ1=>match r with
  | .d y=>ownV i ρ1 fun _ _=>tb ρ1 fun r ρ2=>jt r fun j=>ownV i ρ2 fun a xs=>∃k,ixN xs.length j=some k∧post .nx (ρ2.set i (.own a (xs.set k y)))
  | _=>False,E,h,fun v H' r ρ' E' pp=>?_⟩
 cases r with
 | d y =>
  obtain ⟨l,xs0,q0,pp⟩:=eY pp
  obtain ⟨hσ,vs0,hl0,_⟩:=E'.tail.ownAt q0
  refine ⟨.ref l,hσ,ba H' ρ',ρ',_,E'.tail.wide,pp,fun w H2 r2 ρ2 E2 pp=>?_⟩
  obtain ⟨j,rfl,pp⟩:=cM pp
  obtain ⟨l',xs,q,k,hk,pp⟩:=eY pp
  obtain ⟨_,e1,p1⟩:=E2.head_d
  cases e1
  cases p1
  have E3:REnv X.K Pr H2 (some (.int j)::some v::σ) (.d (.int j)::.d y::ρ2):=REnv.step (τ:=[some v]) (lam:=[.d y]) (w:=[some (.int j)]) (μ:=[.d (.int j)]) E' rfl E2 rfl
  obtain ⟨_,e1,p1⟩:=E3.tail.head_d
  cases e1
  obtain ⟨hσ',vs,hl,r⟩:=E3.tail.tail.ownAt q
  rw [hσ] at hσ'
  cases hσ'
  refine ⟨l,vs,j,k,rfl,rfl,hl,by rw [r.length];exact hk,_,E3.tail.tail.updOwn q (r.set p1 k),pp⟩
 | _=>exact pp.elim
def vF:Option (W L)→Ev→(Option Int→Ev→Prop)→Prop
 | none=>fun ρ k=>k none ρ
 | some t=>fun ρ k=>t ρ fun r ρ1=>jt r fun i=>k (some i) ρ1
def cutD {α:Type} (xs:List α) (lo hi:Option Int):List α:=(xs.drop (HT.sIx xs.length 0 lo)).take (HT.sIx xs.length xs.length hi - HT.sIx xs.length 0 lo)
end
end L2
namespace L2
open PySem PySem.Spec PyProof.Rows
def bb:List Nat→Ev→Ev
 | [],ρ=>ρ
 | j::r,ρ=>(bb r ρ).set j .un
def bW (fi:List Nat) (ρ:Ev):Ev:=fi.map fun j=>(ρ[j]?).getD .un
def bI (fi:List Nat) (σ:St):St:=fi.map fun j=>(σ[j]?).getD none
def eI:List Nat→Ev→Ev→Ev
 | j::r,c::cs,ρ=>eI r cs (ρ.set j c)
 | _,_,ρ=>ρ
theorem dJ:∀(fi:List Nat) (ρ:Ev),(bb fi ρ).length=ρ.length
 | [],_=>rfl
 | j::r,ρ=>by unfold bb;rw [List.length_set,dJ r ρ]
theorem p7:∀(fi:List Nat) (ρ:Ev) (j:Nat),j∉fi→(bb fi ρ)[j]?=ρ[j]?
 | [],_,_,_=>rfl
 | i::r,ρ,j,h=>by
  unfold bb
  rw [List.getElem?_set_ne (fun e=>h (by simp [e])),p7 r ρ j fun e=>h (List.mem_cons_of_mem _ e)]
theorem uj:∀(fi:List Nat) (ρ:Ev) (j:Nat),j∈fi→j <ρ.length→(bb fi ρ)[j]?=some .un
 | i::r,ρ,j,h,hl=>by
  unfold bb
  by_cases e:i=j
  ·
   subst e
   rw [List.getElem?_set_self (by rw [dJ];exact hl)]
  ·
   rw [List.getElem?_set_ne e]
   exact uj r ρ j ((List.mem_cons.mp h).resolve_left fun z=>e z.symm) hl
section
variable {K:PySem.W.Frag} {Pr H H':Hp} {σ τ σ' w:St} {ρ μ lam ρ':Ev}
theorem REnv.takeAt (E:REnv K Pr H σ ρ) {i:Nat} {l:L} {s:Option V} (h:ρ[i]?=some l) (hs:σ[i]?=some s):REnv K Pr H (s::σ) (l::ρ.set i .un):=E.outL h hs
theorem REnv.takes (E:REnv K Pr H σ ρ):∀(fi:List Nat),fi.Nodup→(∀j∈fi,j <ρ.length)→REnv K Pr H (bI fi σ++σ) (bW fi ρ++bb fi ρ)
 | [],_,_=>E
 | j::r,nd,hl=>by
  have ih:=E.takes r (List.nodup_cons.mp nd).2 fun i hi=>hl i (List.mem_cons_of_mem _ hi)
  have hj:j <ρ.length:=hl j List.mem_cons_self
  have hjs:j <σ.length:=by rw [E.len];exact hj
  have e1:(bW r ρ++bb r ρ)[r.length+j]?=some ρ[j]:=by
   rw [List.getElem?_append_right (by simp [bW])]
   simp only [bW,List.length_map,Nat.add_sub_cancel_left]
   rw [p7 r ρ j (List.nodup_cons.mp nd).1]
   exact List.getElem?_eq_getElem hj
  have e2:(bI r σ++σ)[r.length+j]?=some σ[j]:=by
   rw [List.getElem?_append_right (by simp [bI])]
   simp only [bI,List.length_map,Nat.add_sub_cancel_left]
   exact List.getElem?_eq_getElem hjs
  have z:=ih.takeAt e1 e2
  rw [List.set_append_right _ _ (by simp [bW])] at z
  simp only [bW,List.length_map,Nat.add_sub_cancel_left] at z
  have c1:bI (j::r) σ=σ[j]::bI r σ:=by simp [bI,hjs]
  have c2:bW (j::r) ρ=ρ[j]::bW r ρ:=by simp [bW,hj]
  rw [c1,c2]
  exact z
theorem REnv.backs:∀(fi:List Nat) {cs ρ:Ev},fi.Nodup→cs.length=fi.length→(∀j∈fi,ρ[j]?=some .un)→(∀j∈fi,j <σ.length)→REnv K Pr H (bI fi σ++σ) (cs++ρ)→REnv K Pr H σ (eI fi cs ρ)
 | [],[],ρ,_,_,_,_,E=>E
 | j::r,c::cs,ρ,nd,hl,hu,hs,E=>by
  have hjs:j <σ.length:=hs j List.mem_cons_self
  have hj:=hu j List.mem_cons_self
  have c1:bI (j::r) σ=σ[j]::bI r σ:=by simp [bI,hjs]
  rw [c1] at E
  have hlr:cs.length=r.length:=by simpa using hl
  have z:=REnv.back (σ:=bI r σ++σ) (ρ:=cs++ρ) (l:=c) E (i:=r.length+j) (by
   rw [List.getElem?_append_right (by omega),hlr,Nat.add_sub_cancel_left];exact hj) (by
   rw [List.getElem?_append_right (by simp [bI])]
   simp only [bI,List.length_map,Nat.add_sub_cancel_left]
   exact List.getElem?_eq_getElem hjs)
  rw [List.set_append_right _ _ (by omega),hlr,Nat.add_sub_cancel_left] at z
  exact REnv.backs r (List.nodup_cons.mp nd).2 hlr (fun i hi=>by
   rw [List.getElem?_set_ne (fun e=>(List.nodup_cons.mp nd).1 (by rw [e];exact hi))];exact hu i (List.mem_cons_of_mem _ hi)) (fun i hi=>hs i (List.mem_cons_of_mem _ hi)) z
 | [],_::_,_,_,hl,_,_,_=>by simp at hl
 | _::_,[],_,_,hl,_,_,_=>by simp at hl
end
def clOf (cells:List (Str×Addr)):List (Str×NameKind)→List (Str×Addr)→List (Str×Addr)
 | [],acc=>acc
 | (n,k)::r,acc=>clOf cells r (if k == .free then (match cells.lookup n with|some c=>(n,c)::acc|none=>acc) else acc)
theorem kc {env:Env}:∀(names:List (Str×NameKind)) (acc:List (Str×Addr)),(∀x∈names,x.2=.free→∃c,env.cells.lookup x.1=some c) →
  (forIn names acc fun (x:Str×NameKind) (cs:List (Str×Addr))=>(if x.2 == .free then do let c ← cellOf env x.1;pure (ForInStep.yield ((x.1,c)::cs)) else pure (ForInStep.yield cs):Sem (ForInStep (List (Str×Addr)))))=pure (clOf env.cells names acc)
 | [],acc,_=>rfl
 | (n,k)::r,acc,h=>by
  rw [List.forIn_cons]
  by_cases hk:(k == NameKind.free)=true
  ·
   obtain ⟨c,hc⟩:=h (n,k) List.mem_cons_self (by simpa using hk)
   have e:cellOf env n=pure c:=by unfold cellOf;rw [show env.cells.lookup n=some c from hc]
   simp only [hk,if_true,e,pure_bind,clOf,hc]
   exact kc r _ fun x hx=>h x (List.mem_cons_of_mem _ hx)
  ·
   simp only [hk,clOf,if_false,pure_bind]
   exact kc r _ fun x hx=>h x (List.mem_cons_of_mem _ hx)
theorem n8 {scope:Scope} {env:Env} (h:∀x∈scope.names,x.2=.free→∃c,env.cells.lookup x.1=some c):closureFor scope env=pure (clOf env.cells scope.names []):=by
 have:=kc (env:=env) scope.names [] h
 unfold closureFor
 simp only [bind_pure_comp] at this ⊢
 rw [this]
 rfl
theorem uk {cells:List (Str×Addr)}:∀(names:List (Str×NameKind)) (acc:List (Str×Addr)),(∀x c,acc.lookup x=some c→cells.lookup x=some c)→∀x c,(clOf cells names acc).lookup x=some c→cells.lookup x=some c
 | [],acc,h,x,c,e=>h x c e
 | (n,k)::r,acc,h,x,c,e=>by
  unfold clOf at e
  refine uk r _ (fun y d ey=>?_) x c e
  split at ey
  ·
   split at ey
   ·
    rename_i q
    rw [List.lookup_cons] at ey
    split at ey
    ·
     rename_i e2
     have:y=n:=by simpa using e2
     cases ey
     rw [this];exact q
    ·
     exact h y d ey
   ·
    exact h y d ey
  ·
   exact h y d ey
theorem lB {n:Str} {c:Addr} {acc:List (Str×Addr)} {x:Str} (h:∃d,acc.lookup x=some d):∃d,((n,c)::acc).lookup x=some d:=by
 rw [List.lookup_cons]
 split
 ·
  exact ⟨_,rfl⟩
 ·
  exact h
theorem n9 {cells:List (Str×Addr)}:∀(names:List (Str×NameKind)) (acc:List (Str×Addr)) (x:Str),((∃d,acc.lookup x=some d)∨((x,NameKind.free)∈names∧∃c,cells.lookup x=some c))→∃d,(clOf cells names acc).lookup x=some d
 | [],acc,x,h=>by
  rcases h with h|⟨h,_⟩
  ·
   exact h
  ·
   simp at h
 | (n,k)::r,acc,x,h=>by
  unfold clOf
  refine n9 r _ x ?_
  rcases h with h|⟨hm,c,hc⟩
  ·
   left
   split
   ·
    split
    ·
     exact lB h
    ·
     exact h
   ·
    exact h
  ·
   rcases List.mem_cons.mp hm with e|hm
   ·
    cases e
    left
    simp only [hc,beq_self_eq_true,if_true]
    exact ⟨c,by simp [List.lookup_cons]⟩
   ·
    exact .inr ⟨hm,c,hc⟩
def jw (X:Cx) (scope:Scope) (cl:List (Str×Addr)) (Nb:List Str) (s₀:Shared) (H₀:Hp) (fp:List Addr):Cx :=
 { X with N:=Nb,s₀:=s₀,H₀:=H₀,env:=compEnvC scope cl s₀.heap.objs.size X.env,outer:=X.stack,stack:=X.stack,ex:=fp,fn:=fun _=>false,pn:=[],xe:=fun _ _=>False }
end L2
namespace L2
open PySem PySem.Spec PyProof.Rows
theorem gW {α β:Type} {F:α→β→Prop}:∀{a:List α} {b:List β},Paired F a b↔a.length=b.length∧∀p∈a.zip b,F p.1 p.2
 | [],[]=>⟨fun _=>⟨rfl,fun _ h=>by simp at h⟩,fun _=>.nil⟩
 | [],_::_=>⟨(fun h=>nomatch h),fun h=>by simp at h⟩
 | _::_,[]=>⟨(fun h=>nomatch h),fun h=>by simp at h⟩
 | x::a,y::b=>by
  constructor
  ·
   intro h
   cases h with
   | cons r t =>
    obtain ⟨h1,h2⟩:=gW.mp t
    exact ⟨by simp [h1],fun p hp=>by
     rw [List.zip_cons_cons] at hp
     rcases List.mem_cons.mp hp with rfl|hp
     ·
      exact r
     ·
      exact h2 p hp⟩
  ·
   rintro ⟨hl,h⟩
   exact .cons (h (x,y) (by simp)) (gW.mpr ⟨by simpa using hl,fun p hp=>h p (by rw [List.zip_cons_cons];exact List.mem_cons_of_mem _ hp)⟩)
theorem oa:∀{σ:St} {ρ:Ev},σ.length=ρ.length→(σ.zip ρ).map (·.2)=ρ
 | [],[],_=>rfl
 | _::σ,l::ρ,h=>by
  have ih:=oa (σ:=σ) (ρ:=ρ) (by simpa using h)
  rw [List.zip_cons_cons,List.map_cons,ih]
 | [],_::_,h=>by simp at h
 | _::_,[],h=>by simp at h
theorem REnv.rearr {K:PySem.W.Frag} {Pr H:Hp} {σ σ2:St} {ρ ρ2:Ev} (E:REnv K Pr H σ ρ) (hl:σ2.length=ρ2.length) (extra:List (Option V×L)) (h:(σ.zip ρ).Perm (σ2.zip ρ2++extra)):REnv K Pr H σ2 ρ2:=by
 have pm:(owns ρ).Perm (owns ρ2++owns (extra.map (·.2))):=by
  have q:=jr (h.map (·.2))
  rw [List.map_append,oa E.len,oa hl,ay] at q
  exact q
 refine ⟨E.sub,(List.nodup_append.mp (pm.nodup_iff.mp E.nd)).1,fun a ha=>E.off a (pm.mem_iff.mpr (List.mem_append_left _ ha)),gW.mpr ⟨hl,fun p hp=>?_⟩⟩
 exact (gW.mp E.sl).2 p (h.mem_iff.mpr (List.mem_append_left _ hp))
theorem p8 {fi:List Nat} {σ τ:St} (h:∀j∈fi,j <σ.length):bI fi (σ++τ)=bI fi σ:=by
 unfold bI
 refine List.map_congr_left fun j hj=>?_
 rw [List.getElem?_append_left (h j hj)]
theorem vG {fi:List Nat} {σ τ:Ev} (h:∀j∈fi,j <σ.length):bW fi (σ++τ)=bW fi σ:=by
 unfold bW
 refine List.map_congr_left fun j hj=>?_
 rw [List.getElem?_append_left (h j hj)]
theorem p9 {τ:Ev}:∀{fi:List Nat} {ρ:Ev},(∀j∈fi,j <ρ.length)→bb fi (ρ++τ)=bb fi ρ++τ
 | [],_,_=>rfl
 | j::r,ρ,h=>by
  unfold bb
  rw [p9 fun i hi=>h i (List.mem_cons_of_mem _ hi),List.set_append_left _ _ (by rw [dJ];exact h j List.mem_cons_self)]
theorem nE {τ:Ev}:∀{fi:List Nat} {cs ρ:Ev},(∀j∈fi,j <ρ.length)→eI fi cs (ρ++τ)=eI fi cs ρ++τ
 | [],[],_,_=>rfl
 | [],_::_,_,_=>rfl
 | _::_,[],_,_=>rfl
 | j::r,c::cs,ρ,h=>by
  unfold eI
  rw [List.set_append_left _ _ (h j List.mem_cons_self)]
  exact nE fun i hi=>by rw [List.length_set];exact h i (List.mem_cons_of_mem _ hi)
theorem dM {env:Env}:∀{names:List (Str×NameKind)} {x:Str},names.lookup x=some .free →
  (names.map fun (n,k)=>if (k == NameKind.free && env.scope.kind == .function && env.kindOf n == some .cell) then (n,NameKind.cell) else (n,k)).lookup x=some .cell ∨
  (names.map fun (n,k)=>if (k == NameKind.free && env.scope.kind == .function && env.kindOf n == some .cell) then (n,NameKind.cell) else (n,k)).lookup x=some .free
 | [],_,h=>by simp at h
 | (n,k)::r,x,h=>by
  have ih:=@dM env r x
  rw [List.map_cons]
  cases hx:x == n with
  | true =>
   simp only [List.lookup_cons,hx] at h
   cases h
   dsimp only
   by_cases hc:(NameKind.free == NameKind.free && env.scope.kind == .function && env.kindOf n == some .cell)=true
   ·
    left;rw [if_pos hc];simp [List.lookup_cons,hx]
   ·
    right;rw [if_neg hc];simp [List.lookup_cons,hx]
  | false =>
   simp only [List.lookup_cons,hx] at h
   dsimp only
   by_cases hc:(k == NameKind.free && env.scope.kind == .function && env.kindOf n == some .cell)=true
   ·
    rw [if_pos hc];simp only [List.lookup_cons,hx];exact ih h
   ·
    rw [if_neg hc];simp only [List.lookup_cons,hx];exact ih h
theorem eZ {env:Env}:∀{names:List (Str×NameKind)} {x:Str} {k:NameKind},(∀y∈names,y.2≠.cell)→(k=.cell∨k=.free) →
  (names.map fun (n,k)=>if (k == NameKind.free && env.scope.kind == .function && env.kindOf n == some .cell) then (n,NameKind.cell) else (n,k)).lookup x=some k→(x,NameKind.free)∈names
 | [],_,_,_,_,h=>by simp at h
 | (n,k0)::r,x,k,hc,hk,h=>by
  rw [List.map_cons] at h
  dsimp only at h
  by_cases q:(k0 == NameKind.free && env.scope.kind == .function && env.kindOf n == some .cell)=true
  ·
   rw [if_pos q,List.lookup_cons] at h
   have e0:k0=.free:=by
    have:=(Bool.and_eq_true_iff.mp (Bool.and_eq_true_iff.mp q).1).1
    simpa using this
   split at h
   ·
    rename_i e
    have:x=n:=by simpa using e
    subst this e0
    exact List.mem_cons_self
   ·
    exact List.mem_cons_of_mem _ (eZ (fun y hy=>hc y (List.mem_cons_of_mem _ hy)) hk h)
  ·
   rw [if_neg q,List.lookup_cons] at h
   split at h
   ·
    rename_i e
    have:x=n:=by simpa using e
    subst this
    have e1:k0=k:=by simpa using h
    subst e1
    rcases hk with z|z
    ·
     exact absurd z (hc (x,k0) List.mem_cons_self)
    ·
     subst z;exact List.mem_cons_self
   ·
    exact List.mem_cons_of_mem _ (eZ (fun y hy=>hc y (List.mem_cons_of_mem _ hy)) hk h)
end L2
namespace L2
open PySem PySem.Spec PyProof.Rows
section
variable {prog:Program} {w:World} {A:Around} {R:Result→Shared→Prop}
theorem xq {elt target iter:Expr} {ifs:List Expr} {scope:Scope} {pos:Pos} {it acc:Value} {env:Env} (I:Nat→Shared→Prop)
  (turn:∀n s,I n s→wpAny (model prog w) A (pyNext it) (fun r s₁=>match r with
   | none=>R (.ok .next) s₁
   | some v=>wpAny (model prog w) A (letOwnedTupleGo target it v) (fun _ s₀=>wpAny (model prog w) A (assign target env v) (fun _ s₂ =>
     wpAny (model prog w) A (forIn ifs true fun c r=>if r=true then do let ok ← isTrue c env (eval c env);pure (ForInStep.yield ok) else pure (ForInStep.yield r)) (fun ok s₃ =>
      if ok=true then wpAny (model prog w) A (eval elt env) (fun x s₄ =>
       wpAny (model prog w) A (call (.builtin "list.append") [acc,x]) (fun _ s₅=>∃ m,m < n∧I m s₅) (fun _ _=>False) s₄) (fun _ _=>False) s₃
      else ∃m,m <n∧I m s₃) (fun _ _=>False) s₂) (fun _ _=>False) s₀) (fun _ _=>False) s₁) (fun _ _=>False) s)
  (n:Nat) {s:Shared} (h:I n s) :
  codeAny (model prog w) A (.compLoop (.ListComp elt [⟨target,iter,ifs,0⟩] scope pos) 0 it acc env) R s:=by
 refine codeAny_loop rfl I (fun n s hI=>?_) n h
 show wpAny _ A ((compTurn (.ListComp elt [⟨target,iter,ifs,0⟩] scope pos) 0 it acc env).onRaise (fun x=>do noteFrame x env;theTreesLotGoes x)) _ _ s
 refine wpAny_noted ?_
 rw [compTurn_list]
 have fe:∀{α:Type} {t:Sem α} {Q:α→Shared→Prop} {E:Value→Shared→Prop} {s:Shared},wpAny (model prog w) A t Q (fun _ _=>False) s→wpAny (model prog w) A t Q E s:=fun h=>wpAny_mono h (fun _ _ q=>q) fun _ _ z=>z.elim
 refine wpAny_bind (wpAny_standAt (wpAny_bind (wpAny_mono (turn n s hI) (fun r s₁ h₁=>?_) fun _ _ h'=>h'.elim)))
 cases r with
 | none=>exact wpAny_pure h₁
 | some v =>
  refine wpAny_bind (wpAny_mono h₁ (fun _ s₀ h₀=>?_) fun _ _ z=>z.elim)
  refine wpAny_bind (wpAny_mono h₀ (fun _ s₂ h₂=>wpAny_bind (wpAny_mono h₂ (fun ok s₃ h₃=>?_) fun _ _ h'=>h'.elim)) fun _ _ h'=>h'.elim)
  cases ok with
  | false=>exact wpAny_pure ⟨rfl,h₃⟩
  | true =>
   exact wpAny_bind (wpAny_bind (wpAny_mono h₃ (fun x s₄ h₄=>wpAny_bind (wpAny_mono h₄ (fun _ s₅ h₅=>wpAny_pure (wpAny_pure ⟨rfl,h₅⟩)) fun _ _ h'=>h'.elim)) fun _ _ h'=>h'.elim))
end
def PTc (X:Cx) (tg:Expr) (n:Nat) (g:Tg):Prop:=∃gg:TG,PG X tg gg∧∀v σ H Pr ρ x k,σ.length=X.N.length→REnv X.K Pr H σ ρ→Rep X.K H v x→g x ρ k→gg v σ H fun σ' H'=>H'=H∧σ'.drop n=σ.drop n∧∃ρ',REnv X.K Pr H σ' ρ'∧k ρ'
theorem ke {X:Cx} {i n:Nat} {x:Str} {pos:Pos} (hn:i <n) (hN:X.N.Nodup) (hi:X.N[i]?=some x) (hx:Loc X.env.scope x) (hf:X.fn x=true∨X.env.scope.names.lookup x=some .local:=by first|exact .inl rfl|exact .inr rfl|assumption):PTc X (.Name x pos) n (cj i) :=
 ⟨_,rM hN hi hx hf,fun v σ H Pr ρ x k hl E r h=>⟨rfl,by rw [List.drop_set_of_lt hn],_,(E.cons_d r).store (by rw [hl];exact (List.getElem?_eq_some_iff.mp hi).1),h⟩⟩
def PIf (X:Cx) (ifs:List Expr) (t:W Bool):Prop :=
 ∀(pins:List (Addr×Obj)) (s:Shared) (σ:St) (H Pr:Hp) (ρ:Ev) (post:Bool→Ev→Prop),Inv X pins σ H s→REnv X.K Pr H σ ρ→t ρ post →
  wpAny (model X.prog X.w) X.A (forIn ifs true fun c r=>if r=true then do let ok ← isTrue c X.env (eval c X.env);pure (ForInStep.yield ok) else pure (ForInStep.yield r)) (EB X pins σ Pr post) X.xe s
def oe:W Bool:=fun ρ post=>post true ρ
theorem mh {X:Cx}:PIf X [] oe:=fun pins s σ H Pr ρ post I E h=>wpAny_tests_nil ⟨H,ρ,I,E,h⟩
theorem Cc {X:Cx} {c:Expr} {t:W Bool} (h:PB X c t):PIf X [c] t:=fun pins s σ H Pr ρ post I E ht=>wpAny_tests_one (h pins s σ H Pr ρ post I E ht)
def gb (g:Tg) (ti:W Bool) (te:W L):List D→Ev→List D→(List D→Ev→Prop)→Prop
 | [],ρ,acc,k=>k acc ρ
 | x::xs,ρ,acc,k=>g x ρ fun ρ1=>ti ρ1 fun b ρ2=>if b=true then te ρ2 fun r ρ3=>toD r fun y=>gb g ti te xs ρ3 (acc++[y]) k else gb g ti te xs ρ2 acc k
def og (n:Nat) (fi:List Nat) (src:W (List D)) (g:Tg) (ti:W Bool) (te:W L):W L:=fun ρ post=>src ρ fun xs ρ1=>xs.length≤sizeLine ∧
 gb g ti te xs (List.replicate n .un++bW fi ρ1) [] fun ys ρb=>∀a,post (.own a ys) (eI fi (ρb.drop n) (bb fi ρ1))
section
variable {X:Cx}
theorem xr {elt tg iter:Expr} {ifs:List Expr} {scope sc:Scope} {pos:Pos} {N Nt Nf:List Str} {fi:List Nat} {src:W (List D)} {g:Tg} {ti:W Bool} {te:W L}
  (hsc:X.env.scope=sc) (hXN:X.N=N) (hc:X.calm=true) (hi:PIL X tg iter src)
  (hkind:scope.kind=.function) (hnames:∀x∈scope.names,x.2=.local→scope.names.lookup x.1=some .local) (hcell:∀y∈scope.names,y.2≠.cell)
  (hfr:∀x∈scope.names,x.2=.free→sc.names.lookup x.1=some .cell∨sc.names.lookup x.1=some .free)
  (hnd:fi.Nodup) (hNf:Nf.map some=fi.map (fun j=>N[j]?)) (hNk:∀x∈Nf,scope.names.lookup x=some .free) (hfl:∀j∈fi,j <N.length)
  (hg:∀cl s₀ H₀ fp,PTc (jw X scope cl (Nt++Nf) s₀ H₀ fp) tg Nt.length g) (hti:∀cl s₀ H₀ fp,PIf (jw X scope cl (Nt++Nf) s₀ H₀ fp) ifs ti) (hte:∀cl s₀ H₀ fp,PL (jw X scope cl (Nt++Nf) s₀ H₀ fp) elt te)
  {pins:List (Addr×Obj)} {s:Shared} {σ:St} {H Pr:Hp} {ρ:Ev} {post:L→Ev→Prop} {use:Option (Value→Sem Unit)} {Q:Value→Shared→Prop} (I:Inv X pins σ H s) (E:REnv X.K Pr H σ ρ) (h:og Nt.length fi src g ti te ρ post)
  (hRR:∀D C s7 H6 acc ρ'' m,Inv X pins σ H6 s7→s7.heap.Ns C m→H6 C=none→C≠X.env.locals→X.s₀.heap.objs.size≤C→(∀x c,X.env.cells.lookup x=some c→c≠C)→(∀p∈X.pn++pins,p.1≠C)→REnv X.K Pr H6 (some (.ref D)::σ) (.own D acc::ρ'')→post (.own D acc) ρ'' →
   compPost (model X.prog X.w) X.A X.xe use Q (.ref D) C (.ok .next) s7)
  (hs:∀x,foldedSetIterable iter X.env x=pure x):wpAny (model X.prog X.w) X.A (comprehension (.ListComp elt [⟨tg,iter,ifs,0⟩] scope pos) scope X.env (firstIterPos [⟨tg,iter,ifs,0⟩] pos) (newList []) false (eval iter X.env) use) Q X.xe s:=by
 have hcells:∀x∈scope.names,x.2=.free→∃c,X.env.cells.lookup x.1=some c:=fun x hx hk=>I.ok.has x.1 (by
  show X.env.scope.names.lookup x.1=_∨X.env.scope.names.lookup x.1=_
  rw [hsc];exact hfr x hx hk)
 have hsub:=uk (cells:=X.env.cells) scope.names [] (fun x c e=>by simp at e)
 refine wpAny_comprehension_free (use:=use) rfl hs (n8 hcells) hkind hnames (thn (hi pins s σ H Pr ρ _ I E h) fun v s1 h1=>thn h1 fun itv s2 h2=>?_)
 obtain ⟨it,fp,tn,J,H2,xs,ρ2,e,I2,T,st2,f2,E2,G,hlen,w0⟩:=h2
 subst e
 refine wpAny_newObj_type (T:="list") ?_
 generalize hD:s2.heap.objs.size=D
 have fD:H2 D=none:=by rw [← hD];exact I2.fresh
 have I3:Inv X pins σ (upd H2 D (.lst [])) { s2 with heap:=s2.heap.push { cls:=.type "list",dict:=none,data:=.seq ([]:List Value).toArray } }:=by
  have:=Inv.lnew (ys:=[]) (its:=[]) (t':=s2.toks) I2 .nil (Nat.zero_le _)
  rw [hD] at this
  exact this
 have E3:=E2.cons_own (p:=D) (vs:=[]) (xs:=[]) fD .nil
 have sz3:(s2.heap.push { cls:=.type "list",dict:=none,data:=.seq ([]:List Value).toArray }).objs.size=D+1:=by rw [Heap.size_push,hD]
 generalize hs3:({ s2 with heap:=s2.heap.push { cls:=.type "list",dict:=none,data:=.seq ([]:List Value).toArray } }:Shared)=s3 at I3
 have hs3h:s3.heap=s2.heap.push { cls:=.type "list",dict:=none,data:=.seq ([]:List Value).toArray }:=by rw [← hs3]
 have fpD:∀b∈fp,b≠D:=fun b hb=>by
  obtain ⟨o,e,_⟩:=T.obj 0 _ st2 b hb
  rw [← hD];exact Nat.ne_of_lt (Heap.lt_size e)
 have old3:∀b o,s2.heap.get? b=some o→s3.heap.get? b=some o:=fun b o e=>by rw [hs3h];exact Heap.get?_push_of_some _ e
 refine wpAny_newFunctionEnv (around:=some X.env) hcell (by intro y hy;simp at hy) (fun h4 hns4 hsb4=>?_) hkind
 have hns4':h4.Ns s3.heap.objs.size (fun _=>none):=by
  have:(fun x=>(([]:List (Str×Value)).reverse.lookup x))=fun _=>(none:Option Value):=by funext x;rfl
  rw [this] at hns4
  exact hns4
 have old4:∀b o,s3.heap.get? b=some o→h4.get? b=some o:=fun b o e=>by
  rw [hsb4.2 b (Nat.ne_of_lt (Heap.lt_size e))];exact Heap.get?_push_of_some _ e
 have hσl:σ.length=N.length:=by rw [← hXN];exact I.len
 have hρ2:σ.length=ρ2.length:=E2.len
 have hjσ:∀j∈fi,j <σ.length:=fun j hj=>by rw [hσl];exact hfl j hj
 have hjρ:∀j∈fi,j <ρ2.length:=fun j hj=>by rw [← hρ2];exact hjσ j hj
 have hfpl:∀b∈fp,b <s3.heap.objs.size:=fun b hb=>by
  obtain ⟨o,e,_⟩:=T.obj 0 _ st2 b hb
  exact Heap.lt_size (old3 b o e)
 have hlNf:Nf.length=fi.length:=by have:=congrArg List.length hNf;simpa using this
 have Bok:(jw X scope (clOf X.env.cells scope.names []) (Nt++Nf) s3 (upd H2 D (.lst [])) fp).Ok:=by
  refine ⟨I3.ok.mod,hkind,I.ok.glob,I.ok.blt,Nat.le_refl _,fun x y c e1 e2=>I.ok.inj x y c (hsub x c e1) (hsub y c e2),fun x hx=>?_,fun x c hf _=>(Bool.false_ne_true hf).elim,I.ok.hd,I.ok.frames,.inl rfl,fun b hb=>⟨Nat.ne_of_lt (hfpl b hb),fun x c e=>(f2 b hb).2.2.2.2.1 x c (hsub x c e)⟩,I3.bs,Nat.le_trans I.ok.bsz I3.sz,fun b o e hb=>?_,fun b hb hm=>?_,I3.stack,I3.stkFree⟩
  ·
   have hm:(x,NameKind.free)∈scope.names:=by
    rcases hx with hx|hx
    ·
     exact eZ (env:=X.env) hcell (.inl rfl) hx
    ·
     exact eZ (env:=X.env) hcell (.inr rfl) hx
   exact n9 scope.names [] x (.inr ⟨hm,hcells _ hm rfl⟩)
  ·
   rcases (f2 b hb).2.2.2.1 with z|z
   ·
    exact I.ok.noex b o e z
   ·
    exact absurd (Nat.lt_of_lt_of_le (Heap.lt_size (I.ok.bs b o e).1) z) (Nat.lt_irrefl _)
  ·
   rcases List.mem_cons.mp (I3.stkSub b hm) with z|z
   ·
    exact (f2 b hb).2.1 z
   ·
    exact (f2 b hb).2.2.1 z
 have I4:Inv (jw X scope (clOf X.env.cells scope.names []) (Nt++Nf) s3 (upd H2 D (.lst [])) fp) [] (List.replicate Nt.length none++bI fi σ) (upd H2 D (.lst [])) { s3 with heap:=h4,toks:=s3.toks+([]:List (Str×Value)).length }:=by
  refine ⟨Bok,rfl,I3.bare,Un.kept old4,⟨_,hns4',fun i x v e1 e2 e3=>?_⟩,fun x c e=>?_,I3.fresh,fun x c e=>I3.freeC x c (hsub x c e),fun p hp=>absurd (show p∈([]:List (Addr×Obj)) from hp) (by simp),I3.hok.kept old4,?_⟩
  ·
   have e1:(Nt++Nf)[i]?=some x:=e1
   have hi':Nt.length≤i:=by
    by_cases q:i <Nt.length
    ·
     rw [List.getElem?_append_left (by simpa using q),List.getElem?_replicate] at e2
     split at e2<;>cases e2
    ·
     omega
   rw [List.getElem?_append_right hi'] at e1
   rw [List.getElem?_append_right (by simpa using hi')] at e2
   simp only [List.length_replicate] at e2
   generalize i - Nt.length=k at e1 e2
   have hk:k <fi.length:=by
    have:=(List.getElem?_eq_some_iff.mp e1).1
    omega
   have e4:(Nf.map some)[k]?=(fi.map fun j=>N[j]?)[k]?:=by rw [hNf]
   rw [List.getElem?_map,List.getElem?_map,e1,List.getElem?_eq_getElem hk] at e4
   have e5:N[fi[k]]?=some x:=by simpa using e4.symm
   have e6:σ[fi[k]]?=some (some v):=by
    unfold bI at e2
    rw [List.getElem?_map,List.getElem?_eq_getElem hk] at e2
    have hjl:=hjσ fi[k] (List.getElem_mem hk)
    rw [List.getElem?_eq_getElem hjl]
    simpa [List.getElem?_eq_getElem hjl] using e2
   have hxm:x∈Nf:=List.mem_of_getElem? e1
   have hfree:=hNk x hxm
   have hmem:(x,NameKind.free)∈scope.names:=PySem.mem_of_lookup hfree
   have hkx:=hfr _ hmem rfl
   obtain ⟨m,_,hl⟩:=I3.loc
   obtain ⟨u,ru,lk⟩:=hl fi[k] x v (by rw [hXN];exact e5) e6 (by rw [hsc];exact .inr hkx)
   refine ⟨u,ru,.inr ⟨dM (env:=X.env) hfree,?_⟩⟩
   rcases lk with ⟨z,_⟩|⟨_,c,hc1,hc2⟩
   ·
    have z:X.env.scope.names.lookup x=some .local:=z
    rw [hsc] at z
    rcases hkx with q|q
    ·
     rw [z] at q;cases q
    ·
     rw [z] at q;cases q
   ·
    obtain ⟨d,hd⟩:=n9 (cells:=X.env.cells) scope.names [] x (.inr ⟨hmem,c,hc1⟩)
    have:d=c:=by have:=hsub x d hd;rw [hc1] at this;exact (Option.some.inj this).symm
    subst this
    obtain ⟨o,ho,hdd⟩:=hc2
    exact ⟨d,hd,o,old4 _ o ho,hdd⟩
  ·
   obtain ⟨v,o,ho,hd⟩:=I3.cell x c (hsub x c e)
   exact ⟨v,o,old4 c o ho,hd⟩
  ·
   show (List.replicate Nt.length none++bI fi σ).length=(Nt++Nf).length
   simp [bI,hlNf]
 have E4:REnv X.K Pr (upd H2 D (.lst [])) (some (.ref D)::(σ++(List.replicate Nt.length none++bI fi σ))) (.own D []::(bb fi ρ2++(List.replicate Nt.length .un++bW fi ρ2))):=by
  have a1:REnv X.K Pr (upd H2 D (.lst [])) (σ++[some (.ref D)]) (ρ2++[.own D []]):=E3.rearr (by simp [hρ2]) [] (by
   rw [List.append_nil,List.zip_append hρ2]
   exact (List.perm_append_comm (l₁:=[(some (V.ref D),L.own D [])]) (l₂:=σ.zip ρ2)))
  have a2:=a1.takes fi hnd fun j hj=>by have:=hjρ j hj;simp;omega
  rw [p8 hjσ,vG hjρ,p9 hjρ] at a2
  have a3:=a2.uns Nt.length
  have hcl:(bI fi σ).length=(bW fi ρ2).length:=by simp [bI,bW]
  have hul:σ.length=(bb fi ρ2).length:=by rw [dJ];exact hρ2
  refine a3.rearr (by simp [hul,hcl]) [] ?_
  have l1:(bI fi σ++(σ++[some (V.ref D)])++List.replicate Nt.length none).zip (bW fi ρ2++(bb fi ρ2++[L.own D []])++List.replicate Nt.length L.un)=((bI fi σ).zip (bW fi ρ2)++(σ.zip (bb fi ρ2)++[(some (V.ref D),L.own D [])]))++(List.replicate Nt.length none).zip (List.replicate Nt.length L.un):=by
   rw [List.zip_append (by simp only [List.length_append,hcl,hul];rfl),List.zip_append hcl,List.zip_append hul]
   rfl
  have l2:(some (V.ref D)::(σ++(List.replicate Nt.length none++bI fi σ))).zip (L.own D []::(bb fi ρ2++(List.replicate Nt.length L.un++bW fi ρ2)))=(some (V.ref D),L.own D [])::(σ.zip (bb fi ρ2)++((List.replicate Nt.length none).zip (List.replicate Nt.length L.un)++(bI fi σ).zip (bW fi ρ2))):=by
   rw [List.zip_cons_cons,List.zip_append hul,List.zip_append (by simp)]
  rw [List.append_nil,l1,l2]
  generalize (bI fi σ).zip (bW fi ρ2)=z1
  generalize σ.zip (bb fi ρ2)=z2
  generalize (List.replicate Nt.length none).zip (List.replicate Nt.length L.un)=z3
  show (z1++(z2++[(some (V.ref D),L.own D [])])++z3).Perm ((some (V.ref D),L.own D [])::(z2++(z3++z1)))
  have p1:(z1++(z2++[(some (V.ref D),L.own D [])])++z3).Perm ((z2++[(some (V.ref D),L.own D [])])++z3++z1):=by
   rw [List.append_assoc]
   exact List.perm_append_comm
  refine p1.trans ?_
  rw [List.append_assoc,List.append_assoc]
  exact List.perm_middle
 clear E3
 let B:Cx:=jw X scope (clOf X.env.cells scope.names []) (Nt++Nf) s3 (upd H2 D (.lst [])) fp
 have hul:σ.length=(bb fi ρ2).length:=by rw [dJ];exact hρ2
 have stat:∀{H':Hp},(∀b∈fp,H' b=none)→∀b∈fp,FpOk B [] H' b:=fun hn b hb=>by
  refine ⟨hn b hb,Nat.ne_of_lt (hfpl b hb),fun hm=>?_,.inl hb,fun x c e=>(f2 b hb).2.2.2.2.1 x c (hsub x c e),fun p hp=>absurd (show p∈([]:List (Addr×Obj)) from hp) (by simp)⟩
  rcases List.mem_cons.mp (I3.stkSub b hm) with z|z
  ·
   exact (f2 b hb).2.1 z
  ·
   exact (f2 b hb).2.2.1 z
 have loop:∀s5:Shared,s5={ s3 with heap:=h4,toks:=s3.toks+([]:List (Str×Value)).length }→codeAny (model X.prog X.w) X.A (.compLoop (.ListComp elt [⟨tg,iter,ifs,0⟩] scope pos) 0 (.ref it) (.ref D) B.env)
   (compPost (model X.prog X.w) X.A X.xe use Q (.ref D) s3.heap.objs.size) s5:=by
  rintro s5 rfl
  refine xq (fun n s'=>∃i σ' H' ρ' acc,n+i=xs.length∧Inv B [] σ' H' s'∧tn i s'.heap∧(∀b∈fp,H' b=none)∧σ'.drop Nt.length=bI fi σ∧REnv X.K Pr H' (some (.ref D)::(σ++σ')) (.own D acc::(bb fi ρ2++ρ'))∧acc.length≤i ∧
   gb g ti te (xs.drop i) ρ' acc fun ys ρb=>∀a,post (.own a ys) (eI fi (ρb.drop Nt.length) (bb fi ρ2))) ?_ xs.length
   ⟨0,_,_,_,[],by omega,I4,T.keep 0 _ _ st2 fun b hb o e=>old4 b o (old3 b o e),fun b hb=>by rw [ax (fpD b hb)];exact (f2 b hb).1,by simp,E4,Nat.le_refl _,by simpa using w0⟩
  rintro n s6 ⟨i,σ6,H6,ρ6,acc,hn,I6,st6,fr6,dr6,E6,hal,w6⟩
  have pr:Pres H2 H6:=fun b o p e=>by
   have ne:b≠D:=fun z=>by rw [z,fD] at e;cases e
   have e':B.H₀ b=some o:=by show upd H2 D (.lst []) b=some o;rw [ax ne];exact e
   cases o with
   | tup ys=>exact I6.base.tups b ys e'
   | frz ob u=>exact I6.base.frzs b ob u e'
   | _=>exact p.elim
  obtain ⟨go,stop⟩:=G H6 pr
  have hτ:(some (V.ref D)::σ).length=(L.own D acc::bb fi ρ2).length:=by simp [hul]
  by_cases hlt:i <xs.length
  ·
   obtain ⟨hgo,hy⟩:=go i xs[i] (List.getElem?_eq_getElem hlt)
   rw [List.drop_eq_getElem_cons hlt] at w6
   refine thn (T.item B rfl rfl rfl hc i [] s6 σ6 H6 (fun _ _=>False) I6 (stat fr6) st6 hgo) fun r s7 ⟨u,hr,h7⟩=>?_
   subst hr
   refine thn h7 fun _ s8 ⟨x,H8,I8,r8,y8,st8,fr8⟩=>?_
   obtain ⟨gr,rx⟩:=hy x H8 y8
   have I8':=I8.pinned (stat fr8) (T.obj _ _ st8)
   have E8:=E6.grown gr
   have E8a:REnv X.K (ba H8 ρ6) H8 σ6 ρ6:=(REnv.drop (τ:=some (V.ref D)::σ) (lam:=L.own D acc::bb fi ρ2) E8 hτ).wide
   obtain ⟨gg,hgg,hgs⟩:=hg (clOf X.env.cells scope.names []) s3 (upd H2 D (.lst [])) fp
   refine thn (hgg _ s8 σ6 H8 x u _ I8' r8 (hgs x σ6 H8 _ ρ6 xs[i] _ I8.len E8a rx w6)) fun _ s9 ⟨σ9,H9,I9,e9,dr9,ρ9,E9,q9⟩=>?_
   subst e9
   have F9:REnv X.K Pr H9 (some (V.ref D)::(σ++σ9)) (L.own D acc::(bb fi ρ2++ρ9)):=REnv.step (τ:=some (V.ref D)::σ) (lam:=L.own D acc::bb fi ρ2) (w:=[]) (μ:=[]) E8 hτ E9 rfl
   have F9a:REnv X.K (ba H9 ρ9) H9 σ9 ρ9:=(REnv.drop (τ:=some (V.ref D)::σ) (lam:=L.own D acc::bb fi ρ2) F9 hτ).wide
   refine thn (hti _ _ _ _ _ s9 σ9 H9 _ ρ9 _ I9 F9a q9) fun ok sA ⟨HA,ρA,IA,EA,qA⟩=>?_
   have FA:REnv X.K Pr HA (some (V.ref D)::(σ++σ9)) (L.own D acc::(bb fi ρ2++ρA)):=REnv.step (τ:=some (V.ref D)::σ) (lam:=L.own D acc::bb fi ρ2) (w:=[]) (μ:=[]) F9 hτ EA rfl
   have again:∀{sZ:Shared} {HZ:Hp} {ρZ:Ev} {acc':List L2.D},Inv B ([]++pL fp s8.heap) σ9 HZ sZ→REnv X.K Pr HZ (some (.ref D)::(σ++σ9)) (.own D acc'::(bb fi ρ2++ρZ))→acc'.length≤i+1 →
     (gb g ti te (xs.drop (i+1)) ρZ acc' fun ys ρb=>∀a,post (.own a ys) (eI fi (ρb.drop Nt.length) (bb fi ρ2)))→∃m,m <n∧∃i σ' H' ρ' acc,m+i=xs.length∧Inv B [] σ' H' sZ∧tn i sZ.heap∧(∀b∈fp,H' b=none)∧σ'.drop Nt.length=bI fi σ ∧
     REnv X.K Pr H' (some (.ref D)::(σ++σ')) (.own D acc::(bb fi ρ2++ρ'))∧acc.length≤i∧gb g ti te (xs.drop i) ρ' acc fun ys ρb=>∀a,post (.own a ys) (eI fi (ρb.drop Nt.length) (bb fi ρ2)):=fun {sZ HZ ρZ acc'} IZ EZ hz qZ=>by
    refine ⟨n - 1,by omega,i+1,σ9,HZ,ρZ,acc',by omega,IZ.unpinned,T.keep _ _ _ st8 fun b hb o e=>(IZ.pin (b,o) (List.mem_append_right _ (List.mem_append_right _ (gS hb e)))).1,fun b hb=>?_,dr9.trans dr6,EZ,hz,qZ⟩
    obtain ⟨o,e,d⟩:=T.obj _ _ st8 b hb
    exact (IZ.pin (b,o) (List.mem_append_right _ (List.mem_append_right _ (gS hb e)))).2.1
   cases ok with
   | false =>
    rw [if_neg Bool.false_ne_true] at qA ⊢
    exact again IA FA (by omega) qA
   | true =>
    rw [if_pos rfl] at qA ⊢
    have FAa:REnv X.K (ba HA ρA) HA σ9 ρA:=(REnv.drop (τ:=some (V.ref D)::σ) (lam:=L.own D acc::bb fi ρ2) FA hτ).wide
    refine thn (hte _ _ _ _ _ sA σ9 HA _ ρA _ IA FAa qA) fun ux sB qB=>?_
    obtain ⟨vy,HB,y,ρB,IB,rB,EB,qB⟩:=EL.frz (X:=B) (post:=fun y ρ3=>gb g ti te (xs.drop (i+1)) ρ3 (acc++[y]) fun ys ρb=>∀a,post (.own a ys) (eI fi (ρb.drop Nt.length) (bb fi ρ2))) qB
    have FB:REnv X.K Pr HB (some vy::(some (V.ref D)::(σ++σ9))) (.d y::(L.own D acc::(bb fi ρ2++ρB))):=REnv.step (τ:=some (V.ref D)::σ) (lam:=L.own D acc::bb fi ρ2) (w:=[some vy]) (μ:=[.d y]) FA hτ EB rfl
    obtain ⟨_,e1,p1⟩:=FB.head_d
    cases e1
    have slB:=FB.tail.sl
    cases slB with
    | cons q0 _ =>
     obtain ⟨_,vs,hDB,rvs⟩:=q0
     refine thn (pV (X:=B) _ sB σ9 HB (.ref D) [vy] (.ref D) [ux] (fun z H'=>H'=upd HB D (.lst (vs++[vy]))) IB rfl (.cons rB .nil) ⟨D,vs,vy,rfl,rfl,hDB,by rw [rvs.length];omega,rfl⟩) fun _ sC ⟨z,HC,IC,_,eC⟩=>?_
     subst eC
     exact again IC (FB.tail.write (rvs.append (.cons p1 .nil))) (by simp;omega) qB
  ·
   have e:i=xs.length:=by omega
   subst e
   refine thn (T.done B rfl rfl rfl hc xs.length [] s6 σ6 H6 (fun _ _=>False) I6 (stat fr6) st6 stop) fun r s7 ⟨hr,I7⟩=>?_
   subst hr
   rw [List.drop_length] at w6
   obtain ⟨m,hm,_⟩:=id I7.loc
   have I8:Inv X pins σ H6 s7:=I3.call' (ch:=fp) I7.os I7.base I7.hok I7.bare fun b hb=>⟨(f2 b hb).2.2.2.1,(f2 b hb).2.1,(f2 b hb).2.2.2.2.1,(f2 b hb).2.2.2.2.2⟩
   have f4:=I3.fpOk (H':=H6) (b:=s3.heap.objs.size) (Nat.le_refl _) I7.free
   ·
    have hlen6:σ6.length=ρ6.length:=(REnv.drop (τ:=some (V.ref D)::σ) (lam:=L.own D acc::bb fi ρ2) E6 hτ).len
    have a1:REnv X.K Pr H6 (bI fi σ++(σ++[some (V.ref D)])) (ρ6.drop Nt.length++(bb fi ρ2++[L.own D acc])):=by
     have hcd:(bI fi σ).length=(ρ6.drop Nt.length).length:=by rw [← dr6,List.length_drop,List.length_drop,hlen6]
     refine E6.rearr (by simp [hcd,hul,hlen6]) ((σ6.take Nt.length).zip (ρ6.take Nt.length)) ?_
     have l0:σ6.zip ρ6=(σ6.take Nt.length).zip (ρ6.take Nt.length)++(bI fi σ).zip (ρ6.drop Nt.length):=by
      rw [← dr6,← List.zip_append (by simp [hlen6]),List.take_append_drop,List.take_append_drop]
     have l1:(some (V.ref D)::(σ++σ6)).zip (L.own D acc::(bb fi ρ2++ρ6))=(some (V.ref D),L.own D acc)::(σ.zip (bb fi ρ2)++σ6.zip ρ6):=by rw [List.zip_cons_cons,List.zip_append hul]
     have l2:(bI fi σ++(σ++[some (V.ref D)])).zip (ρ6.drop Nt.length++(bb fi ρ2++[L.own D acc]))=(bI fi σ).zip (ρ6.drop Nt.length)++(σ.zip (bb fi ρ2)++[(some (V.ref D),L.own D acc)]):=by
      rw [List.zip_append hcd,List.zip_append hul];rfl
     rw [l1,l2,l0]
     generalize (bI fi σ).zip (ρ6.drop Nt.length)=z1
     generalize σ.zip (bb fi ρ2)=z2
     generalize (σ6.take Nt.length).zip (ρ6.take Nt.length)=z3
     have p1:((some (V.ref D),L.own D acc)::(z2++(z3++z1))).Perm ((z2++[(some (V.ref D),L.own D acc)])++(z3++z1)):=by
      rw [List.append_assoc]
      exact List.perm_middle.symm
     refine p1.trans ?_
     have p2:((z2++[(some (V.ref D),L.own D acc)])++(z3++z1)).Perm ((z3++z1)++(z2++[(some (V.ref D),L.own D acc)])):=List.perm_append_comm
     refine p2.trans ?_
     rw [List.append_assoc]
     exact List.perm_append_comm
    have a2:=REnv.backs (σ:=σ++[some (V.ref D)]) (cs:=ρ6.drop Nt.length) (ρ:=bb fi ρ2++[L.own D acc]) fi hnd (by rw [List.length_drop,← hlen6,← List.length_drop,dr6];simp [bI]) (fun j hj=>by
     rw [List.getElem?_append_left (by rw [dJ];exact hjρ j hj)];exact uj fi ρ2 j hj (hjρ j hj)) (fun j hj=>by have:=hjσ j hj;simp;omega) (by rw [p8 hjσ];exact a1)
    rw [nE fun j hj=>by rw [dJ];exact hjρ j hj] at a2
    have hpl:σ.length=(eI fi (ρ6.drop Nt.length) (bb fi ρ2)).length:=by have:=a2.len;simpa using this
    refine hRR D s3.heap.objs.size s7 H6 acc (eI fi (ρ6.drop Nt.length) (bb fi ρ2)) m I8 hm f4.1 f4.2.1 I3.sz f4.2.2.2.2.1 f4.2.2.2.2.2 (a2.rearr (by simp [hpl]) [] ?_) (w6 D)
    rw [List.append_nil,List.zip_append hpl,List.zip_cons_cons]
    exact List.perm_append_comm (l₂:=[(some (V.ref D),L.own D acc)])
 exact codeAny_compStart_list (loop _ rfl) (T.self _ 0 _ _ _ (T.keep 0 _ _ st2 fun b hb o e=>old4 b o (old3 b o e)) (loop _ rfl))
theorem kf {elt tg iter:Expr} {ifs:List Expr} {scope sc:Scope} {pos:Pos} {N Nt Nf:List Str} {fi:List Nat} {src:W (List D)} {g:Tg} {ti:W Bool} {te:W L}
  (hsc:X.env.scope=sc) (hXN:X.N=N) (hc:X.calm=true) (hi:PIL X tg iter src)
  (hkind:scope.kind=.function) (hnames:∀x∈scope.names,x.2=.local→scope.names.lookup x.1=some .local) (hcell:∀y∈scope.names,y.2≠.cell)
  (hfr:∀x∈scope.names,x.2=.free→sc.names.lookup x.1=some .cell∨sc.names.lookup x.1=some .free)
  (hnd:fi.Nodup) (hNf:Nf.map some=fi.map (fun j=>N[j]?)) (hNk:∀x∈Nf,scope.names.lookup x=some .free) (hfl:∀j∈fi,j <N.length)
  (hg:∀cl s₀ H₀ fp,PTc (jw X scope cl (Nt++Nf) s₀ H₀ fp) tg Nt.length g) (hti:∀cl s₀ H₀ fp,PIf (jw X scope cl (Nt++Nf) s₀ H₀ fp) ifs ti) (hte:∀cl s₀ H₀ fp,PL (jw X scope cl (Nt++Nf) s₀ H₀ fp) elt te)
  (hs:∀x,foldedSetIterable iter X.env x=pure x:=by intro _;rfl):PL X (.ListComp elt [⟨tg,iter,ifs,0⟩] scope pos) (og Nt.length fi src g ti te):=by
 intro pins s σ H Pr ρ post I E h
 rw [eval_ListComp]
 refine xr (use:=none) hsc hXN hc hi hkind hnames hcell hfr hnd hNf hNk hfl hg hti hte I E h (fun D C s7 H6 acc ρ'' m I7 hm h1 h2 h3 h4 h5 E7 p=>?_) hs
 exact ⟨m,hm,fun h' hsb=>⟨.ref D,H6,_,ρ'',I7.turned (t':=s7.toks) (fun b o hb e=>(hsb.2 b hb).trans e) h1 (Ne.symm (Ne.symm h2)) (.inr h3) h4 h5,rfl,E7,p⟩⟩
end
end L2
namespace L2
open PySem PySem.Spec PyProof.Rows
section
variable {X:Cx} {e a b c:Expr} {es rest:List Expr} {pos p p2 apos cpos:Pos} {ta tb tc te:W L} {x y:Str}
def wPar (i j:Nat) (ta tb:W L):W Fl:=fun ρ post=>ta ρ fun r ρ1=>toD r fun v=>tb ρ1 fun r2 ρ2=>toD r2 fun w=>post .nx ((ρ2.set i (.d v)).set j (.d w))
theorem Bl {i j:Nat} {px py pt:Pos} {kt k2 pt2} (hc:X.calm=true) (hN:X.N.Nodup) (hi:X.N[i]?=some x) (hj:X.N[j]?=some y) (hij:i≠j)
  (hx:X.env.scope.names.lookup x=some .local) (hy:X.env.scope.names.lookup y=some .local) (ha:PL X a ta) (hb:PL X b tb)
  (hw:swappedStores [.Tuple [.Name x px,.Name y py] kt pt] (.Tuple [a,b] k2 pt2) X.env=pure (some [x,y]))
  (hs:swapsWithSole [.Tuple [.Name x px,.Name y py] kt pt] (.Tuple [a,b] k2 pt2) pos.line X.env=pure false:=by rfl)
  (h1:starEach [a,b] X.env=(false,eval a X.env)::starEach [b] X.env:=by rfl) (h2:starEach [b] X.env=[(false,eval b X.env)]:=by rfl) :
  PM X (.Assign [.Tuple [.Name x px,.Name y py] kt pt] (.Tuple [a,b] k2 pt2) pos) (wPar i j ta tb):=by
 refine PM.of (DQ hc hN hi hj hij hx hy (bC (ar ha).pe (bC (ar hb).pe fG h2) h1) hw hs) fun σ H Pr ρ post hlen E h=>?_
 refine ⟨Pr,ρ,fun r ρ1=>match r with
  | .d v=>tb ρ1 fun r2 ρ2=>toD r2 fun w=>post .nx ((ρ2.set i (.d v)).set j (.d w))
  | _=>False,E,h,fun v H1 r ρ1 E1 pp=>?_⟩
 cases r with
 | d dv =>
  refine ⟨ba H1 ρ1,ρ1,fun r ρ2=>match r with
   | .d w=>post .nx ((ρ2.set i (.d dv)).set j (.d w))
   | _=>False,E1.tail.wide,pp,fun w H2 r2 ρ2 E2 pp=>?_⟩
  cases r2 with
  | d dw =>
   have E3:REnv X.K Pr H2 (some w::some v::σ) (.d dw::.d dv::ρ2):=REnv.step (τ:=[some v]) (lam:=[.d dv]) (w:=[some w]) (μ:=[.d dw]) E1 rfl E2 rfl
   have il:i <σ.length:=by rw [hlen];exact (List.getElem?_eq_some_iff.mp hi).1
   have jl:j <σ.length:=by rw [hlen];exact (List.getElem?_eq_some_iff.mp hj).1
   obtain ⟨_,e1,r1⟩:=E3.head_d
   cases e1
   have E4:REnv X.K Pr H2 (σ.set i (some v)) (ρ2.set i (.d dv)):=E3.tail.store il
   exact ⟨v,w,rfl,_,(E4.cons_d r1).store (by simpa using jl),pp⟩
  | _=>exact pp.elim
 | _=>exact pp.elim
def rY (is:List Nat) (te:W L):W Fl:=fun ρ post=>te ρ fun r ρ1=>toD r fun v=>lA is v ρ1 fun ρ2=>post .nx ρ2
theorem mi {tg:Expr} {is:List Nat} (hg:PT1 X tg (lA is)) (he:PL X e te) (hs:swapsWithSole [tg] e pos.line X.env=pure false:=by rfl) (hw:swappedStores [tg] e X.env=pure none:=by rfl)
  (h1:(assignEach [tg] X.env).map (·.2)=[assign tg X.env]:=by rfl):PM X (.Assign [tg] e pos) (rY is te):=by
 intro pins s σ H Pr ρ post I E h
 obtain ⟨gg,hg,hgg⟩:=hg
 refine wpAny_Assign_stores (thn (he pins s σ H Pr ρ _ I E h) fun v s1 q=>?_) hs hw
 obtain ⟨w,H1,d,ρ1,I1,r1,E1,q1⟩:=EL.frz (post:=fun d ρ1=>lA is d ρ1 fun ρ2=>post .nx ρ2) q
 rw [h1]
 obtain ⟨_,e1,p1⟩:=E1.head_d
 cases e1
 exact thn (hg pins s1 σ H1 w v _ I1 r1 (hgg w σ H1 Pr ρ1 d _ I1.len E1.tail p1 q1)) fun _ s2 ⟨σ',H',I',e',_,ρ',E',q⟩=>by
  subst e'
  exact ⟨σ',_,ρ',I',E',q⟩
def kg:D→Bool
 | .non=>true | .bl _=>true | .int _=>true | .str _=>true
 | _=>false
def eqF:D→D→Bool
 | .non,.non=>true
 | .bl a,.bl b=>a == b
 | .bl a,.int b=>(if a then 1 else 0) == b
 | .int a,.bl b=>a == (if b then 1 else 0)
 | .int a,.int b=>a == b
 | .str a,.str b=>a == b
 | _,_=>false
theorem jx {K:PySem.W.Frag} {H:Hp} {v:V} {d:D} (r:Rep K H v d) (h:kg d=true):m4 v=true:=by
 cases r<;>first|rfl|(exact absurd h (by simp [kg]))
theorem En {K:PySem.W.Frag} {H:Hp} {v w:V} {d f:D} (r:Rep K H v d) (q:Rep K H w f) (h:kg d=true) (h':kg f=true):eqV v w=eqF d f:=by
 cases r<;>cases q<;>first|rfl|(exact absurd h (by simp [kg]))|(exact absurd h' (by simp [kg]))
def inF (x:D) (ys:List D):Bool:=ys.any fun y=>eqF y x
theorem qa {K:PySem.W.Frag} {H:Hp} {v:V} {x:D} (r:Rep K H v x) (h:kg x=true):∀{vs:List V} {ys:List D},Reps K H vs ys→ys.all kg=true→inV v vs=inF x ys∧vs.all m4=true
 | _,_,.nil,_=>⟨rfl,rfl⟩
 | _,_,.cons r0 t,ha=>by
  rw [List.all_cons,Bool.and_eq_true] at ha
  obtain ⟨i1,i2⟩:=qa r h t ha.2
  unfold inV inF at i1 ⊢
  rw [List.any_cons,List.any_cons,List.all_cons,i1,En r0 r ha.1 h,jx r0 ha.1,i2]
  exact ⟨rfl,rfl⟩
def rZ (neg:Bool):Op2:=fun x y k=>kg x=true∧fZ y fun ys=>ys.all kg=true∧k (.d (.bl (if neg then !inF x ys else inF x ys)))
theorem Cd:OpD X (compareOp .In) (rZ false):=OpD.of wU fun σ H Pr ρ x y dx dy post E px py ⟨hx,h⟩=>by
 cases py with
 | lst hz rs =>
  obtain ⟨ha,h⟩:=h
  obtain ⟨i1,i2⟩:=qa px hx rs ha
  exact ⟨_,_,rfl,.inl hz.l,jx px hx,i2,_,E.cons_d (.bl _),by rw [i1];exact h⟩
 | tup hz rs =>
  obtain ⟨ha,h⟩:=h
  obtain ⟨i1,i2⟩:=qa px hx rs ha
  exact ⟨_,_,rfl,.inr hz,jx px hx,i2,_,E.cons_d (.bl _),by rw [i1];exact h⟩
 | _=>exact h.elim
theorem zT:OpD X (compareOp .NotIn) (rZ true):=OpD.of pS fun σ H Pr ρ x y dx dy post E px py ⟨hx,h⟩=>by
 cases py with
 | lst hz rs =>
  obtain ⟨ha,h⟩:=h
  obtain ⟨i1,i2⟩:=qa px hx rs ha
  exact ⟨_,_,rfl,.inl hz.l,jx px hx,i2,_,E.cons_d (.bl _),by rw [i1];exact h⟩
 | tup hz rs =>
  obtain ⟨ha,h⟩:=h
  obtain ⟨i1,i2⟩:=qa px hx rs ha
  exact ⟨_,_,rfl,.inr hz,jx px hx,i2,_,E.cons_d (.bl _),by rw [i1];exact h⟩
 | _=>exact h.elim
def PO' (X:Cx) (lo:Option Expr) (t:Option (W L)):Prop:=match lo,t with
 | none,none=>True
 | some e,some t=>PL X e t
 | _,_=>False
theorem qc {K:PySem.W.Frag} {H:Hp} {vs:List V} {xs:List D} (r:Reps K H vs xs) (l u:Option Int):Reps K H (cutV vs l u) (cutD xs l u):=by
 unfold cutV cutD
 rw [r.length]
 exact (r.drop _).take _
def tPO (K:PySem.W.Frag) (t:Option (W L)):TO:=fun σ H Q=>∃Pr ρ post,REnv K Pr H σ ρ∧vF t ρ post∧∀i H' ρ',REnv K Pr H' σ ρ'→post i ρ'→Q i H'
theorem Eo {lo:Option Expr} {t:Option (W L)} (h:PO' X lo t):PO X lo (tPO X.K t):=by
 cases lo with
 | none =>
  cases t with
  | none =>
   intro pins s σ H Q I ⟨Pr,ρ,post,E,hw,q⟩
   exact BW pins s σ H Q I (q none H ρ E hw)
  | some t=>exact h.elim
 | some e =>
  cases t with
  | none=>exact h.elim
  | some t =>
   intro pins s σ H Q I ⟨Pr,ρ,post,E,hw,q⟩
   refine BX (PL.pe (show PL X e t from h)) pins s σ H Q I ⟨Pr,ρ,_,E,hw,fun v H' r ρ' E' pp=>?_⟩
   obtain ⟨i,rfl,pp⟩:=cM pp
   obtain ⟨_,e1,p1⟩:=E'.head_d
   cases e1
   cases p1
   exact ⟨i,rfl,q (some i) H' ρ' E'.tail pp⟩
end
end L2
namespace L2
open PySem PySem.Spec PyProof.Rows
section
variable {X:Cx} {e a b c:Expr} {es rest:List Expr} {pos p p2 p3 p4 apos cpos:Pos} {ta tb tc te:W L} {x y:Str} {k4:Nat}
end
def selW {α:Type} (o:Option L) (t u:W α) (ρ:Ev) (post:α→Ev→Prop):Prop:=match o with
 | some (.own _ _)=>t ρ post
 | _=>u ρ post
def cA {α:Type} (i:Nat) (t u:W α):W α:=fun ρ post=>selW ρ[i]? t u ρ post
theorem zU {α:Type} (a:Addr) (xs:List D) (t u:W α) (ρ:Ev) (post:α→Ev→Prop):selW (some (.own a xs)) t u ρ post=t ρ post:=(rfl)
theorem Ep {α:Type} (x:D) (t u:W α) (ρ:Ev) (post:α→Ev→Prop):selW (some (.d x)) t u ρ post=u ρ post:=(rfl)
theorem Ce {α:Type} (a:Option Addr) (ls:List L) (t u:W α) (ρ:Ev) (post:α→Ev→Prop):selW (some (.bx a ls)) t u ρ post=u ρ post:=(rfl)
theorem dY {X:Cx} {e:Expr} {i:Nat} {t u:W L} (h:PL X e t) (h':PL X e u):PL X e (cA i t u):=fun pins s σ H Pr ρ post I E q=>by
 unfold cA selW at q
 split at q
 ·
  exact h pins s σ H Pr ρ post I E q
 ·
  exact h' pins s σ H Pr ρ post I E q
theorem Cf {K:PySem.W.Frag} {c:Str} {C:Addr} {T:String} (h:fU K c C=true) (hm:PySem.W.kitMeta T=true):PySem.W.kitOne K (.ref C) (.type T)=some ((["ValueError","Exception","BaseException","object"]:List String).contains T):=by
 obtain ⟨L,cd,S⟩:=cS h
 unfold PySem.W.kitOne PySem.W.kitCls
 rw [if_neg (show ¬((Value.ref C == Value.type T)=true) from fun z=>by cases z)]
 dsimp only
 rw [if_pos hm]
 show PySem.W.mroIn K C (.type T)=_
 rw [S.mroIn,l8]
theorem nF {T:String} (h0:∀K d,(∀c ns xs,d≠.exc c ns xs)→PySem.W.kitOne K (tyD d) (.type T)=some (isTy T d)) (hm:PySem.W.kitMeta T=true):∀K d t,TyD K d t→PySem.W.kitOne K t (.type T)=some (isTy T d):=by
 intro K d t h
 cases d with
 | exc c ns xs =>
  obtain ⟨C,e,h⟩:=h
  rw [e]
  exact Cf h hm
 | _=>cases h;exact h0 K _ (fun _ _ _ z=>nomatch z)
theorem r9:∀ K d t,TyD K d t→PySem.W.kitOne K t (.type "int")=some (isTy "int" d):=nF (fun K d hd=>by cases d <;> first | rfl | exact absurd rfl (hd _ _ _)) (by decide +kernel)
theorem lM:∀ K d t,TyD K d t→PySem.W.kitOne K t (.type "bool")=some (isTy "bool" d):=nF (fun K d hd=>by cases d <;> first | rfl | exact absurd rfl (hd _ _ _)) (by decide +kernel)
theorem xu:∀ K d t,TyD K d t→PySem.W.kitOne K t (.type "str")=some (isTy "str" d):=nF (fun K d hd=>by cases d <;> first | rfl | exact absurd rfl (hd _ _ _)) (by decide +kernel)
theorem zV:∀ K d t,TyD K d t→PySem.W.kitOne K t (.type "list")=some (isTy "list" d):=nF (fun K d hd=>by cases d <;> first | rfl | exact absurd rfl (hd _ _ _)) (by decide +kernel)
theorem jy:∀ K d t,TyD K d t→PySem.W.kitOne K t (.type "tuple")=some (isTy "tuple" d):=nF (fun K d hd=>by cases d <;> first | rfl | exact absurd rfl (hd _ _ _)) (by decide +kernel)
theorem m8:∀ K d t,TyD K d t→PySem.W.kitOne K t (.type "ValueError")=some (isTy "ValueError" d):=nF (fun K d hd=>by cases d <;> first | rfl | exact absurd rfl (hd _ _ _)) (by decide +kernel)
end L2
namespace L2
open PySem PySem.Spec PyProof.Rows
def vH (K:PySem.W.Frag) (mg:Str→Option Value) (x:Str) (d:D):Prop:=∃v u,mg x=some u∧RelV v u∧∀H,Rep K H v d
theorem pl_G {X:Cx} {x:Str} {d:D} {pos:Pos} (g:vH X.K X.mg x d) (hg:Gl X x) (hdb:(x == ("__debug__" : Str))=false:=by decide):PL X (.Name x pos) (wC d):=by
 obtain ⟨v,u,h1,h2,h3⟩:=g
 exact B6 hg h1 h2 h3 hdb
def F6 (o:Obj) (d:D):Prop:=∃ its n vs ds,d=.tup ds∧o.cls=.type "tuple"∧o.data=.seq its n∧its.size≤sizeLine∧Vals vs its.toList∧∀ K H,Reps K H vs ds
theorem zW {K:PySem.W.Frag} {mg:Str→Option Value} {x:Str} {d:D} {l:Addr} {o:Obj} (h1:mg x=some (.ref l)) (h2:K.lookup l=some o) (h3:F6 o d):vH K mg x d:=by
 obtain ⟨its,n,vs,ds,rfl,hc,hd,hz,hv,hr⟩:=h3
 exact ⟨.ref l,_,h1,rfl,fun H=>.tup (.inr ⟨o,its,n,h2,hc,hd,hz,hv⟩) (hr K H)⟩
theorem um {K:PySem.W.Frag} {mg:Str→Option Value} {x:Str} {s:Str} {t:Tok} (h1:mg x=some (.str s t)):vH K mg x (.str s):=⟨.str s,_,h1,⟨t,rfl⟩,fun H=>.str s⟩
theorem qe {K:PySem.W.Frag} {H:Hp}:∀ns:List Int,Reps K H (ns.map V.int) (ns.map D.int)
 | []=>.nil
 | n::ns=>.cons (.int n) (qe ns)
theorem xv {K:PySem.W.Frag} {H:Hp} {a:Addr} {ns:List Int} {fs:FS} {n:Nat} (hl:ns.length≤n) (hO:Only H) (hS:SqL K H a (ns.map V.int)) (h:fs [.d (.lst (ns.map .int))] (fun r _=>r=.d (.bl true))):spF K 1 fs [.ref a] H (fun v _=>v=.bl true) fun _ _ _=>False:=by
 have hz:SqZ K H a (ns.map V.int):=by
  rcases hS with (h|⟨o,h⟩)|h
  ·
   rcases hO a with z|⟨o,xs,z⟩
   ·
    rw [z] at h;cases h
   ·
    rw [z] at h;cases h
  ·
   exact .inl ⟨o,h⟩
  ·
   exact .inr h
 refine ⟨rfl,fun _=>none,[.d (.lst (ns.map .int))],_,⟨(fun b o e=>nomatch e),(show ([]:List Addr).Nodup from List.nodup_nil),(fun a h=>absurd (show a∈([]:List Addr) from h) (by simp)),.cons ⟨.ref a,rfl,.lst hz (qe ns)⟩ .nil⟩,h,fun v H' r ls' E p=>?_⟩
 subst p
 obtain ⟨_,e,r⟩:=E.head_d
 cases e
 cases r
 rfl
section
variable {X:Cx}
def vI:Op2:=fun x y k=>match y with
 | .non=>k (.d (.bl (match x with | .non=>true|_=>false)))
 | _=>False
theorem Cg:OpD X (compareOp .Is) vI:=El.imp fun x y k h=>by
 unfold vI at h
 split at h
 ·
  exact ⟨rfl,h⟩
 ·
  exact h.elim
end
end L2
namespace L2
open PySem
theorem uo (a b:Int):Int.gcd b (a.fmod b)=Int.gcd a b:=by
 rw [Int.fmod_def,Int.gcd_sub_mul_left_right,Int.gcd_comm]
theorem hX (a:Int) {b:Int} (h:b≠0):(a.fmod b).natAbs <b.natAbs:=by
 rw [Int.fmod_eq_emod]
 have h1:=Int.emod_nonneg a h
 have h2:a % b <(b.natAbs:Int):=Int.emod_lt a h
 split
 ·
  omega
 ·
  rename_i q
  have:a % b≠0:=fun e=>q (.inr (Int.dvd_of_emod_eq_zero e))
  omega
def frD (q:Rat):D:=.tup [.int q.num,.int (q.den:Int)]
theorem se {t b:Int} (h:b≠0):0 <Int.gcd t b:=Int.gcd_pos_of_ne_zero_right _ h
def bX (t b:Int):Int:=if b <0 then -(Int.gcd t b:Int) else (Int.gcd t b:Int)
theorem uq {t b:Int} (h:b≠0):bX t b≠0:=by
 have:=se (t:=t) h
 unfold bX
 split<;>omega
theorem xw (t b:Int):(bX t b).natAbs=Int.gcd t b:=by
 unfold bX
 split<;>omega
theorem ur {t b:Int} (h:b≠0):(bX t b).natAbs≤b.natAbs:=by
 rw [xw]
 exact Nat.le_of_dvd (by omega) (by have:=Int.gcd_dvd_right t b;exact Int.natAbs_dvd_natAbs.mpr this |> fun q=>by simpa using q)
theorem mj {a g:Int} (hg:g≠0) (h:g∣a):a.fdiv (-g)=-(a / g):=by
 obtain ⟨k,rfl⟩:=h
 rw [Int.mul_ediv_cancel_left _ hg,show g*k=(-g)*(-k) by rw [Int.neg_mul_neg],Int.mul_fdiv_cancel_left _ (by omega)]
theorem xx {t b:Int} (h:b≠0):t.fdiv (bX t b)=(Rat.divInt t b).num:=by
 have hg:=se (t:=t) h
 have hd:(Int.gcd t b:Int)∣t:=Int.gcd_dvd_left t b
 rw [Rat.num_divInt,Int.gcd_comm b t]
 unfold bX
 split
 ·
  rename_i hb
  rw [mj (by omega) hd,Int.sign_eq_neg_one_of_neg hb,Int.neg_one_mul,Int.neg_ediv_of_dvd hd]
 ·
  rename_i hb
  rw [Int.sign_eq_one_of_pos (by omega),Int.one_mul,Int.fdiv_eq_ediv_of_nonneg _ (by omega)]
theorem Ci {t b:Int} (h:b≠0):b.fdiv (bX t b)=((Rat.divInt t b).den:Int):=by
 have hg:=se (t:=t) h
 have hd:(Int.gcd t b:Int)∣b:=Int.gcd_dvd_right t b
 rw [Rat.den_divInt,if_neg h,Int.gcd_comm b t,Int.natCast_ediv]
 unfold bX
 split
 ·
  rename_i hb
  rw [mj (by omega) hd,← Int.neg_ediv_of_dvd hd]
  congr 1
  omega
 ·
  rename_i hb
  rw [Int.fdiv_eq_ediv_of_nonneg _ (by omega)]
  congr 1
  omega
theorem Bm {t b:Int} (h:b≠0):(Rat.divInt t b).den≤b.natAbs:=by
 rw [Rat.den_divInt,if_neg h]
 exact Nat.div_le_self _ _
theorem Bn {t b:Int} (h:b≠0):(Rat.divInt t b).num.natAbs≤t.natAbs:=by
 rw [← xx h]
 exact PySem.natAbs_fdiv_le _ _
theorem den_pos (q:Rat):0 <q.den:=Nat.pos_of_ne_zero q.den_nz
theorem uu (p q:Rat):Rat.divInt (p.num*(q.den:Int)+q.num*(p.den:Int)) ((p.den:Int)*(q.den:Int))=p+q:=by
 have hp:=den_pos p
 have hq:=den_pos q
 have:=Rat.divInt_add_divInt p.num q.num (d₁:=(p.den:Int)) (d₂:=(q.den:Int)) (by omega) (by omega)
 rw [Rat.num_divInt_den,Rat.num_divInt_den] at this
 exact this.symm
theorem Bo (p q:Rat):Rat.divInt (p.num*(q.den:Int) - q.num*(p.den:Int)) ((p.den:Int)*(q.den:Int))=p - q:=by
 have:=uu p (-q)
 rw [Rat.sub_eq_add_neg,← this]
 simp only [Rat.neg_num,Rat.neg_den,Int.neg_mul,Int.sub_eq_add_neg]
def RB (n:Nat) (q:Rat):Prop:=q.num.natAbs <2 ^ n∧q.den <2 ^ n
theorem RB.mono {m n:Nat} {q:Rat} (h:RB m q) (hl:m≤n):RB n q:=⟨Nat.lt_of_lt_of_le h.1 (Nat.pow_le_pow_right (by decide) hl),Nat.lt_of_lt_of_le h.2 (Nat.pow_le_pow_right (by decide) hl)⟩
theorem RB.neg {n:Nat} {q:Rat} (h:RB n q):RB n (-q):=⟨by rw [Rat.neg_num,Int.natAbs_neg];exact h.1,by rw [Rat.neg_den];exact h.2⟩
theorem RB.bn {n:Nat} {q:Rat} (h:RB n q) (hl:n≤1000000):bZ q.num:=Nat.lt_of_lt_of_le h.1 (Nat.pow_le_pow_right (by decide) hl)
theorem RB.bd {n:Nat} {q:Rat} (h:RB n q) (hl:n≤1000000):bZ (q.den:Int):=by
 unfold bZ
 rw [Int.natAbs_natCast]
 exact Nat.lt_of_lt_of_le h.2 (Nat.pow_le_pow_right (by decide) hl)
theorem bJ {a b m n:Nat} (h1:a <2 ^ m) (h2:b <2 ^ n):a*b <2 ^ (m+n):=by
 rw [Nat.pow_add]
 exact Nat.mul_lt_mul'' h1 h2
theorem RB.add {m n:Nat} {p q:Rat} (hp:RB m p) (hq:RB n q):RB (m+n+1) (p+q):=by
 have dp:=den_pos p
 have dq:=den_pos q
 have hne:((p.den:Int)*(q.den:Int))≠0:=Int.mul_ne_zero (by omega) (by omega)
 rw [← uu p q]
 have a1:=bJ hp.1 hq.2
 have a2:=bJ hq.1 hp.2
 have a3:=bJ hp.2 hq.2
 have e:(2:Nat) ^ (m+n+1)=2 ^ (m+n)+2 ^ (m+n):=by rw [Nat.pow_succ];omega
 rw [Nat.add_comm n m] at a2
 constructor
 ·
  refine Nat.lt_of_le_of_lt (Bn hne) ?_
  refine Nat.lt_of_le_of_lt (Int.natAbs_add_le _ _) ?_
  rw [Int.natAbs_mul,Int.natAbs_mul,Int.natAbs_natCast,Int.natAbs_natCast,e]
  omega
 ·
  refine Nat.lt_of_le_of_lt (Bm hne) ?_
  rw [Int.natAbs_mul,Int.natAbs_natCast,Int.natAbs_natCast,e]
  omega
end L2
namespace L2
open PySem
@[simp] theorem gf (i j:Int):eqD (.int i) (.int j)=decide (i=j):=by
 simp [eqD,toP,PyData.eqv]
 by_cases h:i=j<;>simp [h]
@[simp] theorem Cj (i j:Str):eqD (.str i) (.str j)=decide (i=j):=by
 simp [eqD,toP,PyData.eqv]
 by_cases h:i=j<;>simp [h]
@[simp] theorem Er (i j:Bool):eqD (.bl i) (.bl j)=decide (i=j):=by
 simp [eqD,toP,PyData.eqv]
 cases i<;>cases j<;>rfl
@[simp] theorem vJ (i:Int):di (.int i):=rfl
@[simp] theorem xy (i:Bool):di (.bl i):=rfl
@[simp] theorem vK:di .non:=rfl
mutual
def okD:Nat→D→Bool
 | _,.non=>true
 | _,.bl _=>true
 | _,.int _=>true
 | _,.str x=>PyData.strOk x
 | 0,.tup _=>false
 | 0,.lst _=>false
 | n+1,.tup xs=>okDs n xs
 | n+1,.lst xs=>okDs n xs
 | _,.dct _=>false
 | _,.exc _ _ _=>false
def okDs:Nat→List D→Bool
 | _,[]=>true
 | n,x::xs=>okD n x && okDs n xs
end
mutual
theorem gh:∀(n:Nat) (d:D),okD n d=true→(toP d).canLay0=true∧(toP d).depth≤n
 | _,.non,_=>⟨rfl,Nat.zero_le _⟩
 | _,.bl _,_=>⟨rfl,Nat.zero_le _⟩
 | _,.int _,_=>⟨rfl,Nat.zero_le _⟩
 | _,.str x,h=>⟨by simpa [okD,toP,PyData.canLay0] using h,Nat.zero_le _⟩
 | 0,.tup _,h=>by simp [okD] at h
 | 0,.lst _,h=>by simp [okD] at h
 | n+1,.tup xs,h=>by
  obtain ⟨h1,h2⟩:=oh n xs (by simpa [okD] using h)
  exact ⟨h1,Nat.succ_le_succ h2⟩
 | n+1,.lst xs,h=>by
  obtain ⟨h1,h2⟩:=oh n xs (by simpa [okD] using h)
  exact ⟨h1,Nat.succ_le_succ h2⟩
 | _,.dct _,h=>by simp [okD] at h
 | _,.exc _ _ _,h=>by simp [okD] at h
theorem oh:∀(n:Nat) (ds:List D),okDs n ds=true→PyData.canLayAll0 (toPs ds)=true∧PyData.depthAll (toPs ds)≤n
 | _,[],_=>⟨rfl,Nat.zero_le _⟩
 | n,d::ds,h=>by
  have h':okD n d=true∧okDs n ds=true:=by simpa [okDs] using h
  obtain ⟨a1,a2⟩:=gh n d h'.1
  obtain ⟨b1,b2⟩:=oh n ds h'.2
  exact ⟨by simp [toPs,PyData.canLayAll0,a1,b1],by simp only [toPs,PyData.depthAll];omega⟩
end
theorem cm {n:Nat} {d:D} (h:okD n d=true) (hn:n≤64):di d:=by
 obtain ⟨h1,h2⟩:=gh n d h
 unfold di SeqAt.shaped
 rw [h1,decide_eq_true (by omega)]
 rfl
theorem sf (xs ys:List D):eqD (.tup xs) (.tup ys)=PyData.eqvAll (toPs xs) (toPs ys):=by simp [eqD,toP,PyData.eqv]
theorem xA (xs ys:List D):eqD (.lst xs) (.lst ys)=PyData.eqvAll (toPs xs) (toPs ys):=by simp [eqD,toP,PyData.eqv]
theorem cV (x y:D) (xs ys:List D):PyData.eqvAll (toPs (x::xs)) (toPs (y::ys))=(eqD x y && PyData.eqvAll (toPs xs) (toPs ys)):=by simp [toPs,PyData.eqvAll,eqD]
theorem jz:PyData.eqvAll (toPs []) (toPs [])=true:=by simp [toPs,PyData.eqvAll]
theorem uv {n:Nat} {d:D} (h:okD n d=true):eqD d d=true:=SeqAt.eqv_refl _ (gh n d h).1
theorem uw (q:Rat):di (frD q):=cm (n:=1) (by simp [frD,okD,okDs]) (by decide)
theorem xB (p q:Rat):eqD (frD p) (frD q)=decide (p=q):=by
 unfold frD
 rw [sf,cV,cV,jz,gf,gf,Bool.and_true]
 by_cases h:p=q
 ·
  subst h;simp
 ·
  rw [decide_eq_false h]
  by_cases h1:p.num=q.num
  ·
   have:¬((p.den:Int)=(q.den:Int)):=fun e=>h (Rat.ext h1 (by omega))
   simp [this]
  ·
   simp [h1]
end L2
namespace L2
open PySem PySem.Spec PyProof.Rows
section
variable {X:Cx} {e a b c:Expr} {es rest:List Expr} {pos p p2 apos cpos:Pos} {ta tb tc te:W L} {x y:Str}
def nG (o o':Op2) (ta tb tc:W L):W L:=fun ρ post=>ta ρ fun r ρ1=>jt r fun i=>tb ρ1 fun r ρ2=>jt r fun j=>o (.int i) (.int j) fun z=>isBl z fun k=>if k=true then tc ρ2 fun r ρ3=>jt r fun l=>o' (.int j) (.int l) fun z=>post z ρ3 else post (.d (.bl false)) ρ2
def CmpI (X:Cx) (op:CmpOp) (o:Op2):Prop:=∃f:Int→Int→Bool,OpR X (compareOp op) (rI0 fun i j=>.bl (f i j))∧∀i j k,o (.int i) (.int j) k→k (.d (.bl (f i j)))
theorem Es:CmpI X .Lt opLt:=⟨_,DY,fun _ _ _ h=>h⟩
theorem Et:CmpI X .LtE opLe:=⟨_,DZ,fun _ _ _ h=>h⟩
theorem uy {op op':CmpOp} {o o':Op2} {f f':Int→Int→Bool} (h1:∀i j k,o (.int i) (.int j) k→k (.d (.bl (f i j)))) (h2:∀i j k,o' (.int i) (.int j) k→k (.d (.bl (f' i j))))
  (σ:St) (H Pr:Hp) (ρ:Ev) (post:L→Ev→Prop) (Q:VK) (hQ:∀v H' r ρ',REnv X.K Pr H' (some v::σ) (r::ρ')→post r ρ'→Q v H') (E:REnv X.K Pr H σ ρ) (h:nG o o' ta tb tc ρ post) :
  wG (rI0 fun i j=>.bl (f i j)) (rI0 fun i j=>.bl (f' i j)) (tL X.K ta) (tL X.K tb) (tL X.K tc) σ H Q:=by
 refine ⟨Pr,ρ,_,E,h,fun v H1 r ρ1 E1 p=>?_⟩
 obtain ⟨i,rfl,p⟩:=cM p
 obtain ⟨_,e1,r1⟩:=E1.head_d
 cases e1
 cases r1
 refine ⟨Pr,ρ1,_,E1.tail,p,fun v H2 r ρ2 E2 p=>?_⟩
 obtain ⟨j,rfl,p⟩:=cM p
 obtain ⟨_,e1,r1⟩:=E2.head_d
 cases e1
 cases r1
 refine ⟨i,j,rfl,rfl,f i j,rfl,?_⟩
 have q:=h1 i j _ p
 cases hk:f i j with
 | false =>
  rw [hk] at q
  exact hQ _ _ _ ρ2 (E2.tail.cons_d (.bl false)) q
 | true =>
  rw [hk] at q
  refine ⟨Pr,ρ2,_,E2.tail,q,fun v H3 r ρ3 E3 p=>?_⟩
  obtain ⟨l,rfl,p⟩:=cM p
  obtain ⟨_,e1,r1⟩:=E3.head_d
  cases e1
  cases r1
  exact ⟨j,l,rfl,rfl,hQ _ _ _ ρ3 (E3.tail.cons_d (.bl _)) (h2 j l _ p)⟩
theorem zX {op op':CmpOp} {o o':Op2} (ho:CmpI X op o) (ho':CmpI X op' o') (ha:PL X a ta) (hb:PL X b tb) (hc:PL X c tc) (hm:lastMarks [op,op'] [b,c]=false:=by with_unfolding_all rfl) :
  PL X (.Compare a [op,op'] [b,c] pos) (nG o o' ta tb tc):=by
 obtain ⟨f,r1,h1⟩:=ho
 obtain ⟨f',r2,h2⟩:=ho'
 exact PL.of (zz r1 r2 ha.pe hb.pe hc.pe hm) fun σ H Pr ρ post E h=>uy (op:=op) (op':=op') h1 h2 σ H Pr ρ post _ (fun v H' r ρ' E' p=>⟨r,ρ',E',p⟩) E h
theorem zY {op op':CmpOp} {o o':Op2} (ho:CmpI X op o) (ho':CmpI X op' o') (ha:PL X a ta) (hb:PL X b tb) (hc:PL X c tc) (hm:lastMarks [op,op'] [b,c]=false:=by with_unfolding_all rfl) :
  PB X (.Compare a [op,op'] [b,c] pos) (aI (nG o o' ta tb tc)):=by
 obtain ⟨f,r1,h1⟩:=ho
 obtain ⟨f',r2,h2⟩:=ho'
 intro pins s σ H Pr ρ post I E h
 refine thn (zA r1 r2 ha.pe hb.pe hc.pe hm pins s σ H (fun b H'=>∃ρ',REnv X.K Pr H' σ ρ'∧post b ρ') I ?_) fun b s1 ⟨H1,I1,ρ1,E1,p1⟩=>⟨H1,ρ1,I1,E1,p1⟩
 refine uy (op:=op) (op':=op') h1 h2 σ H Pr ρ (fun r ρ1=>isBl r fun b=>post b ρ1) _ (fun v H' r ρ' E' p=>?_) E h
 obtain ⟨b,rfl,p⟩:=nZ p
 obtain ⟨_,e1,r1⟩:=E'.head_d
 cases e1
 cases r1
 exact ⟨b,rfl,ρ',E'.tail,p⟩
end
end L2
namespace L2
open PySem PySem.Spec PyProof.Rows PySem.Builtin.Str
section
variable {X:Cx} {e a b c:Expr} {es rest:List Expr} {pos p p2 apos cpos:Pos} {ta tb tc te:W L} {x y:Str}
theorem Eu:SlR X (fun x lo hi H Q=>∃z,x=.str z∧z.length≤sizeLine∧Q (.str (Txt.slice z lo hi)) H):=by
 intro pins s σ H x v vl vu lo hi sl Q I rx hs pl pu h
 obtain ⟨z,rfl,hz,q⟩:=h
 obtain ⟨t,rfl⟩:=rx
 refine ⟨"str",_,F.slot_str_getitem.lookup,typeIs_str _ _ _,?_⟩
 obtain ⟨l',rfl,rfl⟩:∃l':Option (Int×Tok),vl=partValue l'∧lo=l'.map (·.1):=by
  cases pl
  ·
   exact ⟨none,rfl,rfl⟩
  ·
   exact ⟨some (_,_),rfl,rfl⟩
 obtain ⟨u',rfl,rfl⟩:∃l':Option (Int×Tok),vu=partValue l'∧hi=l'.map (·.1):=by
  cases pu
  ·
   exact ⟨none,rfl,rfl⟩
  ·
   exact ⟨some (_,_),rfl,rfl⟩
 exact wpAny_getItem_str_slice (l:=l') (u:=u') (st:=none) hs rfl (post_val_or_str ⟨Nat.le_trans (Txt.slice_le z _ _) hz,fun t' k=>⟨.str _,H,I.tok k,⟨t',rfl⟩,q⟩⟩)
def wSl2 (ta:W L) (lo hi:Option (W L)):W L:=fun ρ post=>ta ρ fun r ρ1=>toD r fun d=>vF lo ρ1 fun l ρ2=>vF hi ρ2 fun u ρ3=>match d with
 | .lst xs=>∀a,post (.own a (cutD xs l u)) ρ3
 | .str z=>z.length≤sizeLine∧post (.d (.str (Txt.slice z l u))) ρ3
 | .tup xs=>¬(HT.sIx xs.length 0 l=0∧HT.sIx xs.length xs.length u=xs.length)∧post (.d (.tup (cutD xs l u))) ρ3
 | _=>False
theorem jA {lo hi:Option Expr} {tl th:Option (W L)} (ha:PL X a ta) (hl:PO' X lo tl) (hh:PO' X hi th):PL X (.Subscript a (.Slice lo hi none p2) pos) (wSl2 ta tl th):=by
 refine PL.of (zD (SlR.or BY (SlR.or Eu D6)) (ar ha).pe (Eo hl) (Eo hh)) fun σ H Pr ρ post E h=>?_
 refine ⟨Pr,ρ,fun r ρ1=>match r with
  | .d d=>vF tl ρ1 fun l ρ2=>vF th ρ2 fun u ρ3=>match d with
   | .lst xs=>∀a,post (.own a (cutD xs l u)) ρ3
   | .str z=>z.length≤sizeLine∧post (.d (.str (Txt.slice z l u))) ρ3
   | .tup xs=>¬(HT.sIx xs.length 0 l=0∧HT.sIx xs.length xs.length u=xs.length)∧post (.d (.tup (cutD xs l u))) ρ3
   | _=>False
  | _=>False,E,h,fun v H1 r ρ1 E1 pp=>?_⟩
 cases r with
 | d d =>
  obtain ⟨_,e1,p1⟩:=E1.head_d
  cases e1
  refine ⟨ba H1 ρ1,ρ1,_,E1.tail.wide,pp,fun l H2 ρ2 E2 pp=>?_⟩
  have F2:REnv X.K Pr H2 (some v::σ) (.d d::ρ2):=REnv.step (τ:=[some v]) (lam:=[.d d]) (w:=[]) (μ:=[]) E1 rfl E2 rfl
  refine ⟨ba H2 ρ2,ρ2,_,F2.tail.wide,pp,fun u H3 ρ3 E3 pp=>?_⟩
  have F3:REnv X.K Pr H3 (some v::σ) (.d d::ρ3):=REnv.step (τ:=[some v]) (lam:=[.d d]) (w:=[]) (μ:=[]) F2 rfl E3 rfl
  obtain ⟨_,e1,p1⟩:=F3.head_d
  cases e1
  cases p1 with
  | lst hz rs=>exact .inl ⟨_,_,rfl,hz.l,fun q hq=>⟨_,_,F3.tail.cons_own hq (qc rs l u),pp q⟩⟩
  | str z=>exact .inr (.inl ⟨z,rfl,pp.1,_,_,F3.tail.cons_d (.str _),pp.2⟩)
  | tup hz rs=>exact .inr (.inr ⟨_,_,rfl,hz,by rw [rs.length];exact pp.1,fun q hq=>⟨_,_,F3.tail.cons_tup hq (qc rs l u),pp.2⟩⟩)
  | _=>exact pp.elim
 | _=>exact pp.elim
def F7 (K:PySem.W.Frag):V→List V→Hp→VK→Prop:=fun x vs H Q=>∃z a ys zs,x=.str z∧vs=[.ref a]∧(SqL K H a ys∨SqT K H a ys)∧ys=zs.map V.str∧(zs.map (·.length)).sum+zs.length*z.length≤16777216∧Q (.str (Txt.join z zs)) H
theorem ml:∀{zs:List Str} {us:List Value},Vals (zs.map V.str) us→StrsAre us zs
 | [],_,.nil=>.nil
 | z::zs,_,.cons r t=>by
  obtain ⟨t',rfl⟩:=r
  exact .cons z t' (ml t)
theorem Ck:MtR X "str.join" (F7 X.K):=by
 intro pins s σ H x vs v us Q I rx rv h
 obtain ⟨z,a,ys,zs,rfl,rfl,hq,rfl,hz,q⟩:=h
 obtain ⟨t,rfl⟩:=rx
 obtain ⟨u,rfl,ru⟩:=rv.one
 cases ru
 rcases hq with hq|hq
 ·
  obtain ⟨its,r,pl,_⟩:=I.list hq
  exact join_list pl.isList (by simpa using ml r) hz fun t' k=>⟨.str _,H,I.tok k,⟨t',rfl⟩,q⟩
 ·
  obtain ⟨its,r,pl,_⟩:=I.tuple hq
  exact join_tuple pl (by simpa using ml r) hz fun t' k=>⟨.str _,H,I.tok k,⟨t',rfl⟩,q⟩
end
end L2
namespace L2
open PySem PySem.Spec PyProof.Rows PySem.Builtin.Str
section
variable {X:Cx} {e a b c:Expr} {es rest:List Expr} {pos p p2 apos cpos:Pos} {ta tb tc te:W L} {x y:Str}
def Cm (z:Str) (te:W L):W L:=fun ρ post=>te ρ fun r ρ1=>toD r fun d=>fZ d fun xs=>∃zs,xs=zs.map D.str∧(zs.map (·.length)).sum+zs.length*z.length≤16777216∧post (.d (.str (Txt.join z zs))) ρ1
theorem mm {K:PySem.W.Frag} {H:Hp}:∀{zs:List Str} {vs:List V},Reps K H vs (zs.map D.str)→vs=zs.map V.str
 | [],_,.nil=>rfl
 | z::zs,_,.cons r t=>by
  cases r
  rw [mm t]
  rfl
theorem Cn {z:Str} {j:Nat} {pz:Pos} (he:PL X e te) (hs1:starEach [e] X.env=[(false,eval e X.env)]:=by rfl) (hbase:attributeBase (.Constant (.str z) j pz) "join" X.env (eval (.Constant (.str z) j pz) X.env)=eval (.Constant (.str z) j pz) X.env:=by rfl)
  (hfew:((backTo cpos (starEach [e] X.env)).all (fun x=>!x.1) && (backToKw cpos (keywordEach [] X.env)).all (fun x=>x.1.isSome)
   && decide (([e]).length+([]:List Keyword).length+(if ([]:List Keyword).isEmpty then 0 else 1) <30))=true:=by rfl)
  (hline:(apos.endLine == cpos.line)=true:=by rfl) (hplain:(backTo cpos (starEach ([]:List Expr) X.env)).any (·.1)=false:=by rfl) :
  PL X (.Call (.Attribute (.Constant (.str z) j pz) "join" apos) [e] [] cpos) (Cm z te):=by
 refine PL.of (Eb PySem.F.plainAttrs_str PySem.F.slot_str_join PySem.F.type_str_join Ck wu (bC (ar he).pe fG hs1) (hbase:=hbase) (hfew:=hfew) (hline:=hline) (hs:=hs1) (hplain:=hplain)) fun σ H Pr ρ post E h=>?_
 refine ⟨rfl,Pr,ρ,fun r ρ1=>match r with
  | .d d=>fZ d fun xs=>∃zs,xs=zs.map D.str∧(zs.map (·.length)).sum+zs.length*z.length≤16777216∧post (.d (.str (Txt.join z zs))) ρ1
  | _=>False,E,h,fun v H' r ρ' E' pp=>?_⟩
 cases r with
 | d d =>
  obtain ⟨_,e1,p1⟩:=E'.head_d
  cases e1
  cases p1 with
  | lst hz rs =>
   obtain ⟨zs,rfl,hl,pp⟩:=pp
   exact ⟨z,_,_,zs,rfl,rfl,.inl hz.l,mm rs,hl,_,_,E'.tail.cons_d (.str _),pp⟩
  | tup hz rs =>
   obtain ⟨zs,rfl,hl,pp⟩:=pp
   exact ⟨z,_,_,zs,rfl,rfl,.inr hz,mm rs,hl,_,_,E'.tail.cons_d (.str _),pp⟩
  | _=>exact pp.elim
 | _=>exact pp.elim
theorem Inv.turnedL {pins:List (Addr×Obj)} {σ:St} {H:Hp} {s:Shared} {h':Heap} {t':Nat} {fp:List Addr} (I:Inv X pins σ H s) (k:∀b o,b∉fp→s.heap.get? b=some o→h'.get? b=some o) (hf:∀b∈fp,FpOk X pins H b):Inv X pins σ H { s with heap:=h',toks:=t' }:=by
 have nit:∀b u,H b=some u→b∉fp:=fun b u e z=>by rw [(hf b z).1] at e;cases e
 refine I.step (g':=s.gens) (d':=s.drawn) (ch:=fp) (fun b hb=>?_) (fun b o _ _ hc e _=>k b o hc e) (fun b o _ _ hc e _=>⟨o.slots,k b o hc e⟩) (fun _ _ _ _ n=>n)
  (fun b o hc e=>⟨o,k b o hc e⟩) (fun _ _ e=>e) (fun _ _ _ e=>e) (fun b ps e=>⟨#[],by rw [e];simp⟩) (fun m hm=>?_) (fun b u e=>?_) I.bare
 ·
  obtain ⟨f0,f1,f2,f3,f4,f5⟩:=hf b hb
  exact ⟨f3,f1,f4,f5⟩
 ·
  obtain ⟨o,es,ep,ho,r⟩:=hm
  exact ⟨o,es,ep,k _ o (fun z=>(hf _ z).2.1 rfl) ho,r⟩
 ·
  refine (I.hok b u e).stay (fun c v hc q=>k c v ?_ q) (fun _ q=>q) fun _ _ q=>q
  rcases hc with z|z
  ·
   rw [z];exact nit b u e
  ·
   exact nit c _ z
def Ite (K:PySem.W.Frag) (a:Addr):It :=
 ⟨fun i H=>∃xs x,SqL K H a xs∧xs[i]?=some x,fun i H v H'=>∃p x,v=.ref p∧H p=none∧H'=upd H p (.tup [.int i,x])∧∀xs,SqL K H a xs→xs[i]?=some x,fun i H=>∃xs,SqL K H a xs∧xs.length≤i⟩
theorem xC {P:Program} {w:World} {K:PySem.W.Frag} {k:Nat} (q it a:Addr) (hne:q≠it):Turn P w K (.Tuple es k pos) (Ite K a) [q,it] q (fun i h=>(∃old,IsEnum h q it i old)∧h.IsListIter it a i) where
 mem:=by simp
 obj:=fun i h st b hb=>by
  obtain ⟨⟨old,he⟩,o,e,c,d⟩:=st
  rcases List.mem_cons.mp hb with rfl|hb
  ·
   exact ⟨_,he,fun v z=>by
    have z':Data.fields _=Data.cell v:=z
    cases z'⟩
  ·
   have e':b=it:=by simpa using hb
   subst e'
   exact ⟨o,e,fun v z=>by rw [d] at z;cases z⟩
 keep:=fun i h h' st kk=>⟨let ⟨old,he⟩:=st.1;⟨old,kk q (by simp) _ he⟩,st.2.at fun o e=>kk it (by simp) o e⟩
 item:=by
  intro X hP hw hK hc i pins s σ H E I hf st hg
  subst hP hw hK
  obtain ⟨xs,x,hq,hx⟩:=hg
  obtain ⟨its,rv,p,hz⟩:=I.list hq
  obtain ⟨u,hu,ru⟩:=rv.get hx
  obtain ⟨⟨old,he⟩,hit⟩:=st
  have hai:a≠it:=fun z=>by
   subst z
   obtain ⟨o,e,c,d⟩:=hit
   obtain ⟨o',e',c',_⟩:=p.isList
   rw [e] at e';cases e'
   rw [c] at c';exact absurd c' (by simp)
  have hqa:q≠a:=fun z=>by
   subst z
   obtain ⟨o',e',c',_⟩:=p.isList
   rw [he] at e';cases e'
   exact absurd c' (by simp)
  have D:=Draws.list (prog:=X.prog) (w:=X.w) (A:=X.A.in1) (I.ok.hd hc) it a hai its.toArray
  have hlt:i <its.toArray.size:=by
   rw [List.size_toArray]
   exact (List.getElem?_eq_some_iff.mp hu).1
  refine wpAny_pyNext_enum_itemD D he ⟨hit,p.isList⟩ hlt hne (by simp [hne,hqa]) fun x' h' tk hPx hout hst' htup hsz hk=>?_
  have hx':x'=u:=by
   have:its.toArray[i]?=some u:=by simpa using hu
   rw [this] at hPx;exact (Option.some.inj hPx).symm
  subst hx'
  refine ⟨.ref s.heap.objs.size,rfl,wpAny_letOwnedTupleGo_enum (s:={ s with heap:=h',toks:=tk+1 }) hout fun h'' he'' hs''=>?_⟩
  have qlt:q <s.heap.objs.size:=Heap.lt_size he
  have ilt:it <s.heap.objs.size:=by obtain ⟨o,e,_⟩:=hit;exact Heap.lt_size e
  have I1:Inv X pins σ (upd H s.heap.objs.size (.tup [.int i,x])) { s with heap:=s.heap.push { cls:=.type "tuple",data:=.seq #[.int i tk,x'] },toks:=tk } :=
   I.laid (fun b ob q=>Heap.get?_push_of_some _ q) (Nat.le_refl _) ⟨by show 2≤sizeLine;decide,[.int i tk,x'],.cons ⟨tk,rfl⟩ (.cons ru .nil),⟨_,Heap.get?_push_size _ rfl,rfl,_,rfl⟩⟩
  have hf1:∀b∈[q,it],FpOk X pins (upd H s.heap.objs.size (.tup [.int i,x])) b:=fun b hb=>by
   refine ⟨?_,(hf b hb).2⟩
   rw [ax ?_]
   ·
    exact (hf b hb).1
   ·
    rcases List.mem_cons.mp hb with rfl|hb
    ·
     exact Nat.ne_of_lt qlt
    ·
     rw [List.mem_singleton.mp hb];exact Nat.ne_of_lt ilt
  have I2:=I1.turnedL (h':=h'') (t':=tk+1) (fp:=[q,it]) (fun b o hb e=>by
   have hbq:b≠q:=fun z=>hb (by simp [z])
   have hbi:b≠it:=fun z=>hb (by simp [z])
   refine (hs''.2 b hbq).trans ?_
   rcases Heap.get?_push_cases e with ⟨rfl,rfl⟩|e
   ·
    exact htup
   ·
    exact hk b o hbq hbi e) hf1
  refine ⟨.ref s.heap.objs.size,_,I2,rfl,⟨_,x,rfl,I.fresh,rfl,fun ys hy=>by rw [I.list_inj hy hq];exact hx⟩,⟨⟨_,by simpa using he''⟩,hst'.1.extBut hs''.extBut (Ne.symm hne)⟩,fun b hb=>(hf1 b hb).1⟩
 done:=by
  intro X hP hw hK hc i pins s σ H E I hf st hg
  subst hP hw hK
  obtain ⟨xs,hq,hx⟩:=hg
  obtain ⟨its,rv,p,hz⟩:=I.list hq
  obtain ⟨⟨old,he⟩,hit⟩:=st
  have hai:a≠it:=fun z=>by
   subst z
   obtain ⟨o,e,c,d⟩:=hit
   obtain ⟨o',e',c',_⟩:=p.isList
   rw [e] at e';cases e'
   rw [c] at c';exact absurd c' (by simp)
  have hl:=rv.length
  have hT:s.TypeIs (.ref q) "enumerate":=⟨_,he,rfl⟩
  unfold pyNext
  refine wpAny_bind (wpAny_attempt (wpAny_callSpecial?_slot (name:=Str.ofString "__next__") hT F.slot_enumerate_next
   (wpAny_call_entry F.slot_enumerate_next hT F.entry_enumerate_next ?_ (F.args_enumerate_next_1 _))))
  show wpAny _ _ (field (.ref q) 2 >>= _) _ _ _
  refine wpAny_bind (wpAny_field he rfl (x:=.ref it) rfl ?_)
  refine wpAny_bind (wpAny_nextOf_list_end (I.ok.hd hc) hit p.isList (by simp;omega) fun h' x he' hx'=>?_)
  obtain ⟨o,ho,hcc⟩:=hx'
  refine wpAny_bind (wpAny_isInstance (T:="StopIteration") (b:=true) ⟨o,ho,hcc⟩ isSubtype_stop ?_)
  refine wpAny_pure ⟨rfl,?_⟩
  exact I.turnedL (t':=s.toks) (fp:=[q,it]) (fun b o hb e=>he' b o (fun z=>hb (by simp [z])) e) hf
 self:=fun _ _ _ _ _ st h=>let ⟨_,he⟩:=st.1;wpAny_pyIter_enum he h
def iM (xs:List D):List D:=xs.zipIdx.map fun p=>.tup [.int (p.2:Int),p.1]
theorem vL {K:PySem.W.Frag} {H:Hp} {a:Addr} {vs:List V} {xs:List D} (h:SqZ K H a vs) (r:Reps K H vs xs):xb K H (Ite K a) (iM xs):=fun H' p=>by
 have h':=(h.pres p).l
 have hlen:(iM xs).length=vs.length:=by rw [r.length];simp [iM]
 refine ⟨fun i x e=>?_,⟨vs,h',by rw [hlen];exact Nat.le_refl _⟩⟩
 have hi:i <vs.length:=by rw [← hlen];exact (List.getElem?_eq_some_iff.mp e).1
 have hi2:i <xs.length:=by rw [← r.length];exact hi
 have ex:x=.tup [.int (i:Int),xs[i]]:=by
  have:(iM xs)[i]?=some (.tup [.int (i:Int),xs[i]]):=by simp [iM,hi2]
  rw [this] at e
  exact (Option.some.inj e).symm
 obtain ⟨v,ev,rv⟩:=r.get (i:=i) (List.getElem?_eq_getElem hi2)
 refine ⟨⟨vs,v,h',ev⟩,fun w H2 ⟨q,y,e1,e2,e3,e4⟩=>?_⟩
 have e5:=e4 vs h'
 rw [ev] at e5
 cases e5
 subst e1 e3 ex
 refine ⟨.inr ⟨_,_,e2,rfl⟩,.tup (.inl (.inl (aW ..))) (.cons (.int _) (.cons ((rv.pres p).new e2) .nil))⟩
def Co (t:W L):W (List D):=fun ρ post=>t ρ fun r ρ1=>toD r fun d=>match d with
 | .lst xs=>post (iM xs) ρ1
 | _=>False
theorem zZ {k:Nat} {t:W L} (hg:Gl X "enumerate") (hm:X.mg "enumerate"=none) (ha:PL X a t) (hs:starEach [a] X.env=[(false,eval a X.env)]:=by rfl):PIL X (.Tuple es k apos) (.Call (.Name "enumerate" p) [a] [] pos) (Co t):=by
 intro pins s σ H Pr ρ post I E h
 refine Call_ (kQ I hg hm boot_enumerate (PyProof.Rows.callWith_type1 (thn (ae (ar ha) ag hs pos pins s σ H Pr ρ (fun ls ρ1=>match ls with
  | [.d (.lst xs)]=>post (iM xs) ρ1
  | _=>False) I E ?_) fun us s1 ⟨vs,H1,ls,ρ1,I1,r1,hl,hb,E1,_,q1⟩=>?_) hs rfl))
 ·
  show t ρ _
  have e:(fun r ρ1=>toD r fun d=>match d with | .lst xs=>post (iM xs) ρ1|_=>False)=(fun r ρ1=>toD r fun x=>aNil ρ1 fun xs ρ2=>match L.d x::xs with | [.d (.lst xs)]=>post (iM xs) ρ2|_=>False):=by
   funext r ρ1
   cases r with
   | un=>rfl
   | d d=>cases d<;>rfl
   | own=>rfl
   | bx b ls =>
    show dD (bh (.bx b ls)) _=dD (bh (.bx b ls)) _
    cases bh (.bx b ls) with
    | none=>rfl
    | some d=>cases d<;>rfl
   | dic b ls=>rfl
  rw [← e]
  exact h
 ·
  dsimp only at q1
  split at q1
  ·
   rename_i xs
   cases vs with
   | nil=>exact absurd hl (by simp)
   | cons v vs =>
    have:vs=[]:=by
     have:vs.length=0:=by simpa using hl
     exact List.length_eq_zero_iff.mp this
    subst this
    obtain ⟨_,e1,p1⟩:=REnv.head_d (σ:=σ) (ρ:=ρ1) E1
    cases e1
    cases p1 with
    | lst hz rs =>
     obtain ⟨u,rfl,ru⟩:=r1.one
     cases ru
     obtain ⟨its,rv,pl,hz'⟩:=I1.list hz.l
     refine call_enumerate_list pl.isList fun h' hE hI hsz hk=>?_
     refine wpAny_pyIter_enum (s:={ s1 with heap:=h' }) hE ?_
     have E2:REnv X.K Pr H1 σ ρ1:=REnv.tail (σ:=σ) (ρ:=ρ1) E1
     refine ⟨s1.heap.objs.size+1,[s1.heap.objs.size+1,s1.heap.objs.size],_,_,H1,_,ρ1,rfl,I1.kept (t':=s1.toks) hk,xC _ _ _ (Nat.succ_ne_self _),⟨⟨_,hE⟩,hI⟩,fun b hb=>?_,E2,vL hz rs,q1⟩
     have hb':s1.heap.objs.size≤b:=by
      rcases List.mem_cons.mp hb with rfl|hb
      ·
       exact Nat.le_succ _
      ·
       rw [List.mem_singleton.mp hb];exact Nat.le_refl _
     exact I1.fpOk hb' (I1.hok.fresh hb')
  ·
   exact q1.elim
end
end L2
namespace L2
open PySem PySem.Spec PyProof.Rows PySem.Builtin.Str
section
variable {X:Cx} {e a b c:Expr} {es rest:List Expr} {pos p p2 apos cpos:Pos} {ta tb tc te:W L} {x y:Str}
end
end L2
namespace L2
open PySem PySem.Spec PyProof.Rows PySem.Builtin.Str
section
variable {X:Cx} {e a b c:Expr} {es rest:List Expr} {pos p p2 apos cpos:Pos} {ta tb tc te:W L} {x y:Str}
theorem Reps.dropLast {K:PySem.W.Frag} {H:Hp}:∀{vs:List V} {ds:List D},Reps K H vs ds→Reps K H vs.dropLast ds.dropLast
 | _,_,.nil=>.nil
 | _,_,.cons r .nil=>.nil
 | _,_,.cons r (.cons q t)=>.cons r (Reps.dropLast (.cons q t))
end
end L2
namespace L2
open PySem PySem.Spec PyProof.Rows
mutual
def noL:D→Bool
 | .lst _=>false
 | .dct _=>false
 | .exc _ _ _=>false
 | .tup xs=>noLs xs
 | _=>true
def noLs:List D→Bool
 | []=>true
 | x::xs=>noL x && noLs xs
end
mutual
def noLr:L→Bool
 | .un=>true
 | .d x=>noL x
 | .own _ xs=>noLs xs
 | .bx _ ls=>mn ls
 | .dic _ kvs=>kvs.all fun p=>noL p.2
def mn:List L→Bool
 | []=>true
 | l::ls=>noLr l && mn ls
end
theorem si:noLr .un=true:=by simp [noLr]
theorem Ew (x:D):noLr (.d x)=noL x:=by simp [noLr]
theorem z0 (a:Addr) (xs:List D):noLr (.own a xs)=noLs xs:=by simp [noLr]
theorem Cp (a:Option Addr) (ls:List L):noLr (.bx a ls)=mn ls:=by simp [noLr]
theorem z6 (a:Addr) (kvs:List (Key×D)):noLr (.dic a kvs)=kvs.all fun p=>noL p.2:=by simp [noLr]
theorem xD:mn []=true:=by simp [mn]
theorem vM (l:L) (ls:List L):mn (l::ls)=(noLr l && mn ls):=by simp [mn]
section
variable {X:Cx} {pins:List (Addr×Obj)} {σ:St} {H:Hp} {s:Shared}
theorem Inv.thaw {a:Addr} {o:Obj} {xs:List V} (I:Inv X pins σ H s) (h:H a=some (.frz o (.lst xs))) (h0:∀o u,X.H₀ a≠some (.frz o u)):Inv X pins σ (upd H a (.lst xs)) s:=by
 have ne:∀b,H b=none→b≠a:=fun b n e=>by subst e;rw [h] at n;cases n
 have nt:∀b xs,H b=some (.tup xs)→b≠a:=fun b xs n e=>by subst e;rw [h] at n;cases n
 have no:∀b z,H b=some (.own z)→b≠a:=fun b z n e=>by subst e;rw [h] at n;cases n
 have nw:=(I.hok a _ h).2
 refine ⟨I.ok,I.os,I.bare,⟨I.base.keep,I.base.slot,fun b ob e n hx=>?_,I.base.there,fun b xs e=>?_,fun b ob z e=>?_,fun b ps e=>?_⟩,I.loc,I.cell,?_,fun x c e=>?_,fun p hp=>?_,fun b z e=>?_,I.len⟩
 ·
  have q:=I.base.free b ob e n hx
  rw [ax (ne b q)];exact q
 ·
  have q:=I.base.tups b xs e
  rw [ax (nt b xs q)];exact q
 ·
  have q:=I.base.frzs b ob z e
  rw [ax (fun y=>by subst y;exact h0 _ _ e)];exact q
 ·
  obtain ⟨more,q⟩:=I.base.tbls b ps e
  refine ⟨more,?_⟩
  rw [ax (fun z=>by subst z;rw [h] at q;cases q)];exact q
 ·
  rw [ax (ne _ I.free)];exact I.free
 ·
  rw [ax (ne _ (I.freeC x c e))];exact I.freeC x c e
 ·
  obtain ⟨e,n,r⟩:=I.pin p hp
  exact ⟨e,by rw [ax (ne _ n)];exact n,r⟩
 ·
  by_cases hb:b=a
  ·
   subst hb
   rw [aW] at e
   cases e
   exact nw.stay (fun c v _ q=>q) (fun c q=>by rw [ax (no c _ q)];exact q) fun c xs q=>by rw [ax (nt c xs q)];exact q
  ·
   rw [ax hb] at e
   exact (I.hok b z e).stay (fun c v _ q=>q) (fun c q=>by rw [ax (no c _ q)];exact q) fun c xs q=>by rw [ax (nt c xs q)];exact q
end
def hZ (H' H2:Hp) (S:List Addr):Prop:=(∀b,b∉S→H2 b=H' b)∧(∀a∈S,∃o vs,H' a=some (.frz o (.lst vs))∧H2 a=some (.lst vs))
theorem xE {X:Cx} {pins:List (Addr×Obj)} {σ:St} {s:Shared}:∀(S:List Addr) {H:Hp},S.Nodup→Inv X pins σ H s→(∀a∈S,∃o vs,H a=some (.frz o (.lst vs)))→(∀a∈S,∀o u,X.H₀ a≠some (.frz o u))→∃H2,Inv X pins σ H2 s∧hZ H H2 S
 | [],H,_,I,_,_=>⟨H,I,fun _ _=>rfl,fun _ h=>by simp at h⟩
 | a::S,H,nd,I,h,h0=>by
  obtain ⟨na,nd⟩:=List.nodup_cons.mp nd
  obtain ⟨o,vs,ea⟩:=h a List.mem_cons_self
  have I1:=I.thaw ea (h0 a List.mem_cons_self)
  obtain ⟨H2,I2,T1,T2⟩:=xE S nd I1 (fun b hb=>by
   obtain ⟨o,us,e⟩:=h b (List.mem_cons_of_mem _ hb)
   exact ⟨o,us,by rw [ax (fun z:b=a=>na (by rw [← z];exact hb))];exact e⟩) fun b hb=>h0 b (List.mem_cons_of_mem _ hb)
  refine ⟨H2,I2,fun b hb=>?_,fun b hb=>?_⟩
  ·
   rw [T1 b (fun z=>hb (List.mem_cons_of_mem _ z)),ax (fun z:b=a=>hb (by rw [z];exact List.mem_cons_self))]
  ·
   rcases List.mem_cons.mp hb with rfl|hb
   ·
    exact ⟨o,vs,ea,by rw [T1 b na,aW]⟩
   ·
    obtain ⟨o',us,e1,e2⟩:=T2 b hb
    rw [ax (fun z:b=a=>na (by rw [← z];exact hb))] at e1
    exact ⟨o',us,e1,e2⟩
section
variable {K:PySem.W.Frag} {H' H2:Hp} {S:List Addr}
mutual
theorem Rep.thaw (T:hZ H' H2 S):∀{v:V} {d:D},noL d=true→Rep K H' v d→Rep K H2 v d
 | _,_,_,.non=>.non
 | _,_,_,.bl b=>.bl b
 | _,_,_,.int i=>.int i
 | _,_,_,.str x=>.str x
 | _,_,h,.tup hs r=>by
  refine .tup ?_ (Reps.thaw T (by simpa [noL] using h) r)
  rcases hs with (e|⟨u,e⟩)|e
  ·
   exact .inl (.inl (by rw [T.1 _ fun z=>by obtain ⟨o,vs,e1,_⟩:=T.2 _ z;rw [e1] at e;cases e];exact e))
  ·
   exact .inl (.inr ⟨u,by rw [T.1 _ fun z=>by obtain ⟨o,vs,e1,_⟩:=T.2 _ z;rw [e1] at e;cases e];exact e⟩)
  ·
   exact .inr e
 | _,_,h,.lst hs r=>by simp [noL] at h
 | _,_,h,.dct e=>by simp [noL] at h
 | _,_,h,.exc _ _ _ _ _ _ _ _=>by simp [noL] at h
theorem Reps.thaw (T:hZ H' H2 S):∀{vs:List V} {ds:List D},noLs ds=true→Reps K H' vs ds→Reps K H2 vs ds
 | _,_,_,.nil=>.nil
 | _,_,h,.cons r t=>by
  simp only [noLs,Bool.and_eq_true] at h
  exact .cons (Rep.thaw T h.1 r) (Reps.thaw T h.2 t)
end
theorem hZ.lst (T:hZ H' H2 S) {a:Addr} {vs:List V} (h:H' a=some (.lst vs)):a∉S∧H2 a=some (.lst vs):=by
 have n:a∉S:=fun z=>by
  obtain ⟨o,us,e,_⟩:=T.2 a z
  rw [h] at e;cases e
 exact ⟨n,(T.1 a n).trans h⟩
theorem hZ.tup (T:hZ H' H2 S) {a:Addr} {vs:List V} (h:SqT K H' a vs):SqT K H2 a vs:=by
 rcases h with (e|⟨u,e⟩)|e
 ·
  exact .inl (.inl (by rw [T.1 _ fun z=>by obtain ⟨o,vs,e1,_⟩:=T.2 _ z;rw [e1] at e;cases e];exact e))
 ·
  exact .inl (.inr ⟨u,by rw [T.1 _ fun z=>by obtain ⟨o,vs,e1,_⟩:=T.2 _ z;rw [e1] at e;cases e];exact e⟩)
 ·
  exact .inr e
mutual
theorem aM.thaw (T:hZ H' H2 S):∀{s:Option V} (l:L),noLr l=true→aM K H' s l→aM K H2 s l
 | _,.un,_,_=>by unfold aM;exact True.intro
 | _,.d x,h,q=>by
  unfold aM at q ⊢
  obtain ⟨v,e,r⟩:=q
  exact ⟨v,e,r.thaw T (by simpa [noLr] using h)⟩
 | _,.own a xs,h,q=>by
  unfold aM at q ⊢
  obtain ⟨e,vs,ha,r⟩:=q
  exact ⟨e,vs,(T.lst ha).2,r.thaw T (by simpa [noLr] using h)⟩
 | _,.bx none ls,h,q=>by
  unfold aM at q ⊢
  obtain ⟨a,vs,e,ha,r⟩:=q
  exact ⟨a,vs,e,T.tup ha,bD.thaw T ls (by simpa [noLr] using h) r⟩
 | _,.bx (some a) ls,h,q=>by
  unfold aM at q ⊢
  obtain ⟨e,vs,ha,r⟩:=q
  exact ⟨e,vs,(T.lst ha).2,bD.thaw T ls (by simpa [noLr] using h) r⟩
 | _,.dic a kvs,h,q=>by
  unfold aM at q ⊢
  obtain ⟨e,vs,ha,r⟩:=q
  have h':∀p∈kvs,noL p.2=true:=by simpa [noLr] using h
  refine ⟨e,vs,?_,Paired.impMem r fun p hp q z=>⟨z.1,z.2.thaw T (h' p hp)⟩⟩
  rw [T.1 a fun z=>by obtain ⟨o,us,e1,_⟩:=T.2 _ z;rw [e1] at ha;cases ha]
  exact ha
theorem bD.thaw (T:hZ H' H2 S):∀{vs:List V} (ls:List L),mn ls=true→bD K H' vs ls→bD K H2 vs ls
 | _,[],_,q=>by unfold bD at q ⊢;exact q
 | _,l::ls,h,q=>by
  unfold bD at q ⊢
  simp only [mn,Bool.and_eq_true] at h
  obtain ⟨v,us,e,h1,h2⟩:=q
  exact ⟨v,us,e,aM.thaw T l h.1 h1,bD.thaw T ls h.2 h2⟩
end
end
def bp:L→Bool
 | .d _=>true
 | l=>noLr l
theorem z7:bp .un=true:=by simp [bp,noLr]
theorem Cq (x:D):bp (.d x)=true:=rfl
theorem xF (a:Addr) (xs:List D):bp (.own a xs)=noLs xs:=by simp [bp,noLr]
theorem xG (a:Addr) (kvs:List (Key×D)):bp (.dic a kvs)=kvs.all fun p=>noL p.2:=by simp [bp,noLr]
theorem z8 (a:Option Addr) (ls:List L):bp (.bx a ls)=mn ls:=by simp [bp,noLr]
def c9 (i:Nat) (ρ:Ev):Bool:=(ρ.set i .un).all bp
theorem nH {K:PySem.W.Frag} {H0 H' H2:Hp} {S:List Addr} (T:hZ H' H2 S) (p:Pres H0 H2):∀{σ:St} {ρ ρ0:Ev},ρ.length=ρ0.length →
  (∀(j:Nat) (l:L),ρ[j]?=some l→noLr l=true∨∃x,l=.d x∧ρ0[j]?=some (.d x))→Paired (aM K H0) σ ρ0→Paired (aM K H') σ ρ→Paired (aM K H2) σ ρ
 | [],[],_,_,_,_,_=>.nil
 | s::σ,l::ρ,l0::ρ0,hl,h,.cons q0 t0,.cons q t=>by
  refine .cons ?_ (nH T p (by simpa using hl) (fun j l e=>h (j+1) l e) t0 t)
  rcases h 0 l rfl with hh|⟨x,rfl,e⟩
  ·
   exact q.thaw T l hh
  ·
   have e:l0=.d x:=by simpa using e
   subst e
   exact q0.pres p (.d x) fun a ha=>by simp [aT] at ha
 | [],_::_,_,_,_,_,t=>nomatch t
 | _::_,[],_,_,_,_,t=>nomatch t
mutual
theorem aM.lsts {K:PySem.W.Frag} {H:Hp}:∀{s:Option V} (l:L) {x:D},aM K H s l→bh l=some x→∀a∈aT l,∃vs,H a=some (.lst vs)
 | _,.un,_,_,_,a,ha=>by simp [aT] at ha
 | _,.d x,_,_,_,a,ha=>by simp [aT] at ha
 | _,.dic _ _,_,_,h,_,_=>by simp [bh] at h
 | _,.own b xs,_,h,_,a,ha=>by
  simp only [aM] at h
  have e:a=b:=by simpa [aT] using ha
  subst e
  obtain ⟨_,vs,q,_⟩:=h
  exact ⟨_,q⟩
 | _,.bx none ls,_,h,hx,a,ha=>by
  simp only [aM] at h
  simp only [bh,Option.map_eq_some_iff] at hx
  obtain ⟨xs,hx,_⟩:=hx
  obtain ⟨b,vs,e,_,r⟩:=h
  exact bD.lsts ls r hx a (by simpa [aT] using ha)
 | _,.bx (some b) ls,_,h,hx,a,ha=>by
  simp only [aM] at h
  simp only [bh,Option.map_eq_some_iff] at hx
  obtain ⟨xs,hx,_⟩:=hx
  obtain ⟨e,vs,q,r⟩:=h
  rcases (by simpa [aT] using ha:a=b∨a∈cR ls) with z|z
  ·
   subst z;exact ⟨_,q⟩
  ·
   exact bD.lsts ls r hx a z
theorem bD.lsts {K:PySem.W.Frag} {H:Hp}:∀{vs:List V} (ls:List L) {xs:List D},bD K H vs ls→bP ls=some xs→∀a∈cR ls,∃vs,H a=some (.lst vs)
 | _,[],_,_,_,a,ha=>by simp [cR] at ha
 | _,l::ls,_,h,hx,a,ha=>by
  simp only [bD] at h
  obtain ⟨v,us,e,h1,h2⟩:=h
  simp only [bP] at hx
  split at hx
  ·
   rename_i x1 xs1 e1 e2
   rcases (by simpa [cR] using ha:a∈aT l∨a∈cR ls) with z|z
   ·
    exact aM.lsts l h1 e1 a z
   ·
    exact bD.lsts ls h2 e2 a z
  ·
   cases hx
end
theorem qf {X:Cx} {pins:List (Addr×Obj)} {σ0:St} {s s1:Shared} {Pr H H1 H':Hp} {σ τ:St} {ρ lam:Ev} {i:Nat} {k:L} {x:D} {v:Option V} (I:Inv X pins σ0 H s) (E:REnv X.K Pr H σ ρ) (hi:ρ[i]?=some k) (hSa:∀a∈aT k,∃vs,H a=some (.lst vs)) (F:kU H H1 (aT k)) (hfl:c9 i ρ=true)
  (I':Inv X pins σ0 H' s1) (E1:REnv X.K Pr H1 σ (ρ.set i (.d x))) (E':REnv X.K (ba H1 (ρ.set i (.d x))) H' (τ++σ) (lam++ρ.set i (.d x))) (hlen:τ.length=lam.length) (hr:lam.all noLr=true):∃H2,Inv X pins σ0 H2 s1∧REnv X.K Pr H2 (τ++σ) (lam++ρ):=by
 have hil:i <ρ.length:=(List.getElem?_eq_some_iff.mp hi).1
 have prm:=eG hi (l:=.d x) rfl
 have hnd:(aT k++owns (ρ.set i (.d x))).Nodup:=prm.nodup_iff.mp E.nd
 obtain ⟨nd1,nd2,nd3⟩:=List.nodup_append.mp hnd
 have hna:∀a∈aT k,a∉owns (ρ.set i (.d x)):=fun a ha z=>nd3 a ha a z rfl
 have hb:∀b u,H1 b=some u→b∉owns (ρ.set i (.d x))→H' b=some u:=fun b u e hno=>by
  refine E'.sub b u ?_
  unfold ba
  rw [if_neg hno]
  exact e
 have hS:∀a∈aT k,∃o vs,H' a=some (.frz o (.lst vs)):=fun a ha=>by
  obtain ⟨vs,e⟩:=hSa a ha
  obtain ⟨o,eo⟩:=F.2.2 a ha vs e
  exact ⟨o,vs,hb a _ eo (hna a ha)⟩
 obtain ⟨H2,I2,T⟩:=xE (aT k) nd1 I' hS fun a ha o u e=>by
  have z:=I.base.frzs a o u e
  obtain ⟨vs,q⟩:=hSa a ha
  rw [q] at z;cases z
 have back:∀a∈aT k,H2 a=H a:=fun a ha=>by
  obtain ⟨vs,e⟩:=hSa a ha
  obtain ⟨o,eo⟩:=F.2.2 a ha vs e
  obtain ⟨o',vs',e1,e2⟩:=T.2 a ha
  rw [hb a _ eo (hna a ha)] at e1
  cases e1
  rw [e2,e]
 have P:Pres H H2:=fun b u hp e=>by
  have hno:b∉owns ρ:=fun z=>by
   obtain ⟨ws,hz,mu⟩:=E.at_own z
   rw [hz] at e;cases e;exact mu.no hp
  have hnk:b∉aT k:=fun z=>hno (prm.mem_iff.mpr (List.mem_append_left _ z))
  rw [T.1 b hnk]
  exact hb b u (F.1 b u hp e) fun z=>hno (prm.mem_iff.mpr (List.mem_append_right _ z))
 obtain ⟨sl1,sl2⟩:=Paired.unapp hlen E'.sl
 have ndE:=E'.nd
 rw [ay] at ndE
 obtain ⟨ne1,ne2,ne3⟩:=List.nodup_append.mp ndE
 have lamS:∀a∈owns lam,a∉aT k∧Pr a=none∧a∉owns (ρ.set i (.d x)):=fun a ha=>by
  obtain ⟨vs,e,mu⟩:=E'.at_own (a:=a) (by rw [ay];exact List.mem_append_left _ ha)
  have h1:a∉aT k:=fun z=>by
   obtain ⟨o,us,e1,_⟩:=T.2 _ z
   rw [e1] at e
   cases e
   exact mu
  have h3:a∉owns (ρ.set i (.d x)):=fun z=>ne3 a ha a z rfl
  refine ⟨h1,?_,h3⟩
  have hoff:=E'.off a (by rw [ay];exact List.mem_append_left _ ha)
  unfold ba at hoff
  rw [if_neg h3] at hoff
  cases ep:Pr a with
  | none=>rfl
  | some w=>rw [E1.sub a w ep] at hoff;cases hoff
 have slt:Paired (aM X.K H2) σ (ρ.set i .un):=by
  have q:Paired (aM X.K H') σ (ρ.set i .un):=by
   have:=(Paired.set_r (b:=L.un) i sl2 fun _ _=>by unfold aM;exact True.intro)
   rwa [List.set_set] at this
  refine nH T P (ρ0:=ρ) (by simp) (fun j l e=>?_) E.sl q
  by_cases hj:j=i
  ·
   subst hj
   rw [List.getElem?_set_self hil] at e
   cases e
   exact .inl si
  ·
   have h1:=List.all_eq_true.mp hfl l (List.mem_of_getElem? (i:=j) e)
   rw [List.getElem?_set_ne (Ne.symm hj)] at e
   cases l with
   | un=>exact .inl si
   | d y=>exact .inr ⟨y,rfl,e⟩
   | own b ys=>exact .inl h1
   | bx b ls=>exact .inl h1
   | dic b ls=>exact .inl h1
 have slr:Paired (aM X.K H2) τ lam:=Paired.impMem sl1 fun l hl s q=>q.thaw T l (List.all_eq_true.mp hr l hl)
 refine ⟨H2,I2,fun b u e=>?_,?_,fun b hbm=>?_,Paired.app slr ?_⟩
 ·
  have hno:b∉owns ρ:=fun z=>by have:=E.off b z;rw [e] at this;cases this
  have hnk:b∉aT k:=fun z=>hno (prm.mem_iff.mpr (List.mem_append_left _ z))
  rw [T.1 b hnk]
  refine hb b u ?_ fun z=>hno (prm.mem_iff.mpr (List.mem_append_right _ z))
  rw [F.2.1 b hnk]
  exact E.sub b u e
 ·
  rw [ay,List.nodup_append]
  refine ⟨ne1,E.nd,fun c hc d hd z=>?_⟩
  subst z
  obtain ⟨h1,h2,h3⟩:=lamS c hc
  rcases List.mem_append.mp (prm.mem_iff.mp hd) with z|z
  ·
   exact h1 z
  ·
   exact h3 z
 ·
  rw [ay] at hbm
  rcases List.mem_append.mp hbm with z|z
  ·
   exact (lamS b z).2.1
  ·
   exact E.off b z
 ·
  obtain ⟨sv,hs,q⟩:=E.slot hi
  have:=Paired.set_r (b:=k) i slt fun s es=>by
   rw [hs] at es
   cases es
   exact q.pres P k back
  rw [List.set_set] at this
  have e2:ρ.set i k=ρ:=by
   refine List.ext_getElem? fun j=>?_
   by_cases hj:j=i
   ·
    subst hj;rw [List.getElem?_set_self hil,hi]
   ·
    rw [List.getElem?_set_ne (Ne.symm hj)]
  rwa [e2] at this
def pkW (o:Option L) (i:Nat) (t:W L) (ρ:Ev) (post:L→Ev→Prop):Prop:=match o with
 | some (.own _ xs)=>c9 i ρ=true∧t (ρ.set i (.d (.lst xs))) fun r ρ'=>noLr r=true∧ρ'=ρ.set i (.d (.lst xs))∧post r ρ
 | some (.bx b ls)=>c9 i ρ=true∧toDB b ls fun x=>t (ρ.set i (.d x)) fun r ρ'=>noLr r=true∧ρ'=ρ.set i (.d x)∧post r ρ
 | _=>t ρ post
def z9 (i:Nat) (t:W L):W L:=fun ρ post=>pkW ρ[i]? i t ρ post
theorem Cr (a:Addr) (xs:List D) (i:Nat) (t:W L) (ρ:Ev) (post:L→Ev→Prop):pkW (some (.own a xs)) i t ρ post=(c9 i ρ=true∧t (ρ.set i (.d (.lst xs))) fun r ρ'=>noLr r=true∧ρ'=ρ.set i (.d (.lst xs))∧post r ρ):=(rfl)
theorem Ey (b:Option Addr) (ls:List L) (i:Nat) (t:W L) (ρ:Ev) (post:L→Ev→Prop):pkW (some (.bx b ls)) i t ρ post=(c9 i ρ=true∧toDB b ls fun x=>t (ρ.set i (.d x)) fun r ρ'=>noLr r=true∧ρ'=ρ.set i (.d x)∧post r ρ):=(rfl)
theorem F8 (x:D) (i:Nat) (t:W L) (ρ:Ev) (post:L→Ev→Prop):pkW (some (.d x)) i t ρ post=t ρ post:=(rfl)
theorem xH {X:Cx} {pins:List (Addr×Obj)} {s:Shared} {σ:St} {H Pr:Hp} {ρ:Ev} {i:Nat} {k:L} {x:D} (I:Inv X pins σ H s) (E:REnv X.K Pr H σ ρ) (hi:ρ[i]?=some k) (hx:bh k=some x):∃H1,Inv X pins σ H1 s∧REnv X.K Pr H1 σ (ρ.set i (.d x))∧kU H H1 (aT k)∧∀a∈aT k,∃vs,H a=some (.lst vs):=by
 obtain ⟨sv,hs,sl⟩:=E.slot hi
 obtain ⟨H1,I1,E1,F⟩:=frzL k I (E.outL hi hs) hx
 have hil:i <ρ.length:=(List.getElem?_eq_some_iff.mp hi).1
 have E2:=E1.back (i:=i) (by rw [List.getElem?_set_self hil]) hs
 rw [List.set_set] at E2
 exact ⟨H1,I1,E2,F,sl.lsts k hx⟩
theorem Ct {X:Cx} {e:Expr} (i:Nat) {t:W L} (h:PL X e t):PL X e (z9 i t):=by
 intro pins s σ H Pr ρ post I E hw
 have go:∀(k:L) (x:D),ρ[i]?=some k→bh k=some x→c9 i ρ=true→(t (ρ.set i (.d x)) fun r ρ'=>noLr r=true∧ρ'=ρ.set i (.d x)∧post r ρ)→wpAny (model X.prog X.w) X.A (eval e X.env) (EL X pins σ Pr post) X.xe s:=by
  intro k x hi hx hfl hw
  obtain ⟨H1,I1,E1,F,Sa⟩:=xH I E hi hx
  refine thn (h pins s σ _ _ _ _ I1 E1.wide hw) fun u s1 ⟨v,H',r,ρ',I',rv,E',hr,eρ,hp⟩=>?_
  subst eρ
  obtain ⟨H2,I2,E2⟩:=qf (τ:=[some v]) (lam:=[r]) (v:=some v) I E hi Sa F hfl I' E1 E' rfl (by simpa using hr)
  exact ⟨v,H2,r,ρ,I2,rv,E2,hp⟩
 unfold z9 pkW at hw
 split at hw
 ·
  rename_i a xs hi
  exact go _ _ hi rfl hw.1 hw.2
 ·
  rename_i b ls hi
  obtain ⟨x,hx,hw'⟩:=nY hw.2
  exact go _ _ hi hx hw.1 hw'
 ·
  exact h pins s σ H Pr ρ post I E hw
def pkB (o:Option L) (i:Nat) (t:W Bool) (ρ:Ev) (post:Bool→Ev→Prop):Prop:=match o with
 | some (.own _ xs)=>c9 i ρ=true∧t (ρ.set i (.d (.lst xs))) fun r ρ'=>ρ'=ρ.set i (.d (.lst xs))∧post r ρ
 | some (.bx b ls)=>c9 i ρ=true∧toDB b ls fun x=>t (ρ.set i (.d x)) fun r ρ'=>ρ'=ρ.set i (.d x)∧post r ρ
 | _=>t ρ post
def nI (i:Nat) (t:W Bool):W Bool:=fun ρ post=>pkB ρ[i]? i t ρ post
theorem Cu (a:Addr) (xs:List D) (i:Nat) (t:W Bool) (ρ:Ev) (post:Bool→Ev→Prop):pkB (some (.own a xs)) i t ρ post=(c9 i ρ=true∧t (ρ.set i (.d (.lst xs))) fun r ρ'=>ρ'=ρ.set i (.d (.lst xs))∧post r ρ):=(rfl)
theorem Ez (b:Option Addr) (ls:List L) (i:Nat) (t:W Bool) (ρ:Ev) (post:Bool→Ev→Prop):pkB (some (.bx b ls)) i t ρ post=(c9 i ρ=true∧toDB b ls fun x=>t (ρ.set i (.d x)) fun r ρ'=>ρ'=ρ.set i (.d x)∧post r ρ):=(rfl)
theorem Ga (x:D) (i:Nat) (t:W Bool) (ρ:Ev) (post:Bool→Ev→Prop):pkB (some (.d x)) i t ρ post=t ρ post:=(rfl)
theorem Cv {X:Cx} {e:Expr} (i:Nat) {t:W Bool} (h:PB X e t):PB X e (nI i t):=by
 intro pins s σ H Pr ρ post I E hw
 have go:∀(k:L) (x:D),ρ[i]?=some k→bh k=some x→c9 i ρ=true→(t (ρ.set i (.d x)) fun r ρ'=>ρ'=ρ.set i (.d x)∧post r ρ)→wpAny (model X.prog X.w) X.A (isTrue e X.env (eval e X.env)) (EB X pins σ Pr post) X.xe s:=by
  intro k x hi hx hfl hw
  obtain ⟨H1,I1,E1,F,Sa⟩:=xH I E hi hx
  refine thn (h pins s σ _ _ _ _ I1 E1.wide hw) fun u s1 ⟨H',ρ',I',E',eρ,hp⟩=>?_
  subst eρ
  obtain ⟨H2,I2,E2⟩:=qf (τ:=[]) (lam:=[]) (v:=none) I E hi Sa F hfl I' E1 E' rfl rfl
  exact ⟨H2,ρ,I2,E2,hp⟩
 unfold nI pkB at hw
 split at hw
 ·
  rename_i a xs hi
  exact go _ _ hi rfl hw.1 hw.2
 ·
  rename_i b ls hi
  obtain ⟨x,hx,hw'⟩:=nY hw.2
  exact go _ _ hi hx hw.1 hw'
 ·
  exact h pins s σ H Pr ρ post I E hw
end L2
namespace L2
open PySem PySem.Spec PyProof.Rows
variable {X:Cx}
end L2
namespace L2
open PySem PySem.Spec PyProof.Rows
variable {X:Cx}
end L2
namespace L2
open PySem PySem.Spec PyProof.Rows
variable {X:Cx}
end L2
namespace L2
open PySem PySem.Spec PyProof.Rows
section
variable {X:Cx} {e a b c:Expr} {es rest:List Expr} {pos p p2 apos cpos:Pos} {ta tb tc te:W L} {x y:Str}
theorem sj {prog:Program} {w:World} {A:Around} {ks:List Bool} {us:List Value} (h:us=ks.map Value.bool):TruthOf prog w A (fun i v=>us.toArray[i]?=some v) (fun i=>ks.getD i true):=fun i v s Q E hv hQ=>by
 subst h
 rw [List.getElem?_toArray,List.getElem?_map] at hv
 cases q:ks[i]? with
 | none=>rw [q] at hv;cases hv
 | some k =>
  rw [q] at hv
  cases hv
  refine wpAny_truthy_bool ?_
  have:ks.getD i true=k:=by rw [List.getD_eq_getElem?_getD,q];rfl
  have hQ':Q (ks.getD i true) s:=hQ
  rw [this] at hQ'
  exact hQ'
theorem EC (ks:List Bool):(List.range ks.length).all (fun i=>ks.getD i true)=ks.all id:=by
 apply Bool.eq_iff_iff.mpr
 simp only [List.all_eq_true,List.mem_range,id]
 constructor
 ·
  intro h x hx
  obtain ⟨i,hi,e⟩:=List.getElem_of_mem hx
  have:=h i hi
  rw [List.getD_eq_getElem?_getD,List.getElem?_eq_getElem hi] at this
  simpa [e] using this
 ·
  intro h i hi
  rw [List.getD_eq_getElem?_getD,List.getElem?_eq_getElem hi]
  exact h _ (List.getElem_mem hi)
theorem xI (ks:List Bool):(List.range ks.length).any (fun i=>ks.getD i true)=ks.any id:=by
 apply Bool.eq_iff_iff.mpr
 simp only [List.any_eq_true,List.mem_range,id]
 constructor
 ·
  rintro ⟨i,hi,e⟩
  rw [List.getD_eq_getElem?_getD,List.getElem?_eq_getElem hi] at e
  exact ⟨_,List.getElem_mem hi,e⟩
 ·
  rintro ⟨x,hx,e⟩
  obtain ⟨i,hi,e2⟩:=List.getElem_of_mem hx
  refine ⟨i,hi,?_⟩
  rw [List.getD_eq_getElem?_getD,List.getElem?_eq_getElem hi]
  simpa [e2] using e
theorem nJ:∀{ks:List Bool} {us:List Value},Vals (ks.map V.bl) us→us=ks.map Value.bool
 | [],_,.nil=>rfl
 | k::ks,_,.cons r t=>by
  have e:=nJ t
  subst e
  cases r
  rfl
theorem qg (hc:X.calm=true):fS X (.builtin "any") (fun xs H Q=>∃ (p:Addr) (ks:List Bool),xs=[.ref p]∧SqL X.K H p (ks.map V.bl)∧Q (.bl (ks.any id)) H):=by
 intro pins s σ H xs us Q I r ⟨p,ks,e,hq,q⟩
 subst e
 obtain ⟨u,rfl,r1⟩:=pM r
 cases r1
 obtain ⟨its,rv,pl,hz⟩:=I.list hq
 have e:=nJ rv
 refine call_any_walk (wpAny_pyIter_list pl.isList ?_)
 have hne:p≠s.heap.objs.size:=fun z=>by
  obtain ⟨o,n,eo,_⟩:=pl
  have:=Heap.lt_size eo
  rw [z] at this
  exact absurd this (Nat.lt_irrefl _)
 refine ⟨s.heap.objs.size,_,_,_,_,_,(fun i=>ks.getD i true),rfl,Walks.list (A:=X.A.in1) (I.ok.hd hc) _ p hne its.toArray,⟨⟨_,Heap.get?_push_size _ rfl,rfl,rfl⟩,pl.isList.at fun o eo=>Heap.get?_push_of_some _ eo⟩,sj e,fun h' tk hk=>?_⟩
 have hl:its.toArray.size=ks.length:=by rw [e];simp
 rw [hl,xI]
 refine ⟨.bl _,H,I.kept (h':=h') (t':=tk) fun b o eb=>hk b o (fun hm=>?_) (Heap.get?_push_of_some _ eb),rfl,q⟩
 have e2:b=s.heap.objs.size:=by simpa using hm
 have:=Heap.lt_size eb
 rw [e2] at this
 exact absurd this (Nat.lt_irrefl _)
theorem jB {K:PySem.W.Frag} {H:Hp}:∀{vs:List V} {ks:List Bool},Reps K H vs (ks.map D.bl)→vs=ks.map V.bl
 | [],[],_=>rfl
 | _::_,k::ks,.cons r t=>by
  cases r
  rw [jB t];rfl
 | [],_::_,r=>nomatch r
 | _::_,[],r=>nomatch r
def ED:OpN:=fun ds k=>∃ks:List Bool,ds=[.lst (ks.map D.bl)]∧k (.d (.bl (ks.any id)))
theorem EE (hc:X.calm=true):eX X (.builtin "any") ED:=eX.of (qg hc) fun σ H Pr ρ vs ds post E ps ⟨ks,e,h⟩=>by
 subst e
 obtain ⟨v,rfl,r⟩:=m7 ps
 cases r with
 | lst hz rs =>
  have e:=jB rs
  subst e
  exact ⟨_,ks,rfl,hz.l,_,E.cons_d (.bl _),h⟩
end
end L2
set_option exponentiation.threshold 2000
namespace L2
open PySem PySem.Spec PyProof.Rows
section
variable {X:Cx} {e a b c tg:Expr} {es rest:List Expr} {pos p p2 apos cpos:Pos} {ta tb tc te:W L} {x y:Str}
mutual
def a9:D→Bool
 | .int i=>decide (i.natAbs <2 ^ 1900)
 | .tup xs=>bR xs
 | .lst xs=>bR xs
 | _=>true
def bR:List D→Bool
 | []=>true
 | x::xs=>a9 x && bR xs
end
theorem Cw:(2:Nat) ^ 1900 <10 ^ 600:=by decide +kernel
theorem xJ {i:Int} (h:i.natAbs <2 ^ 1900):(PyData.shown (.int i)).length≤601:=by
 have e:=PySem.int_text_length_le10 (k:=600) (by decide) (Nat.lt_trans h Cw)
 show (Str.ofString (toString i)).length≤601
 rw [PySem.ofString_length];exact e
mutual
theorem lN:∀d:D,a9 d=true→(toP d).intsShort 601=true∧(toP d).showable=true
 | .non,_=>⟨rfl,rfl⟩
 | .bl _,_=>⟨rfl,rfl⟩
 | .str _,_=>⟨rfl,rfl⟩
 | .dct _,_=>⟨rfl,rfl⟩
 | .exc _ _ _,_=>⟨rfl,rfl⟩
 | .int i,h=>by
  have h':i.natAbs <2 ^ 1900:=by simpa only [a9,decide_eq_true_eq] using h
  refine ⟨by simp only [toP,PyData.intsShort,decide_eq_true_eq];exact xJ h',?_⟩
  simp only [toP,PyData.showable,decide_eq_true_eq]
  by_cases h0:i.natAbs=0
  ·
   rw [h0];decide
  ·
   exact (Nat.log2_lt h0).mpr (Nat.lt_of_lt_of_le h' (Nat.pow_le_pow_right (by decide) (by decide)))
 | .tup xs,h=>by
  obtain ⟨h1,h2⟩:=mq xs (by simpa only [a9] using h)
  exact ⟨by simpa only [toP,PyData.intsShort] using h1,by simpa only [toP,PyData.showable] using h2⟩
 | .lst xs,h=>by
  obtain ⟨h1,h2⟩:=mq xs (by simpa only [a9] using h)
  exact ⟨by simpa only [toP,PyData.intsShort] using h1,by simpa only [toP,PyData.showable] using h2⟩
theorem mq:∀ds:List D,bR ds=true→PyData.intsShortAll 601 (toPs ds)=true∧PyData.showableAll (toPs ds)=true
 | [],_=>⟨rfl,rfl⟩
 | d::ds,h=>by
  simp only [bR,Bool.and_eq_true] at h
  obtain ⟨h1,h2⟩:=lN d h.1
  obtain ⟨h3,h4⟩:=mq ds h.2
  exact ⟨by simp only [toPs,PyData.intsShortAll,h1,h3,Bool.and_self],by simp only [toPs,PyData.showableAll,h2,h4,Bool.and_self]⟩
end
def Cy (d:D):Str:=(toP d).shown
structure qh (d:D):Prop where
 ok:okD 40 d=true
 sh:a9 d=true
 wt:(toP d).weight≤20000
theorem qh.len {d:D} (h:qh d):(toP d).shown.length≤sizeLine:=by
 have h1:=PyData.shown_le 601 (by decide) (toP d) (PyData.leavesShort_of_canLay0 601 _ (gh 40 d h.ok).1 (lN d h.sh).1)
 have h2:=h.wt
 have e:sizeLine=16777216:=by decide
 rw [e]
 omega
def Gb:D→Bool
 | .tup _=>true
 | .lst _=>true
 | _=>false
def strD:D→Str
 | .str x=>x
 | d=>Cy d
def Gc:Op2:=fun x y k=>match x,y with
 | .str a,.str b=>k (.d (.bl (decide (a=b))))
 | _,_=>False
def m9:Op2:=fun x y k=>match x,y with
 | .str a,.str b=>k (.d (.bl (!decide (a=b))))
 | _,_=>False
theorem xK:OpD X (compareOp .NotEq) m9:=OpD.of FU fun σ H Pr ρ x y dx dy post E px py h=>by
 unfold m9 at h
 split at h
 ·
  cases px
  cases py
  rename_i a b
  refine ⟨rfl,_,E.cons_d (.bl _),?_⟩
  have e:decide (V.str a=V.str b)=decide (a=b):=by simp
  rw [e]
  exact h
 ·
  exact h.elim
def fzW (f:Fl) (o:Option L) (j:Nat) (ρ1:Ev) (post:Fl→Ev→Prop):Prop:=match f with
 | .nx=>(match o with
  | some (.own _ xs)=>post .nx (ρ1.set j (.d (.lst xs)))
  | _=>post .nx ρ1)
 | f=>post f ρ1
theorem Cz (a:Addr) (xs:List D) (j:Nat) (ρ1:Ev) (post:Fl→Ev→Prop):fzW .nx (some (.own a xs)) j ρ1 post=post .nx (ρ1.set j (.d (.lst xs))):=(rfl)
theorem Gd (x:D) (j:Nat) (ρ1:Ev) (post:Fl→Ev→Prop):fzW .nx (some (.d x)) j ρ1 post=post .nx ρ1:=(rfl)
end
end L2
namespace L2
open PySem PySem.Spec PyProof.Rows
theorem REnv.closeT {K:PySem.W.Frag} {Pr H:Hp} {σ:St} {ρ:Ev} {a:Addr} {vs:List V} {ls:List L} (hl:vs.length=ls.length) (h:SqT K H a vs) (E:REnv K Pr H (vs.map some++σ) (ls++ρ)):REnv K Pr H (some (.ref a)::σ) (.bx none ls::ρ):=by
 obtain ⟨s1,s2⟩:=Paired.unapp (by simp [hl]) E.sl
 have ow:owns (.bx none ls::ρ)=owns (ls++ρ):=by
  rw [aA,ay]
  simp only [aT,Option.toList,List.nil_append,ck]
 refine ⟨E.sub,by rw [ow];exact E.nd,fun b hb=>E.off b (by rw [← ow];exact hb),.cons ?_ s2⟩
 unfold aM
 exact ⟨a,vs,rfl,h,bz.mpr s1⟩
theorem REnv.closeO {K:PySem.W.Frag} {Pr H:Hp} {σ:St} {ρ:Ev} {a:Addr} {vs:List V} {ls:List L} (hl:vs.length=ls.length) (h:H a=some (.lst vs)) (hn:a∉owns (ls++ρ)) (hp:Pr a=none) (E:REnv K Pr H (vs.map some++σ) (ls++ρ)):REnv K Pr H (some (.ref a)::σ) (.bx (some a) ls::ρ):=by
 obtain ⟨s1,s2⟩:=Paired.unapp (by simp [hl]) E.sl
 have ow:owns (.bx (some a) ls::ρ)=a::owns (ls++ρ):=by
  rw [aA,ay]
  simp only [aT,Option.toList,List.cons_append,List.nil_append,ck]
 refine ⟨E.sub,by rw [ow];exact List.nodup_cons.mpr ⟨hn,E.nd⟩,fun b hb=>?_,.cons ?_ s2⟩
 ·
  rw [ow] at hb
  rcases List.mem_cons.mp hb with z|z
  ·
   rw [z];exact hp
  ·
   exact E.off b z
 ·
  unfold aM
  exact ⟨rfl,vs,h,bz.mpr s1⟩
section
variable {X:Cx} {e a b c tg:Expr} {es rest:List Expr} {pos p p2 apos cpos:Pos} {ta tb tc te:W L} {x y:Str}
def CA (t:W (List L)):W L:=fun ρ post=>t ρ fun ls ρ1=>ls.length≤sizeLine∧∀a,post (.bx (some a) ls) ρ1
theorem CB {bs:List (Option Nat)} {t:W (List L)} (h:PAL X es bs t):PL X (.List es pos) (CA t):=by
 intro pins s σ H Pr ρ post I E hq
 refine wpAny_List_spliced (thn (h pos pins s σ H Pr ρ _ I E hq) fun us s1 ⟨vs,H1,ls,ρ1,I1,r,hl,hb,E1,hv,z,q⟩=>?_)
 refine ⟨by rw [← r.length,hl];exact z,?_⟩
 have hf:H1 s1.heap.objs.size=none:=I1.hok.fresh (Nat.le_refl _)
 have E2:REnv X.K Pr (upd H1 s1.heap.objs.size (.lst vs)) (vs.map some++σ) (ls++ρ1):=E1.new hf
 have hn:s1.heap.objs.size∉owns (ls++ρ1):=fun z=>by
  obtain ⟨us,e,_⟩:=E1.at_own z
  rw [hf] at e;cases e
 have hp:Pr s1.heap.objs.size=none:=by
  cases q:Pr s1.heap.objs.size with
  | none=>rfl
  | some u=>rw [E1.sub _ u q] at hf;cases hf
 refine ⟨.ref s1.heap.objs.size,upd H1 s1.heap.objs.size (.lst vs),_,ρ1,I1.laid (t':=s1.toks) (fun b u e=>Heap.get?_push_of_some _ e) (Nat.le_refl _) ?_,rfl,E2.closeO hl aW hn hp,q _⟩
 exact ⟨by rw [hl];exact z,us,0,r,Heap.get?_push_size _ rfl⟩
def oj:List Nat→List L→Ev→(Ev→Prop)→Prop
 | [],[],ρ,k=>k ρ
 | i::is,l::ls,ρ,k=>oj is ls (ρ.set i l) k
 | _,_,_,_=>False
def Ge (is:List Nat) (te:W L):W Fl:=fun ρ post=>te ρ fun r ρ1=>match r with
 | .bx none ls=>oj is ls ρ1 fun ρ2=>post .nx ρ2
 | _=>False
theorem REnv.updIn {K:PySem.W.Frag} {Pr H:Hp} {σ:St} {ρ:Ev} {i j:Nat} {q:Option Addr} {ls:List L} {l:Addr} {xs ys:List D} {vs:List V} (E:REnv K Pr H σ ρ) (hi:ρ[i]?=some (.bx q ls)) (hj:ls[j]?=some (.own l xs)) (r:Reps K H vs ys) :
  REnv K Pr (upd H l (.lst vs)) σ (ρ.set i (.bx q (ls.set j (.own l ys)))):=by
 obtain ⟨sv,hs,_⟩:=E.slot hi
 have hil:i <ρ.length:=(List.getElem?_eq_some_iff.mp hi).1
 have hjl:j <ls.length:=(List.getElem?_eq_some_iff.mp hj).1
 have E1:=E.outL hi hs
 have fin:∀{H':Hp},REnv K Pr H' (sv::σ) (.bx q (ls.set j (.own l ys))::ρ.set i .un)→REnv K Pr H' σ (ρ.set i (.bx q (ls.set j (.own l ys)))):=fun E'=>by
  have:=E'.back (i:=i) (by simp [hil]) hs
  rwa [List.set_set] at this
 cases q with
 | none =>
  obtain ⟨a,us,rfl,ha,hl,E2⟩:=E1.openT
  have E3:=E2.updOwn (i:=j) (l:=l) (xs:=xs) (ys:=ys) (vs:=vs) (by rw [List.getElem?_append_left hjl];exact hj) r
  rw [List.set_append_left _ _ hjl] at E3
  obtain ⟨ws,hlw,mu⟩:=E2.at_own (a:=l) (rP (xs:=xs) (List.mem_of_getElem? (i:=j) (by rw [List.getElem?_append_left hjl];exact hj)))
  refine fin (E3.closeT (by simpa using hl) (ha.pres fun b u pu eb=>?_))
  rw [ax];exact eb
  rintro rfl
  rw [hlw] at eb;cases eb;exact mu.no pu
 | some a =>
  obtain ⟨us,rfl,ha,hl,hn,hp,E2⟩:=E1.openO
  have hlm:l∈owns (ls++ρ.set i .un):=rP (xs:=xs) (List.mem_of_getElem? (i:=j) (by rw [List.getElem?_append_left hjl];exact hj))
  have E3:=E2.updOwn (i:=j) (l:=l) (xs:=xs) (ys:=ys) (vs:=vs) (by rw [List.getElem?_append_left hjl];exact hj) r
  have ow:=kT (ρ:=ls++ρ.set i .un) (i:=j) (a:=l) (xs:=xs) (ys:=ys) (by rw [List.getElem?_append_left hjl];exact hj)
  rw [List.set_append_left _ _ hjl] at E3 ow
  have hla:l≠a:=fun z=>hn (by rw [← z];exact hlm)
  refine fin (E3.closeO (by simpa using hl) ?_ (by rw [ow];exact hn) hp)
  rw [ax (Ne.symm hla)]
  exact ha
theorem REnv.inAt {K:PySem.W.Frag} {Pr H:Hp} {σ:St} {ρ:Ev} {i j:Nat} {q:Option Addr} {ls:List L} {l:Addr} {xs:List D} (E:REnv K Pr H σ ρ) (hi:ρ[i]?=some (.bx q ls)) (hj:ls[j]?=some (.own l xs)) :
  ∃a us,σ[i]?=some (some (.ref a))∧(SqL K H a us∨SqT K H a us)∧us.length=ls.length∧us[j]?=some (.ref l)∧∃vs,H l=some (.lst vs)∧Reps K H vs xs:=by
 obtain ⟨sv,hs,sl⟩:=E.slot hi
 have key:∀(us:List V),bD K H us ls→us[j]?=some (.ref l)∧∃vs,H l=some (.lst vs)∧Reps K H vs xs:=fun us h=>by
  obtain ⟨s',e,z⟩:=Paired.get2 (bz.mp h) hj
  unfold aM at z
  obtain ⟨rfl,vs,hl,rs⟩:=z
  rw [List.getElem?_map] at e
  cases eu:us[j]? with
  | none=>rw [eu] at e;cases e
  | some u=>rw [eu] at e;cases e;exact ⟨rfl,vs,hl,rs⟩
 cases q with
 | none =>
  unfold aM at sl
  obtain ⟨a,us,rfl,ha,h⟩:=sl
  exact ⟨a,us,hs,.inr ha,h.len,key us h⟩
 | some a =>
  unfold aM at sl
  obtain ⟨rfl,us,ha,h⟩:=sl
  exact ⟨a,us,hs,.inl (SqL.of ha),h.len,key us h⟩
def inV' (i:Nat) (k:Int) (ρ:Ev) (K:Option Addr→List L→Nat→Addr→List D→Prop):Prop:=match ρ[i]? with
 | some (.bx q ls)=>∃j,ixN ls.length k=some j∧∃l xs,ls[j]?=some (.own l xs)∧K q ls j l xs
 | _=>False
theorem EF {i:Nat} {k:Int} {ρ:Ev} {K:Option Addr→List L→Nat→Addr→List D→Prop} (h:inV' i k ρ K):∃q ls j l xs,ρ[i]?=some (.bx q ls)∧ixN ls.length k=some j∧ls[j]?=some (.own l xs)∧K q ls j l xs:=by
 unfold inV' at h
 split at h
 ·
  rename_i q ls hi
  obtain ⟨j,hj,l,xs,hl,hk⟩:=h
  exact ⟨q,ls,j,l,xs,hi,hj,hl,hk⟩
 ·
  exact h.elim
theorem CC:IxR X (fun x y H Q=>∃p vs i w,x=.ref p∧y=.int i∧(SqL X.K H p vs∨SqT X.K H p vs)∧atI vs i=some w∧Q w H):=by
 intro a b pins s σ H x y v u Q I rx ry h hp
 obtain ⟨p,vs,i,w,e1,e2,hq,hw,q⟩:=h
 rcases hq with hq|hq
 ·
  exact rO a b pins s σ H x y v u Q I rx ry ⟨p,vs,i,w,e1,e2,hq,hw,q⟩ hp
 ·
  exact Bf a b pins s σ H x y v u Q I rx ry ⟨p,vs,i,w,e1,e2,hq,hw,q⟩ hp
def isBx (i:Nat) (ρ:Ev):Prop:=match ρ[i]? with
 | some (.bx _ _)=>True
 | _=>False
theorem CD {i:Nat} {ρ:Ev} (h:isBx i ρ):∃q ls,ρ[i]?=some (.bx q ls):=by
 unfold isBx at h
 split at h
 ·
  rename_i q ls e;exact ⟨q,ls,e⟩
 ·
  exact h.elim
theorem Gf {α:Type} {us:List α} {n j:Nat} {k:Int} {w:α} (hn:us.length=n) (hj:ixN n k=some j) (hw:us[j]?=some w):atI us k=some w:=by
 unfold atI
 rw [hn,hj]
 exact hw
theorem in0 {f:List D→(L→List D→Prop)→Prop} {σ:St} {H Pr:Hp} {ρ:Ev} {post:L→Ev→Prop} {i:Nat} {r0:V→List V→Hp→VK→Prop} (E:REnv X.K Pr H σ ρ) (h:isBx i ρ∧tb ρ fun r ρ1=>jt r fun k=>ρ1=ρ∧inV' i k ρ fun q ls j l xs=>f xs fun z ys=>post z (ρ.set i (.bx q (ls.set j (.own l ys)))))
  (hr:∀(H2:Hp) (l:Addr) (vs:List V) (xs:List D) (K:L→List D→Prop) (Q:VK),H2 l=some (.lst vs)→Reps X.K H2 vs xs→f xs K→(∀v z us ys,Reps X.K H2 us ys→(∃d,z=.d d∧Rep X.K (upd H2 l (.lst us)) v d)→K z ys→Q v (upd H2 l (.lst us)))→r0 (.ref l) [] H2 Q) :
  (tBM0 X.K "list" r0 (tOp (fun x y H Q=>∃ p vs i w,x=.ref p∧y=.int i∧(SqL X.K H p vs∨SqT X.K H p vs)∧atI vs i=some w∧Q w H) (tVar i) (tL X.K tb))) σ H fun v H'=>∃ r ρ',REnv X.K Pr H' (some v::σ) (r::ρ')∧post r ρ':=by
 obtain ⟨hbx,h⟩:=h
 obtain ⟨q,ls,hi⟩:=CD hbx
 obtain ⟨a,hσ⟩:∃a,σ[i]?=some (some (.ref a)):=by
  obtain ⟨sv,hs,sl⟩:=E.slot hi
  cases q with
  | none=>unfold aM at sl;obtain ⟨a,_,rfl,_⟩:=sl;exact ⟨a,hs⟩
  | some a=>unfold aM at sl;obtain ⟨rfl,_⟩:=sl;exact ⟨a,hs⟩
 refine ⟨.ref a,hσ,Pr,ρ,_,E,h,fun v H2 r ρ1 E2 pp=>?_⟩
 obtain ⟨k,rfl,rfl,pp⟩:=cM pp
 obtain ⟨_,e1,p1⟩:=E2.head_d
 cases e1
 cases p1
 obtain ⟨q',ls',j,l,xs,hi',hj,hl,pp⟩:=EF pp
 rw [hi] at hi'
 cases hi'
 obtain ⟨a',us,hσ',hsq,hul,huj,vs,hlv,rs⟩:=E2.tail.inAt hi hl
 rw [hσ] at hσ'
 cases hσ'
 refine ⟨a,us,k,.ref l,rfl,rfl,hsq,Gf hul hj huj,.inl ⟨rfl,vs,SqL.of hlv⟩,?_⟩
 refine hr H2 l vs xs _ _ hlv rs pp fun v z ws ys rw' ⟨d,ez,rz⟩ hk=>?_
 subst ez
 exact ⟨_,_,(E2.tail.updIn hi hl rw').cons_d rz,hk⟩
def om (i:Nat) (tk:W L):W L:=fun ρ post=>isBx i ρ∧tk ρ fun r ρ1=>jt r fun k=>ρ1=ρ∧inV' i k ρ fun q ls j l _=>post (.d .non) (ρ.set i (.bx q (ls.set j (.own l []))))
theorem vN (i:Nat) (hb:PL X b tb) (hp:nW b) (hN:X.N[i]?=some x:=by rfl) (hv:Vis X.env.scope x:=by first | exact Or.inl rfl | exact Or.inr (Or.inl rfl) | exact Or.inr (Or.inr rfl)) (hd:(x == ("__debug__" : Str))=false:=by decide)
  (hcd:(x == ("__classdict__" : Str))=false:=by decide) (hbase:attributeBase (.Subscript (.Name x p) b p2) "clear" X.env (eval (.Subscript (.Name x p) b p2) X.env)=eval (.Subscript (.Name x p) b p2) X.env:=by rfl)
  (hline:(apos.endLine == cpos.line)=true:=by rfl):PL X (.Call (.Attribute (.Subscript (.Name x p) b p2) "clear" apos) [] [] cpos) (om i tb):=by
 refine PL.of (Ea PySem.F.plainAttrs_list PySem.F.slot_list_clear PySem.F.type_list_clear zF (D7 CC (dB hN hv hd hcd) hb.pe hp) (hbase:=hbase) (hline:=hline)) fun σ H Pr ρ post E h=>?_
 refine in0 (f:=fun _ K=>K (.d .non) []) E h fun H2 l vs xs K Q hl rs hf hk=>?_
 exact ⟨l,vs,rfl,rfl,hl,hk .non (.d .non) [] [] .nil ⟨.non,rfl,.non⟩ hf⟩
end
end L2
namespace L2
open PySem PySem.Spec PyProof.Rows
section
variable {X:Cx} {pins:List (Addr×Obj)} {σ:St} {H Pr:Hp} {s:Shared} {ρ:Ev} {pos p1 p2:Pos}
theorem Inv.past (I:Inv X pins σ H s):(s.heap.objs.size == sysModules)=false:=by
 have h:mainGlobals <s.heap.objs.size:=(I.mod.glob.keeps I.bk).lt
 exact beq_eq_false_iff_ne.mpr (Ne.symm (Nat.ne_of_lt (Nat.lt_trans (by decide) h)))
end
end L2
namespace L2
open PySem PySem.Spec PyProof.Rows
structure FX (K:PySem.W.Frag) (mg:Str→Option Value) (g:Str) (st:Stmt) (a:Addr) (fd:FuncData) (P:List Str):Prop where
 f:Fun K g g st a fd
 b:ka K fd P []
 m:mg g=some (.ref a)
abbrev fdM (g:Str) (st:Stmt) (md:Value) (c:Nat):FuncData:=PySem.W.fnOf g g (fT st) (dC st) (aq st) .none .none .none md none (.ref c) .none
theorem FX.mk' {K:PySem.W.Frag} {mg:Str→Option Value} {h:Heap} (X:K.In h) (G:h.Ns mainGlobals mg) {g:Str} {st:Stmt} {a:Addr} {c:Nat} {md:Value} {P:List Str} (e1:PySem.W.nsIn K mainGlobals g=some (some (.ref a)))
  (e2:K.lookup a=some ⟨.type "function",none,.func (fdM g st md c),#[]⟩) (e3:PySem.W.codeIn K (.ref c) g=true) (e4:PySem.W.keepIn K (.ref a)=true)
  (e5:∀(kV doc pm:Value) (an:Option Addr) (cdv ct:Value) (us:List Value),us.length=P.length→bindArgs (PySem.W.fnOf g g (fT st) (dC st) (aq st) .none kV doc pm an cdv ct) ⟨us,[]⟩=pure (P.zip us)):FX K mg g st a (fdM g st md c) P :=
 ⟨nC e2 e3 e4,(nC e2 e3 e4).binds e5,PySem.W.mg_of X G e1⟩
section
variable {X:Cx} {k k' n:Nat} {f:Addr} {fd:FuncData} {ps:List Str} {fs:FS} {g:Str} {st:Stmt} {e:Expr} {es:List Expr} {bs:List (Option Nat)} {t:W (List L)} {p pos:Pos}
theorem aU (F:FnOk X.prog X.w X.K X.mg X.base CX0 k f fd ps (spF X.K n fs)) (T:FX X.K X.mg g st f fd ps) (hr:Room k' X.A) (ha:PAL X (e::es) bs t) (hk:k≤k':=by decide) (hg:Gl X g:=by rfl) (hn:bs.length=n:=by rfl) (hdb:(g == ("__debug__" : Str))=false:=by decide) (he:starEach (e::es) X.env=(false,eval e X.env)::starEach es X.env:=by rfl) (hpl:(backTo pos (starEach es X.env)).any (·.1)=false:=by rfl) :
  PL X (.Call (.Name g p) (e::es) [] pos) (aP fs t):=B8 F (hr.mono hk) hg T.m T.f.kp T.b B0 ha hn hdb he hpl
theorem bc (F:FnOk X.prog X.w X.K X.mg X.base CX0 k f fd ps (spF X.K n fs)) (T:FX X.K X.mg g st f fd ps) (hr:Room k' X.A) (j i:Nat) (ha:PAL X (e::es) bs t) (hk:k≤k':=by decide) (hg:Gl X g:=by rfl) (hj:bs[j]?=some (some i):=by rfl) (hn:bs.length=n:=by rfl) (hdb:(g == ("__debug__" : Str))=false:=by decide) (he:starEach (e::es) X.env=(false,eval e X.env)::starEach es X.env:=by rfl) (hpl:(backTo pos (starEach es X.env)).any (·.1)=false:=by rfl) :
  PL X (.Call (.Name g p) (e::es) [] pos) (aZ fs j i t):=zQ F (hr.mono hk) hg T.m T.f.kp T.b B0 j i ha hj hn hdb he hpl
end
end L2
namespace L2
open PySem PySem.Spec PyProof.Rows
section
variable {X:Cx}
end
end L2
namespace L2
open PySem PySem.Spec PyProof.Rows
mutual
def depD:D→Nat
 | .tup xs=>sq xs+1
 | .lst xs=>sq xs+1
 | _=>0
def sq:List D→Nat
 | []=>0
 | x::xs=>max (depD x) (sq xs)
end
theorem uz {n:Nat}:∀{xs:List D},(∀x∈xs,depD x≤n)→sq xs≤n
 | [],_=>Nat.zero_le _
 | y::ys,h=>by
  simp only [sq]
  have:=h y List.mem_cons_self
  have:=uz (xs:=ys) fun x hx=>h x (List.mem_cons_of_mem _ hx)
  omega
section
variable {X:Cx} {a:Expr} {pos p:Pos} {ta:W L}
theorem xM {h:Heap} {a:Addr} {its:Array Value} (z:IsTup h a its):∃ dd n sl,h.get? a=some ⟨.type "tuple",dd,.seq its n,sl⟩:=by
 obtain ⟨o,e,c,n,d⟩:=z
 obtain ⟨c',dd,dt,sl⟩:=o
 cases c
 cases d
 exact ⟨dd,n,sl,e⟩
theorem xN {pins:List (Addr×Obj)} {σ:St} {H:Hp} {s:Shared} {x:V} {u:Value} {d:D} {b:Bool} {tp:Addr} {its:List Value} {Q:Value→Shared→Prop} {A:Around} {E:Value→Shared→Prop} (I:Inv X pins σ H s) (rx:RelV x u) (r:Rep X.K H x d) (ht:IsTup s.heap tp its.toArray)
  (e:∀ t,TyD X.K d t→PySem.W.kitAny X.K t its=some b) (h:∀ tk,Q (.bool b) { s with toks:=tk }):wpAny (model X.prog X.w) A (call (.builtin "isinstance") [u,.ref tp]) Q E s:=by
 obtain ⟨dd,n,sl,ht⟩:=xM ht
 cases r with
 | non=>cases rx;exact PySem.W.kia_tup PySem.W.kitx_none I.kIn True.intro ht (e _ rfl) (fun z=>nomatch z) h
 | bl y=>cases rx;exact PySem.W.kia_tup PySem.W.kitx_bool I.kIn True.intro ht (e _ rfl) (fun z=>nomatch z) h
 | int i=>obtain ⟨t,rfl⟩:=rx;exact PySem.W.kia_tup PySem.W.kitx_int I.kIn True.intro ht (e _ rfl) (fun z=>nomatch z) h
 | str y=>obtain ⟨t,rfl⟩:=rx;exact PySem.W.kia_tup PySem.W.kitx_str I.kIn True.intro ht (e _ rfl) (fun z=>nomatch z) h
 | lst hz rs =>
  cases rx
  obtain ⟨its',_,⟨o,n',e1,c1,_,_⟩,_⟩:=I.list hz.l
  exact PySem.W.kia_tup PySem.W.kitx_list I.kIn ⟨o,e1,c1⟩ ht (e _ rfl) (fun z=>nomatch z) h
 | tup hz rs =>
  cases rx
  obtain ⟨its',_,⟨o,e1,c1,_⟩,_⟩:=I.tuple hz
  exact PySem.W.kia_tup PySem.W.kitx_tuple I.kIn ⟨o,e1,c1⟩ ht (e _ rfl) (fun z=>nomatch z) h
 | @dct a' o kvs hz =>
  cases rx
  obtain ⟨_,_,_,vs,_,o',es,ep,h1,h2,_⟩:=(show cQ X.prog X.w H s.heap a' (.frz o (.dK kvs)) from I.hok a' _ hz)
  exact PySem.W.kia_tup PySem.W.kitx_dict I.kIn ⟨o',h1,h2.1⟩ ht (e _ rfl) (fun z=>nomatch z) h
 | @exc a o u cc C ns vs ds h1 hv hc hn hs hq hf rs =>
  cases rx
  obtain ⟨od,Ia,_⟩:=n5 I h1 hc hn hf
  obtain ⟨LL,cd,S⟩:=cS hs
  exact PySem.W.kia_tup (uc S) I.kIn ⟨_,_,Ia⟩ ht (e _ ⟨C,rfl,hs⟩) (fun z=>nomatch z) h
end
end L2
namespace L2
open PySem PySem.Spec PyProof.Rows PySem.Builtin.Str
inductive Sk where
 | l|t
section
variable {prog:Program} {w:World} {A:Around} {E:Value→Shared→Prop} {s:Shared}
end
abbrev Zi:=Sk×Addr×Addr
section
variable {prog:Program} {w:World} {A:Around} {E:Value→Shared→Prop} {s:Shared} {z I O:Addr} {js:List Zi} {i:Nat}
end
end L2
namespace L2
open PySem PySem.Spec PyProof.Rows PySem.Builtin.Str
def Sk.nm:Sk→String
 | .l=>"list_iterator"
 | .t=>"tuple_iterator"
section
variable {prog:Program} {w:World} {A:Around} {E:Value→Shared→Prop} {s:Shared}
end
end L2
namespace L2
open PySem PySem.Spec PyProof.Rows PySem.Builtin.Str
section
variable {X:Cx} {pins:List (Addr×Obj)} {σ:St} {H:Hp} {s:Shared}
end
section
variable {prog:Program} {w:World} {A:Around} {E:Value→Shared→Prop} {s:Shared}
end
section
variable {X:Cx} {a b:Expr} {es:List Expr} {pos p apos:Pos}
end
end L2
namespace L2
open PySem PySem.Spec PyProof.Rows PySem.Builtin.Str
section
variable {prog:Program} {w:World} {A:Around} {E:Value→Shared→Prop} {s:Shared}
end
section
variable {X:Cx} {a b c:Expr} {es:List Expr} {pos p apos:Pos}
end
end L2
namespace L2
open PySem PySem.Spec PyProof.Rows PySem.Builtin.Str
section
variable {prog:Program} {w:World} {A:Around} {E:Value→Shared→Prop} {s:Shared} {z I O:Addr} {js:List Zi} {i:Nat}
end
end L2
namespace L2
open PySem PySem.Spec PyProof.Rows PySem.Builtin.Str
section
variable {prog:Program} {w:World} {A:Around} {s:Shared} {R:Result→Shared→Prop} {z I O S:Addr} {js:List Zi}
end
section
variable {prog:Program} {w:World} {A:Around} {E:Value→Shared→Prop} {s:Shared} {z I O:Addr} {js:List Zi}
end
end L2
namespace L2
open PySem PySem.Spec PyProof.Rows PySem.Builtin.Str
section
variable {K:PySem.W.Frag} {Pr H H':Hp} {σ:St} {ρ:Ev}
end
section
variable {X:Cx} {pins:List (Addr×Obj)} {σ:St} {H:Hp} {s:Shared}
end
end L2
namespace L2
open PySem PySem.Spec PyProof.Rows PySem.Builtin.Str
section
variable {X:Cx} {a b:Expr} {es:List Expr} {pos p pos0 p0:Pos}
end
end L2
namespace L2
open PySem PySem.Spec PyProof.Rows PySem.Builtin.Str
section
variable {prog:Program} {w:World} {A:Around} {E:Value→Shared→Prop} {s:Shared}
end
section
variable {X:Cx} {es:List Expr} {pos:Pos}
variable {e tg:Expr} {te:W L}
end
end L2
namespace L2
open PySem PySem.Spec PyProof.Rows PySem.Builtin.Str
section
variable {X:Cx} {a tg:Expr} {es:List Expr} {pos p:Pos}
end
end L2
namespace L2
open PySem PySem.Spec PyProof.Rows
section
variable {X:Cx} {e:Expr} {pos:Pos} {t:W Fl}
end
end L2
namespace L2
open PySem PySem.Spec PyProof.Rows PySem.W
def CF (K:Frag) (C fI:Addr):Bool:=(match K.lookup C with
 | some ⟨.type "type",_,.cls cd,sl⟩=>(match cd.mro,sl.toList with
  | .ref C'::bm,[_,_,_,_,some (.builtin n),_]=>C' == C && n == "ValueError.__new__" && !cd.hasDel && bm.contains (.type "ValueError") && !(bm.contains (.type "AttributeError")) && !(bm.contains (.type "NameError"))
  | _,_=>false)
 | _=>false) && findIn K (.ref C) "__init__" == some (some (.ref fI)) && typeIn K (.ref fI) == some (.type "function")
structure XMk (K:Frag) (C fI:Addr):Prop where
 ex:∃ nm q N bs bm hdct sn sub ab col dd k0 k1 k2 k3 k5,K.lookup C=some (excClassObj nm q C N bs bm hdct sn sub ab col dd k0 k1 k2 k3 k5 "ValueError.__new__")∧bm.contains (.type "ValueError")=true∧bm.contains (.type "AttributeError")=false∧bm.contains (.type "NameError")=false
 init:findIn K (.ref C) "__init__"=some (some (.ref fI))
 fn:typeIn K (.ref fI)=some (.type "function")
theorem EG {K:Frag} {C fI:Addr} (h:CF K C fI=true):XMk K C fI:=by
 unfold CF at h
 simp only [Bool.and_eq_true,beq_iff_eq] at h
 obtain ⟨⟨h,h1⟩,h2⟩:=h
 refine ⟨?_,h1,h2⟩
 split at h
 ·
  rename_i dd cd sl ho
  split at h
  ·
   rename_i C' bm k0 k1 k2 k3 n k5 hm hs
   simp only [Bool.and_eq_true,beq_iff_eq,Bool.not_eq_true'] at h
   obtain ⟨⟨⟨⟨⟨rfl,rfl⟩,hdel⟩,e1⟩,e2⟩,e3⟩:=h
   obtain ⟨nm,bs,mro,ns,qn,hd,sn,sub,ab,col,del⟩:=cd
   dsimp only at hm hdel
   subst hm hdel
   obtain ⟨l⟩:=sl
   simp only at hs
   subst hs
   exact ⟨nm,qn,ns,bs,bm,hd,sn,sub,ab,col,dd,k0,k1,k2,k3,k5,ho,e1,e2,e3⟩
  ·
   cases h
 ·
  cases h
section
variable {prog:Program} {w:World} {A:Around} {E:Value→Shared→Prop} {h:Heap} {g:Array GenState} {d:Drawn} {t:Nat} {os:OsState}
variable {nm q:Str} {C N:Addr} {bs bm:List Value} {hdct:Bool} {sn:List Str} {sub:List Value} {ab:Bool} {col:Option Bool} {dd:Option Addr} {k0 k1 k2 k3 k5:Option Value}
theorem vO {M:Model} {rest:List Value} {Q:Unit→Shared→Prop} (hC:h.get? C=some (excClassObj nm q C N bs bm hdct sn sub ab col dd k0 k1 k2 k3 k5 "ValueError.__new__")) (hv:bm.contains (.type "ValueError")=true)
  (hq:Q () ⟨h,g,d,t,os⟩):wpAny M A (checkBuiltinCall "ValueError.__new__" ⟨.ref C::rest,[]⟩) Q E ⟨h,g,d,t,os⟩:=by
 have FB:=F.excBase_ValueError
 have hb:(Value.ref C::bm).contains (.type "ValueError")=true:=by rw [List.contains_cons,hv,Bool.or_true]
 have hst:=FB.noStar
 simp only [checkBuiltinCall,FB.newKind,FB.newSplit,FB.newRow]
 repeat (first|refine wpAny_loadPart_at hC ?_|(refine wpAny_isSubtype_exc hC ?_;rw [hb])|refine wpAny_staticBase_exc hC ?_|refine wpAny_madeBy_exc hC ?_|simp only [bne_self_eq_false,Bool.false_eq_true,if_false] | wp_step)
 exact hq
theorem Aa {rest:List Value} {R:Result→Shared→Prop} (hC:h.get? C=some (excClassObj nm q C N bs bm hdct sn sub ab col dd k0 k1 k2 k3 k5 "ValueError.__new__")) (hv:bm.contains (.type "ValueError")=true) (ha:bm.contains (.type "AttributeError")=false) (hn:bm.contains (.type "NameError")=false)
  (hz:rest.length≤sizeLine) (hq:R (.ok (.ret (.ref (h.objs.size+1)))) ⟨(h.push { cls:=.type "tuple",data:=.seq rest.toArray }).push { cls:=.ref C,data:=.fields #[.ref h.objs.size,.none,.none,.none,.bool false,.none] },g,d,t,os⟩) :
  codeAny (model prog w) A (.builtin "ValueError.__new__" ⟨.ref C::rest,[]⟩) R ⟨h,g,d,t,os⟩:=by
 have FB:=F.excBase_ValueError
 have hends:=FB.ends
 have c1:(Value.ref C::bm).contains (.type "ValueError")=true:=by rw [List.contains_cons,hv,Bool.or_true]
 have c2:(Value.ref C::bm).contains (.type "AttributeError")=false:=by rw [List.contains_cons,ha]; rfl
 have c3:(Value.ref C::bm).contains (.type "NameError")=false:=by rw [List.contains_cons,hn]; rfl
 refine codeAny_builtinAt FB.entry ?_
 unfold Builtin.«BaseException.__new__»
 refine PySem.wpAt_bind ?_
 show PySem.wpAt _ _ _ (stack >>= _) _ _ _
 refine PySem.wpAt_bind (PySem.wpAt_stack fun p below=>PySem.wpAt_of_wpAny ?_)
 wp_walk
 refine PySem.wpAt_of_wpAny ?_
 rw [FB.owner]
 repeat (first|with_reducible refine wpAny_madeHere_exc FB.canon hC ?_|with_reducible refine wpAny_loadPart_at hC ?_|(with_reducible refine wpAny_isSubtype_exc hC ?_;first|rw [c1] | rw [c2] | rw [c3])|wp_step)
 show R _ _
 rw [Heap.size_push]
 exact hq
theorem Gg {K:Frag} {fI:Addr} {rest:List Value} {Q:Value→Shared→Prop} (X:K.In h) (M:XMk K C fI) (hz:rest.length≤sizeLine)
  (hq:∀ h' e,Heap.MadeExcOf h h' e (.ref C) rest→h.objs.size≤e→wpAny (model prog w) (A.under (.builtin "type.__call__" ⟨.ref C::rest,[]⟩)) (call (.ref fI) (.ref e::rest)) (fun r s'=>r=.none∧Q (.ref e) s') E ⟨h',g,d,t,os⟩) :
  wpAny (model prog w) A (call (.ref C) rest) Q E ⟨h,g,d,t,os⟩:=by
 obtain ⟨nm,q,N,bs,bm,hdct,sn,sub,ab,col,dd,k0,k1,k2,k3,k5,hK,b1,b2,b3⟩:=M.ex
 have hC:=X _ _ hK
 have FB:=F.excBase_ValueError
 have f1:=tc_lookup
 have f2:=tc_bind (.ref C)
 have hT:(⟨h,g,d,t,os⟩:Shared).TypeIs (.ref C) "type":=⟨_,hC,rfl⟩
 refine wpAny_call (codeAny_of_tree ?_)
 show wpAny _ _ (callAny (.ref C) _) _ _ _
 repeat (any_goals (first|assumption|with_reducible refine wpAny_loadPart_at hC ?_|wp_step))
 refine ⟨rfl,?_⟩
 refine codeAny_call_builtin_at (Code.quiet_builtin _ (by decide +kernel)) entry_typeCall (wpAny_check_type_call_sub hC ?_)
 repeat (first|with_reducible refine wpAny_loadPart_at hC ?_|with_reducible refine wpAny_madeBy_exc hC ?_|wp_step)
 refine codeAny_call_builtin_code (Code.quiet_builtin _ FB.quiet) (vO hC b1 ?_)
 refine Aa hC b1 b2 b3 hz ?_
 have kp:∀ b o,h.get? b=some o→((h.push { cls:=.type "tuple",data:=.seq rest.toArray }).push { cls:=.ref C,data:=.fields #[.ref h.objs.size,.none,.none,.none,.bool false,.none] }).get? b=some o:=fun b o e=>Heap.get?_push_of_some _ (Heap.get?_push_of_some _ e)
 have hC1:=kp _ _ hC
 have X1:K.In _:=X.keeps kp
 have hg:((h.push { cls:=.type "tuple",data:=.seq rest.toArray }).push { cls:=.ref C,data:=.fields #[.ref h.objs.size,.none,.none,.none,.bool false,.none] }).get? (h.objs.size+1)=some { cls:=.ref C,data:=.fields #[.ref h.objs.size,.none,.none,.none,.bool false,.none] }:=by heap_get
 have cC:(Value.ref C::bm).contains (.ref C)=true:=by simp
 show wpAny _ _ _ _ _ ⟨(h.push { cls:=.type "tuple",data:=.seq rest.toArray }).push { cls:=.ref C,data:=.fields #[.ref h.objs.size,.none,.none,.none,.bool false,.none] },g,d,t,os⟩
 unfold isInstance
 repeat (first|with_reducible refine wpAny_loadPart_at hg ?_|(with_reducible refine wpAny_isSubtype_exc hC1 ?_;rw [cC])|wp_step)
 have L1:=looks_findIn (M:=model prog w) X1 M.init
 have L2:=bind_fn (M:=model prog w) X1 (.ref (h.objs.size+1)) M.fn
 show wpAny _ _ (typeLookup (.ref C) _) _ _ _
 refine L1.at (wpAny_holding (wpAny_bind (L2.at ?_)))
 refine wpAny_bind (wpAny_mono (hq _ (h.objs.size+1) ⟨kp,Heap.get?_none_of_le (Nat.le_succ _),h.objs.size,hg,Heap.get?_none_of_le (Nat.le_refl _),Heap.get?_push_of_some _ (Heap.get?_push_at rfl rfl)⟩ (Nat.le_succ _)) (fun r s' hr=>?_) fun _ _ x=>x)
 obtain ⟨rfl,hQ⟩:=hr
 wp_walk
 exact hQ
end
end L2
namespace L2
open PySem PySem.Spec PyProof.Rows PySem.W
section
variable {prog:Program} {w:World} {A:Around} {E:Value→Shared→Prop} {s:Shared} {K:Frag} {c:Str} {C L:Addr} {cd:ClassData} {env:Env}
structure Fly (h:Heap) (e:Addr) (cls:Value) (dx T:Option Addr):Prop where
 ex:∃vs sl,h.get? e=some ⟨cls,dx,.fields vs,sl⟩∧1 <vs.size∧(match T with
  | none=>vs[1]?=some .none
  | some t=>vs[1]?=some (.ref t)∧t≠e∧∃ot ts,h.get? t=some ot∧ot.data=.fields ts∧ts[3]?=some .none)
theorem EH {x:Sem Value} {Q:Flow→Shared→Prop} (S:XStd K c C L cd) (hh:A.handled=none)
  (h:wpAny (model prog w) A x (fun v s1=>∃e dx,v=.ref e∧K.In s1.heap∧Fly s1.heap e (.ref C) dx none∧E (.ref e) s1) E s):wpAny (model prog w) A (raiseStmt env (some x) none) Q E s:=by
 unfold raiseStmt
 refine wpAny_bind (wpAny_mono h (fun v s1 h1=>?_) fun _ _ z=>z)
 obtain ⟨e,dx,rfl,X,⟨vs,sl,he,hz,h1⟩,hE⟩:=h1
 obtain ⟨hp,g,d,tk,os⟩:=s1
 have h1:vs[1]?=some .none:=h1
 have he:hp.get? e=some ⟨.ref C,dx,.fields vs,sl⟩:=he
 obtain ⟨oc,odc,slc,hK⟩:=l9 S.cls
 have hC:hp.get? C=some ⟨oc,odc,.cls cd,slc⟩:=X _ _ hK
 have hoc:oc=.type "type":=by
  have z:(K.lookup C).map (·.cls)=some (.type "type"):=S.ty
  rw [hK] at z
  exact Option.some.inj z
 subst hoc
 have Lb:=S.isT (M:=model prog w) X "BaseException"
 have eb:(["ValueError","Exception","BaseException","object"]:List String).contains "BaseException"=true:=by decide
 rw [eb] at Lb
 repeat (first|with_reducible refine wpAny_loadPart_at he ?_|with_reducible refine wpAny_loadPart_at hC ?_|with_reducible refine Lb.at ?_|with_reducible refine wpAny_field he rfl h1 ?_|wp_step)
 exact wpAny_raiseNew_none hh hE
theorem EJ {base:Heap} {outer:List Env} {F e:Addr} {cls:Value} {dx T:Option Addr} {Q:Unit→Shared→Prop}
  (hfr:A.frames=some (env::outer)) (hl:s.heap.FunFrames base (env::outer)) (hf:env.frame=some F) (fl:Fly s.heap e cls dx T)
  (hq:∀h' T',Fly h' e cls dx (some T')→s.heap.objs.size≤T'→(∀b o,b≠e→some b≠T→b∉frs (env::outer)→s.heap.get? b=some o→h'.get? b=some o) →
   (∀b o,b≠e→some b≠T→s.heap.get? b=some o→∃sl,h'.get? b=some { o with slots:=sl })→Q () { s with heap:=h' }) :
  wpAny (model prog w) A (noteFrame (.ref e) env) (fun _ s2=>wpAny (model prog w) A (setFlight (.ref e) none) Q E s2) E s:=by
 obtain ⟨vs,sl,he,hz,hT⟩:=fl
 have nof:∀b o vs',s.heap.get? b=some o→o.data=.fields vs'→b∉frs (env::outer):=fun b o vs' hb hd hm=>by
  obtain ⟨_,o',ho',hn'⟩:=hl.mem hm
  rw [hb] at ho';cases ho'
  exact hn' _ hd
 have entry:∀(s1:Shared) (vs1:Array Value) (head:Value) (hn:Bool),s1.heap.get? e=some ⟨cls,dx,.fields vs1,sl⟩→1 <vs1.size→s1.heap.FunFrames base (env::outer) →
   (∀b o,b≠e→some b≠T→s.heap.get? b=some o→s1.heap.get? b=some o)→s1.heap.objs.size=s.heap.objs.size→s1={ s with heap:=s1.heap } →
   wpAny (model prog w) A (do let a ← frameOf env;let pl ← entryPlaceOf F hn;let b ← EntryCells.newEntry head a .none (rawInt F) .none pl;setField (.ref e) 1 b) (fun _ s2=>wpAny (model prog w) A (setFlight (.ref e) none) Q E s2) E s1:=by
  intro s1 vs1 head hn he1 hz1 hl1 kp sz es
  have nof1:∀b o vs',s1.heap.get? b=some o→o.data=.fields vs'→b∉frs (env::outer):=fun b o vs' hb hd hm=>by
   obtain ⟨_,o',ho',hn'⟩:=hl1.mem hm
   rw [hb] at ho';cases ho'
   exact hn' _ hd
  refine wpAny_bind (wpAny_frameOf_fun hfr hl1 hf fun h1 hs1=>?_)
  refine wpAny_bind (wpAny_entryPlaceOf fun pl hpl=>?_)
  unfold EntryCells.newEntry newFields
  refine wpAny_bind (wpAny_newObj_type ?_ (hpl.sizeOk5 _ _ _ _ _))
  generalize hob:({ cls:=.type "traceback",dict:=none,data:=.fields ([head,Value.ref F,.none,rawInt F,.none]++(if pl.isEmpty then List.replicate 6 Value.none else pl)).toArray }:Obj)=ob
  have hod:∃ts,ob.data=.fields ts∧3 <ts.size:=by
   subst hob
   exact ⟨_,rfl,by simp only [List.size_toArray,List.length_append,List.length_cons,List.length_nil];omega⟩
  obtain ⟨ts,hod,hts⟩:=hod
  have he2:h1.get? e=some ⟨cls,dx,.fields vs1,sl⟩:=(hs1.2.1 e (nof1 _ _ _ he1 rfl)).trans he1
  have he3:=Heap.get?_push_of_some (h:=h1) ob he2
  have ne:h1.objs.size≠e:=Nat.ne_of_gt (Heap.lt_size he2)
  refine wpAny_setField he3 rfl hz1 ?_
  have he4:=Heap.get?_update_self (Obj.mapFields (·.setIfInBounds 1 (Value.ref h1.objs.size))) he3 rfl
  have hT4:=(Heap.get?_update_other (h1.push ob) (Obj.mapFields (·.setIfInBounds 1 (Value.ref h1.objs.size))) (Ne.symm ne)).trans (Heap.get?_push_size h1 (by obtain ⟨_,_,dt,_⟩:=ob;cases hod;rfl))
  unfold setFlight
  refine wpAny_bind (wpAny_field he4 rfl (x:=.ref h1.objs.size) (by simp [hz1]) ?_)
  rw [if_pos (show (Value.ref h1.objs.size != Value.none)=true from by simp)]
  refine wpAny_setField hT4 hod hts ?_
  rw [es]
  have keep:∀b o,b≠e→h1.get? b=some o→(((h1.push ob).update e (Obj.mapFields (·.setIfInBounds 1 (Value.ref h1.objs.size)))).update h1.objs.size (Obj.mapFields (·.setIfInBounds 3 ((none:Option Addr).elim Value.none fun f=>rawInt f)))).get? b=some o:=fun b o hb e1=>by
   rw [Heap.get?_update_other _ _ (Nat.ne_of_gt (Heap.lt_size e1)),Heap.get?_update_other _ _ (Ne.symm hb)]
   exact Heap.get?_push_of_some _ e1
  refine hq _ h1.objs.size ⟨vs1.setIfInBounds 1 (.ref h1.objs.size),sl,?_,by simpa using hz1,by simp [hz1],ne,_,_,Heap.get?_update_self _ hT4 (Obj.isFreed_of_fields (Obj.data_mapFields hod _)),Obj.data_mapFields hod _,by simp [hts]⟩ ?_ (fun b o hb hbT hbf e1=>?_) fun b o hb hbT e1=>?_
  ·
   rw [Heap.get?_update_other _ _ ne];exact he4
  ·
   rw [hs1.1,sz];exact Nat.le_refl _
  ·
   exact keep b o hb ((hs1.2.1 b hbf).trans (kp b o hb hbT e1))
  ·
   obtain ⟨sl',e2⟩:=hs1.2.2 b o (kp b o hb hbT e1)
   exact ⟨sl',keep b _ hb e2⟩
 unfold noteFrame
 simp only [hf]
 cases T with
 | none =>
  refine wpAny_bind (wpAny_field he rfl hT ?_)
  rw [if_neg (by decide)]
  exact entry s vs .none _ he hz hl (fun _ _ _ _ e1=>e1) rfl rfl
 | some t =>
  obtain ⟨h1,hte,ot,ts,ht,hdt,h3⟩:=hT
  refine wpAny_bind (wpAny_field he rfl h1 ?_)
  rw [if_pos (show (Value.ref t != Value.none)=true from by simp)]
  refine wpAny_bind (wpAny_field ht hdt h3 ?_)
  rw [if_neg (show ¬((Value.none == rawInt F)=true) from by simp [rawInt])]
  refine wpAny_bind (wpAny_setField ht hdt (Array.getElem?_eq_some_iff.mp h3).1 ?_)
  have oth:∀b,b≠t→(s.heap.update t (Obj.mapFields (·.setIfInBounds 3 Value.none))).get? b=s.heap.get? b:=fun b hb=>Heap.get?_update_other _ _ (Ne.symm hb)
  refine entry _ vs (.ref t) _ ((oth e (Ne.symm hte)).trans he) hz (hl.of_keeps fun b o hb hnf=>⟨o,(oth b fun q=>?_).trans hb,rfl⟩) (fun b o hb hbT e1=>(oth b fun q=>hbT (by rw [q])).trans e1) (by simp) rfl
  rw [q,ht] at hb;cases hb;exact hnf ts hdt
theorem Gh {e T:Addr} {cls:Value} {dx:Option Addr} {Q:Unit→Shared→Prop} (fl:Fly s.heap e cls dx (some T))
  (hq:∀h',Fly h' e cls dx (some T)→(∀b o,b≠T→s.heap.get? b=some o→h'.get? b=some o)→Q () { s with heap:=h' }):wpAny (model prog w) A (setFlight (.ref e) none) Q E s:=by
 obtain ⟨vs,sl,he,hz,h1,hte,ot,ts,ht,hdt,h3⟩:=fl
 have hts:=(Array.getElem?_eq_some_iff.mp h3).1
 unfold setFlight
 refine wpAny_bind (wpAny_field he rfl h1 ?_)
 rw [if_pos (show (Value.ref T != Value.none)=true from by simp)]
 refine wpAny_setField ht hdt hts (hq _ ⟨vs,sl,?_,hz,h1,hte,_,_,Heap.get?_update_self _ ht (Obj.isFreed_of_fields (Obj.data_mapFields hdt _)),Obj.data_mapFields hdt _,by simp [hts]⟩ fun b o hb e1=>?_)
 ·
  rw [Heap.get?_update_other _ _ hte];exact he
 ·
  rw [Heap.get?_update_other _ _ (Ne.symm hb)];exact e1
end
end L2
namespace L2
open PySem PySem.Spec PyProof.Rows PySem.W
def del (H:Hp) (e:Addr):Hp:=fun b=>if b=e then none else H b
theorem kX {H:Hp} {e b:Addr} (h:b≠e):del H e b=H b:=by unfold del;rw [if_neg h]
theorem oo {H:Hp} {e:Addr}:del H e e=none:=by unfold del;rw [if_pos rfl]
theorem lO {H:Hp} {e b:Addr} (h:H b=none):del H e b=none:=by unfold del;split;rfl;exact h
section
variable {X:Cx} {pins:List (Addr×Obj)} {σ:St} {H:Hp} {s:Shared}
theorem Inv.forget {e:Addr} {φ:Heap→Prop} (I:Inv X pins σ H s) (h:H e=some (.ext φ)):Inv X pins σ (del H e) s:=by
 have ne:∀b o,H b=some o→(∀ψ,o≠.ext ψ)→b≠e:=fun b o q n z=>by subst z;rw [h] at q;cases q;exact n _ rfl
 refine ⟨I.ok,I.os,I.bare,⟨I.base.keep,I.base.slot,fun b o e1 n hx=>lO (I.base.free b o e1 n hx),I.base.there,fun b xs q=>?_,fun b o u q=>?_,fun b ps q=>?_⟩,I.loc,I.cell,lO I.free,fun x c q=>lO (I.freeC x c q),fun p hp=>?_,fun b u q=>?_,I.len⟩
 ·
  have z:=I.base.tups b xs q
  rw [kX (ne b _ z fun _ q=>nomatch q)];exact z
 ·
  have z:=I.base.frzs b o u q
  rw [kX (ne b _ z fun _ q=>nomatch q)];exact z
 ·
  obtain ⟨more,z⟩:=I.base.tbls b ps q
  exact ⟨more,by rw [kX (ne b _ z fun _ q=>nomatch q)];exact z⟩
 ·
  obtain ⟨a1,a2,a3⟩:=I.pin p hp
  exact ⟨a1,lO a2,a3⟩
 ·
  have hb:b≠e:=fun z=>by subst z;rw [oo] at q;cases q
  rw [kX hb] at q
  exact (I.hok b u q).stay (fun c v _ z=>z) (fun c z=>by rw [kX (ne c _ z fun _ q=>nomatch q)];exact z) fun c xs z=>by rw [kX (ne c _ z fun _ q=>nomatch q)];exact z
theorem Inv.track {e:Addr} {o:HO} (I:Inv X pins σ H s) (hn:H e=none) (h0:X.s₀.heap.objs.size≤e) (hL:e≠X.env.locals) (hc:∀x c,X.env.cells.lookup x=some c→c≠e) (hp:∀p∈X.pn++pins,p.1≠e)
  (new:cQ X.prog X.w (upd H e o) s.heap e o):Inv X pins σ (upd H e o) s:=by
 have ne:∀b u,H b=some u→b≠e:=fun b u q z=>by subst z;rw [hn] at q;cases q
 refine ⟨I.ok,I.os,I.bare,⟨I.base.keep,I.base.slot,fun b u e1 n hx=>?_,I.base.there,fun b xs q=>?_,fun b u z q=>?_,fun b ps q=>?_⟩,I.loc,I.cell,?_,fun x c q=>?_,fun p hq=>?_,fun b u q=>?_,I.len⟩
 ·
  rw [ax (fun z=>by subst z;exact absurd (Heap.lt_size e1) (Nat.not_lt.mpr h0))];exact I.base.free b u e1 n hx
 ·
  have z:=I.base.tups b xs q
  rw [ax (ne b _ z)];exact z
 ·
  have z:=I.base.frzs b _ _ q
  rw [ax (ne b _ z)];exact z
 ·
  obtain ⟨more,z⟩:=I.base.tbls b ps q
  exact ⟨more,by rw [ax (ne b _ z)];exact z⟩
 ·
  rw [ax (Ne.symm hL)];exact I.free
 ·
  rw [ax (hc x c q)];exact I.freeC x c q
 ·
  obtain ⟨a1,a2,a3⟩:=I.pin p hq
  exact ⟨a1,by rw [ax (hp p hq)];exact a2,a3⟩
 ·
  by_cases hb:b=e
  ·
   subst hb;rw [aW] at q;cases q;exact new
  ·
   rw [ax hb] at q
   exact (I.hok b u q).stay (fun c v _ z=>z) (fun c z=>by rw [ax (ne c _ z)];exact z) fun c xs z=>by rw [ax (ne c _ z)];exact z
end
def vis (o:HO):Prop:=Pers o∧zH o
open Classical in
noncomputable def hidH (H:Hp):Hp:=fun b=>match H b with
 | some o=>if vis o then some o else none
 | none=>none
theorem gi {H:Hp} {b:Addr} (h:H b=none):hidH H b=none:=by unfold hidH;rw [h]
theorem cN {H:Hp} {b:Addr} {o:HO} (h:H b=some o) (v:vis o):hidH H b=some o:=by unfold hidH;rw [h];exact if_pos v
theorem CG {H:Hp} {b:Addr} {o:HO} (h:hidH H b=some o):H b=some o∧vis o:=by
 unfold hidH at h
 split at h
 ·
  rename_i u e
  split at h
  ·
   rename_i v;cases h;exact ⟨e,v⟩
  ·
   cases h
 ·
  cases h
theorem CH {H:Hp} {b:Addr} {o:HO} (h:H b=some o) (v:¬vis o):hidH H b=none:=by unfold hidH;rw [h];exact if_neg v
theorem cQ.stayN {P:Program} {w:World} {H H':Hp} {h h':Heap} {a:Addr}:∀{o:HO},zH o→cQ P w H h a o→(∀u,h.get? a=some u→h'.get? a=some u)→(∀b xs,H b=some (.tup xs)→H' b=some (.tup xs))→cQ P w H' h' a o
 | .lst xs,_,x,k,_=>by obtain ⟨z,its,n,r,e⟩:=x;exact ⟨z,its,n,r,k _ e⟩
 | .tup xs,_,x,k,_=>by obtain ⟨z,its,r,ob,e,c⟩:=x;exact ⟨z,its,r,ob,k _ e,c⟩
 | .dK kvs,_,x,k,_=>by obtain ⟨z,y,vs,r,ob,es,ep,e,c⟩:=x;exact ⟨z,y,vs,r,ob,es,ep,k _ e,c⟩
 | .dT kvs,_,x,k,ht=>by
  obtain ⟨z,y,xs,r,ob,es,ep,e,c⟩:=x
  exact ⟨z,y,xs,Paired.mapP r fun p q z=>⟨z.1,ht _ _ z.2.1,z.2.2⟩,ob,es,ep,k _ e,c⟩
 | .set S n,_,x,k,_=>by obtain ⟨ob,es,ep,t,e,c⟩:=x;exact ⟨ob,es,ep,t,k _ e,c⟩
 | .ins C dx fs,n,_,_,_=>n.elim
 | .own y,_,x,k,_=>by obtain ⟨ob,e⟩:=x;exact ⟨ob,k _ e⟩
 | .xd fs,_,x,k,_=>by obtain ⟨mA,⟨od,es,ep,e,c⟩,r⟩:=x;exact ⟨mA,⟨od,es,ep,k _ e,c⟩,r⟩
 | .rng lo hi,_,x,k,_=>by obtain ⟨t,u,v,e⟩:=x;exact ⟨t,u,v,k _ e⟩
 | .frz ob u,n,x,k,ht=>by obtain ⟨e,q⟩:=x;exact ⟨k _ e,cQ.stayN (o:=u) n q k ht⟩
 | .tbl ps,_,x,k,_=>by
  have e:h.get? a=some { cls:=.none,data:=.fields ps }:=x
  exact (k _ e:h'.get? a=some { cls:=.none,data:=.fields ps })
 | .met f y,_,x,k,_=>by
  have e:h.get? a=some (PySem.W.methodObj (.ref f) (.ref y)):=x
  exact (k _ e:h'.get? a=some (PySem.W.methodObj (.ref f) (.ref y)))
 | .ext φ,_,x,k,_=>by obtain ⟨p,⟨o,e⟩,st⟩:=x;exact ⟨st _ _ p k,⟨o,k _ e⟩,st⟩
theorem sr (xs:List V):vis (.tup xs):=⟨True.intro,True.intro⟩
section
variable {X:Cx} {pins:List (Addr×Obj)} {σ:St} {H H':Hp} {s s':Shared}
theorem Inv.hide (I:Inv X pins σ H s):Env0 X.prog X.w X.K X.mg X.base X.A X.stack s (hidH H):=by
 have e0:=I.env0
 refine ⟨e0.frames,e0.mod,fun b o e=>⟨(e0.bs b o e).1,gi (e0.bs b o e).2⟩,e0.bsz,e0.funs,fun b hb=>gi (e0.frf b hb),fun b o e=>?_,e0.bare⟩
 obtain ⟨e1,v⟩:=CG e
 exact cQ.stayN v.2 (e0.hok b o e1) (fun _ z=>z) fun c xs z=>cN z (sr xs)
open Classical in
noncomputable def mrg (H H':Hp):Hp:=fun b=>match H' b with
 | some o=>some o
 | none=>H b
theorem fb {b:Addr} {o:HO} (h:H' b=some o):mrg H H' b=some o:=by unfold mrg;rw [h]
theorem lP {b:Addr} (h:H' b=none):mrg H H' b=H b:=by unfold mrg;rw [h]
theorem Inv.unhide (I:Inv X pins σ H s) (ho:s'.os=s.os) (hg:AllBare s'.gens) (u:Un (frs X.stack) [] (hidH H) H' s.heap s'.heap) (hok:HOk X.prog X.w H' s'.heap) :
  Inv X pins σ (mrg H H') s'∧(∀b o,H b=some o→mrg H H' b=some o)∧(∀b o,H' b=some o→hidH H b=none→H b=none):=by
 have gone:∀b o,H b=some o→¬vis o→hidH H b=none∧H' b=none:=fun b o e v=>by
  have z:=CH e v
  obtain ⟨ob,hb⟩:∃ob,s.heap.get? b=some ob:=by
   cases q:s.heap.get? b with
   | some ob=>exact ⟨ob,rfl⟩
   | none =>
    exfalso
    cases o with
    | lst xs=>obtain ⟨_,_,_,_,e⟩:=I.hok b _ e;rw [q] at e;cases e
    | tup xs=>exact v (sr xs)
    | dK kvs=>obtain ⟨_,_,_,_,o,_,_,e,_⟩:=I.hok b _ e;rw [q] at e;cases e
    | dT kvs=>obtain ⟨_,_,_,_,o,_,_,e,_⟩:=I.hok b _ e;rw [q] at e;cases e
    | set S n=>obtain ⟨o,_,_,_,e,_⟩:=I.hok b _ e;rw [q] at e;cases e
    | ins C dx fs=>obtain ⟨_,_,_,e,_⟩:=I.hok b _ e;rw [q] at e;cases e
    | own y=>obtain ⟨_,e⟩:=I.hok b _ e;rw [q] at e;cases e
    | xd fs=>obtain ⟨_,⟨_,_,_,e,_⟩,_⟩:=I.hok b _ e;rw [q] at e;cases e
    | rng lo hi=>obtain ⟨_,_,_,e⟩:=I.hok b _ e;rw [q] at e;cases e
    | frz ob u=>obtain ⟨e,_⟩:=I.hok b _ e;rw [q] at e;cases e
    | tbl ps=>have e:=(show s.heap.get? b=some _ from I.hok b _ e);rw [q] at e;cases e
    | met f y=>have e:=(show s.heap.get? b=some _ from I.hok b _ e);rw [q] at e;cases e
    | ext φ=>obtain ⟨_,⟨_,e⟩,_⟩:=I.hok b _ e;rw [q] at e;cases e
  exact ⟨z,u.free b ob hb z (by simp)⟩
 have ext:∀b o,H b=some o→mrg H H' b=some o:=fun b o e=>by
  by_cases v:vis o
  ·
   have z:=cN e v
   cases o with
   | tup xs=>exact fb (u.tups b xs z)
   | frz ob w=>exact fb (u.frzs b ob w z)
   | _=>exact v.1.elim
  ·
   rw [lP (gone b o e v).2];exact e
 have back:∀b o,H' b=some o→hidH H b=none→H b=none:=fun b o e z=>by
  cases q:H b with
  | none=>rfl
  | some o' =>
   by_cases v:vis o'
   ·
    rw [cN q v] at z;cases z
   ·
    rw [(gone b o' q v).2] at e;cases e
 have hok2:HOk X.prog X.w (mrg H H') s'.heap:=fun b o e=>by
  unfold mrg at e
  split at e
  ·
   rename_i o' q
   cases e
   exact (hok b _ q).stay (fun c w _ z=>z) (fun c z=>fb z) fun c xs z=>fb z
  ·
   rename_i q
   have nv:¬vis o:=fun v=>by
    have z:=cN e v
    cases o with
    | tup xs=>rw [u.tups b xs z] at q;cases q
    | frz ob w=>rw [u.frzs b ob w z] at q;cases q
    | _=>exact v.1.elim
   have keepT:∀c o',H c=some o'→¬vis o'→∀w,s.heap.get? c=some w→s'.heap.get? c=some w:=fun c o' e' v' w hw=>by
    refine u.keep c w hw (gone c o' e' v').1 (fun hm=>?_) (by simp)
    have:=I.stkFree c hm
    rw [e'] at this;cases this
   refine (I.hok b o e).stay (fun c w hc z=>?_) (fun c z=>ext c _ z) fun c xs z=>ext c _ z
   rcases hc with rfl|hc
   ·
    exact keepT c o e nv w z
   ·
    exact keepT c _ hc (fun v=>v.1) w z
 refine ⟨I.call' (ch:=[]) ho ⟨fun b o e n hf hx=>u.keep b o e (gi n) hf hx,fun b o e n hf hx=>u.slot b o e (gi n) hf hx,fun b o e n hx=>?_,u.there,fun b xs e=>ext b _ e,fun b o w e=>ext b _ e,fun b ps e=>⟨#[],by rw [ext b _ e];simp⟩⟩ hok2 hg (fun b z=>absurd z (by simp)),ext,back⟩
 rw [lP (u.free b o e (gi n) hx)];exact n
end
section
variable {K:Frag} {Pr H H':Hp} {σ:St} {ρ:Ev}
theorem REnv.exten (E:REnv K Pr H σ ρ) (h:∀b o,H b=some o→H' b=some o):REnv K Pr H' σ ρ :=
 ⟨fun b o e=>h b o (E.sub b o e),E.nd,E.off,Paired.impMem E.sl fun l hl s q=>q.pres (fun b u _ e=>h b u e) l fun a e=>by
  obtain ⟨vs,e,_⟩:=E.at_own (dW.mpr ⟨l,hl,e⟩)
  rw [h _ _ e,e]⟩
end
mutual
theorem Rep.hid {K:Frag} {H:Hp}:∀{v:V} {d:D},Rep K H v d→Rep K (hidH H) v d
 | _,_,.non=>.non
 | _,_,.bl b=>.bl b
 | _,_,.int i=>.int i
 | _,_,.str x=>.str x
 | _,_,.tup h r=>.tup (by
   rcases h with (h|⟨o,h⟩)|h
   ·
    exact .inl (.inl (cN h (sr _)))
   ·
    exact .inl (.inr ⟨o,cN h ⟨True.intro,True.intro⟩⟩)
   ·
    exact .inr h) (Reps.hid r)
 | _,_,.lst h r=>.lst (by
   rcases h with ⟨o,h⟩|h
   ·
    exact .inl ⟨o,cN h ⟨True.intro,True.intro⟩⟩
   ·
    exact .inr h) (Reps.hid r)
 | _,_,.dct h=>.dct (cN h ⟨True.intro,True.intro⟩)
 | _,_,.exc h hv hc hn hs hq hf r=>.exc (cN h ⟨True.intro,hv⟩) hv hc hn hs hq (by
   rcases hf with hf|⟨d,od,e,h,l⟩
   ·
    exact .inl hf
   ·
    exact .inr ⟨d,od,e,cN h ⟨True.intro,True.intro⟩,l⟩) (Reps.hid r)
theorem Reps.hid {K:Frag} {H:Hp}:∀{vs:List V} {ds:List D},Reps K H vs ds→Reps K (hidH H) vs ds
 | _,_,.nil=>.nil
 | _,_,.cons h t=>.cons (Rep.hid h) (Reps.hid t)
end
end L2
namespace L2
open PySem PySem.Spec PyProof.Rows PySem.W
theorem Gi:typeOf (.type "ValueError")=pure (.type "type"):=kitMeta_of (by decide +kernel)
theorem Gj:Manifest.isStub "ValueError"=false:=by decide +kernel
theorem Gk:handedIn (.builtin "ValueError.__init__")=true:=by decide +kernel
theorem xO (K:Frag):findCls K (.type "ValueError") (.type "type") "__init__"=some (.val (.builtin "ValueError.__init__")):=by kernel_rfl
end L2
namespace L2
open PySem PySem.Spec PyProof.Rows PySem.W
theorem Fly.at {h h':Heap} {e:Addr} {cls:Value} {dx:Option Addr} (f:Fly h e cls dx none) (k:∀o,h.get? e=some o→h'.get? e=some o):Fly h' e cls dx none:=by
 obtain ⟨vs,sl,he,hz,h1⟩:=f
 exact ⟨vs,sl,k _ he,hz,h1⟩
def XO (e:Addr) (cls:Value) (dx:Option Addr):HO:=.ext fun h=>Fly h e cls dx none
def XD (d:Addr) (fs:List (Str×V)):HO:=.ext fun h=>∃mA,h.Ns1 d mA∧(∀f,RelO (fs.lookup f) (mA f))∧PySem.Within mA (fs.map (·.1))
theorem XO.ok {P:Program} {w:World} {H:Hp} {h:Heap} {e:Addr} {cls:Value} {dx:Option Addr} (f:Fly h e cls dx none):cQ P w H h e (XO e cls dx):=by
 obtain ⟨vs,sl,he,hz,h1⟩:=f
 exact ⟨⟨vs,sl,he,hz,h1⟩,⟨_,he⟩,fun h1 h2 p k=>p.at k⟩
theorem XD.ok {P:Program} {w:World} {H:Hp} {h:Heap} {d:Addr} {fs:List (Str×V)} {mA:Str→Option Value} (n:h.Ns1 d mA) (r:∀f,RelO (fs.lookup f) (mA f)) (wi:PySem.Within mA (fs.map (·.1))):cQ P w H h d (XD d fs) :=
 ⟨⟨mA,n,r,wi⟩,let ⟨o,_,_,e,_⟩:=n;⟨o,e⟩,fun h1 h2 ⟨mA,n,r⟩ k=>⟨mA,n.at k,r⟩⟩
theorem EK {H:Hp} {a:Addr} {o:HO} (h:H a=some o):upd H a o=H:=by
 funext b;unfold upd;split
 ·
  rename_i e;rw [e,h]
 ·
  rfl
section
variable {X:Cx} {pins:List (Addr×Obj)} {σ:St} {H:Hp} {s:Shared}
theorem Inv.xo {e:Addr} {cls:Value} {dx:Option Addr} (I:Inv X pins σ H s) (h:H e=some (XO e cls dx)):Fly s.heap e cls dx none:=(I.hok e _ h).1
theorem Inv.xd {d:Addr} {fs:List (Str×V)} (I:Inv X pins σ H s) (h:H d=some (XD d fs)):∃mA,s.heap.Ns1 d mA∧(∀f,RelO (fs.lookup f) (mA f))∧PySem.Within mA (fs.map (·.1)):=(I.hok d _ h).1
theorem Fly.inst {h:Heap} {e C:Addr} {dx T:Option Addr} (f:Fly h e (.ref C) dx T) (hd:∀d,dx=some d→∃o,h.get? d=some o):∃vs sl od,InstAt h e ⟨.ref C,dx,.fields vs,sl⟩ C od∧1 <vs.size:=by
 obtain ⟨vs,sl,he,hz,_⟩:=f
 cases dx with
 | none=>exact ⟨vs,sl,none,⟨he,rfl,rfl,trivial⟩,hz⟩
 | some d =>
  obtain ⟨o,ho⟩:=hd d rfl
  exact ⟨vs,sl,some o,⟨he,rfl,rfl,ho⟩,hz⟩
end
section
variable {X:Cx} {a b:Expr} {p1 p2 pos:Pos} {t:TA}
def uA (K:Frag) (t:TA):TE:=fun σ H Q=>t σ H fun vs H1=>∃e tx c C L cd,vs=[.ref e,tx]∧H1 e=some (XO e (.ref C) none)∧XStd K c C L cd∧Q .non H1
theorem Ab {pl:Sem Bool} (hg:Gl X "ValueError") (hm:X.mg "ValueError"=none) (ha:PA X [a,b] t) (hs:starEach [a,b] X.env=(false,eval a X.env)::starEach [b] X.env:=by rfl) (hpl:(backTo pos (starEach [b] X.env)).any (·.1)=false:=by rfl)
  (ht:eval (.Call (.Attribute (.Name "ValueError" p1) "__init__" p2) [a,b] [] pos) X.env=(do
   let ov ← eval (.Name "ValueError" p1) X.env
   standAt p2.atName
   let (f,first) ← holding [ov] (getMethod ov "__init__" pl)
   callWith pos f first (backTo pos (starEach [a,b] X.env)) (backToKw pos (keywordEach [] X.env))):=by rfl) :
  PE X (.Call (.Attribute (.Name "ValueError" p1) "__init__" p2) [a,b] [] pos) (uA X.K t):=by
 intro pins s σ H Q I h
 refine methodCall_KW (kQ I hg hm (show bootBuiltins "ValueError"=some (.type "ValueError") by decide +kernel) ?_) ht
 obtain ⟨m,F⟩:=I.fr
 have k4:=xO X.K
 refine @method_type _ _ _ _ _ X.K _ _ _ _ _ _ _ _ F I.ok.mod.kin Gi Gj k4 Gk ?_
 have I1:=I.tok (s.toks+1)
 have hA:=ha pos pins _ σ H _ I1 h
 rw [hs] at hA ⊢
 refine Calls.callWith_builtin (by show (false || (backTo pos (starEach [b] X.env)).any (·.1))=false;rw [hpl]<;>rfl) (Calls.evalArgs_plain (thn hA fun us s2 ⟨vs,H2,I2,r,e,tx,c,C,L,cd,ev,he,S,q⟩=>?_))
 subst ev
 obtain ⟨u1,u2,rfl,r1,r2⟩:=vo r
 cases r1
 obtain ⟨vs,sl,od,Ia,hz⟩:=(I2.xo he).inst (fun d z=>nomatch z)
 refine F4 S I2.kIn Ia rfl (by omega) fun t'=>⟨.non,H2,?_,rfl,q⟩
 have hx1:=Heap.get?_push_of_some (h:=s2.heap) { cls:=.type "tuple",data:=.seq #[u2] } Ia.at_
 have z:=I2.write (x:=e) (e:=e) (o:=XO e (.ref C) none) (h':=(s2.heap.push { cls:=.type "tuple",data:=.seq #[u2] }).update e (Obj.mapFields (·.setIfInBounds 0 (.ref s2.heap.objs.size)))) (t':=t') (by rw [he]; exact True.intro) (.inl rfl) (fun b u hb e1=>(Heap.get?_update_other _ _ (Ne.symm hb)).trans (Heap.get?_push_of_some _ e1)) ⟨_,Heap.get?_update_self _ hx1 rfl⟩ (XO.ok ?_)
 ·
  rw [EK he] at z;exact z
 ·
  obtain ⟨vs',sl',he',hz',h1'⟩:=I2.xo he
  have e2:=Ia.at_.symm.trans he'
  cases e2
  refine ⟨vs.setIfInBounds 0 (.ref s2.heap.objs.size),sl,Heap.get?_update_self _ hx1 rfl,by simpa using hz',?_⟩
  show (vs.setIfInBounds 0 _)[1]?=some .none
  rw [Array.getElem?_setIfInBounds_ne (by decide)];exact h1'
def spLI (K:Frag):Sp:=fun vs H Q _=>∃e tx c C L cd,vs=[.ref e,tx]∧H e=some (XO e (.ref C) none)∧XStd K c C L cd∧Q .non H
structure xP (K:Frag) (mg:Str→Option Value) (L fL:Addr) (fd:FuncData) (st:Stmt):Prop where
 m:mg "LoadError"=some (.ref L)
 rd:readsIn K L (.type "type")=true
 sg:specialIn K (.ref L) "__getattribute__"=some (some (.builtin "type.__getattribute__"))
 fc:findCls K (.ref L) (.type "type") "__init__"=some (.val (.ref fL))
 f:Fun K "__init__" "LoadError.__init__" st fL fd
 b:ka K fd ["self","text"] []
theorem Ac {pl:Sem Bool} {k L fL:Addr} {fd:FuncData} {st:Stmt} (T:xP X.K X.mg L fL fd st) (F:FnOk X.prog X.w X.K X.mg X.base CX0 k fL fd ["self","text"] (spLI X.K)) (hr:Room k X.A) (hg:Gl X "LoadError") (ha:PA X [a,b] t)
  (hs:starEach [a,b] X.env=(false,eval a X.env)::starEach [b] X.env:=by rfl) (hpl:(backTo pos (starEach [b] X.env)).any (·.1)=false:=by rfl)
  (ht:eval (.Call (.Attribute (.Name "LoadError" p1) "__init__" p2) [a,b] [] pos) X.env=(do
   let ov ← eval (.Name "LoadError" p1) X.env
   standAt p2.atName
   let (f,first) ← holding [ov] (getMethod ov "__init__" pl)
   callWith pos f first (backTo pos (starEach [a,b] X.env)) (backToKw pos (keywordEach [] X.env))):=by rfl) :
  PE X (.Call (.Attribute (.Name "LoadError" p1) "__init__" p2) [a,b] [] pos) (uA X.K t):=by
 intro pins s σ H Q I h
 refine methodCall_KW (fR I hg T.m ?_) ht
 refine method_cls I.kIn T.sg (cls_read I.kIn T.rd T.fc (wpAny_pure ?_))
 have k3:handedIn (.ref fL)=true:=rfl
 show wpAny _ _ (handedOut (.ref fL)) _ _ _
 rw [handedOut_of k3]
 refine wpAny_pure ?_
 have I1:=I.tok (s.toks+1)
 refine callWith_K (h₀:=X.base) I.ok.mod.kin T.f.kp (thn (ha pos pins _ σ H _ I1 h) fun us s1 ⟨vs,H1,I2,r,q⟩=>⟨I2.kIn,?_⟩) hs hpl
 refine wN F hr T.b .nil B0 I2 r ?_
 rw [List.append_nil]
 exact q
def EM (K:Frag) (ta tv:TE) (f:Str):TS:=fun D σ H=>tv σ H fun y H1=>ta σ H1 fun x H2=>∃e c C L cd,x=.ref e∧XStd K c C L cd∧findIn K (.ref C) f=some none ∧
 ((H2 e=some (XO e (.ref C) none)∧∀d,H2 d=none→d≠e→D.nx σ (upd (upd H2 d (XD d [(f,y)])) e (XO e (.ref C) (some d)))) ∨
  ∃d fs,H2 e=some (XO e (.ref C) (some d))∧H2 d=some (XD d fs)∧fs.lookup f=none∧fs.length≤900∧D.nx σ (upd H2 d (XD d (fs++[(f,y)]))))
theorem nK {α:Type} {f g:Str} {y:α}:∀{fs:List (Str×α)},fs.lookup f=none→(fs++[(f,y)]).lookup g=if g=f then some y else fs.lookup g
 | [],_=>by
  by_cases h:g=f
  ·
   subst h;simp
  ·
   have:(g == f)=false:=beq_eq_false_iff_ne.mpr h
   simp [List.lookup,this,h]
 | (k,v)::fs,h=>by
  have h':(f == k)=false∧fs.lookup f=none:=by
   cases e:(f == k) with
   | true=>simp [List.lookup,e] at h
   | false=>exact ⟨rfl,by simpa [List.lookup,e] using h⟩
  have ih:=nK (g:=g) (y:=y) h'.2
  cases e:(g == k) with
  | true =>
   have:g≠f:=fun z=>by subst z;rw [h'.1] at e;cases e
   simp [List.lookup,e,this]
  | false =>
   simp only [List.cons_append,List.lookup,e]
   exact ih
theorem CI {o value:Expr} {f:Str} {pos':Pos} {ta tv:TE} (ha:PE X o ta) (hv:PE X value tv) (hs:swapsWith value (some (.Attribute o f pos')) pos.line X.env=pure false:=by rfl):PS X (.Assign [.Attribute o f pos'] value pos) (EM X.K ta tv f):=by
 intro pins s σ H D I h
 refine plainObj_wpAny_Assign_Attribute (thn (hv pins s σ H _ I h) fun u s1 ⟨y,H1,I1,ry,q⟩=>thn (ha pins s1 σ H1 _ I1 q) fun ov s2 ⟨x,H2,I2,rx,e,c,C,L,cd,ex,S,hf,q2⟩=>?_) hs
 subst ex
 obtain rfl:ov=Value.ref e:=rx
 rcases q2 with ⟨he,q2⟩|⟨d,fs,he,hd,hl,hz,q2⟩
 ·
  obtain ⟨vs,sl,od,Ia,hz⟩:=(I2.xo he).inst (fun d z=>nomatch z)
  have dn:H2 s2.heap.objs.size=none:=I2.hok.fresh (Nat.le_refl _)
  have dne:s2.heap.objs.size≠e:=Nat.ne_of_gt (Heap.lt_size Ia.at_)
  refine zJ S I2.kIn Ia rfl hf fun h' tk e1 n1 k1=>⟨σ,_,?_,q2 s2.heap.objs.size dn dne⟩
  have hd1:cQ X.prog X.w (upd (upd H2 s2.heap.objs.size (XD s2.heap.objs.size [(f,y)])) e (XO e (.ref C) (some s2.heap.objs.size))) h' s2.heap.objs.size (XD s2.heap.objs.size [(f,y)]):=by
   refine XD.ok n1 (fun g=>?_) fun g hg=>?_
   ·
    by_cases z:g=f
    ·
     subst z;simp [RelO,ry]
    ·
     have:(g == f)=false:=beq_eq_false_iff_ne.mpr z
     simp [List.lookup,this,z,RelO]
   ·
    by_cases z:g=f
    ·
     simp [z]
    ·
     simp [z] at hg
  obtain ⟨vs0,sl0,he0,hz0,h10⟩:=I2.xo he
  have e2:=Ia.at_.symm.trans he0
  cases e2
  have ho1:cQ X.prog X.w (upd (upd H2 s2.heap.objs.size (XD s2.heap.objs.size [(f,y)])) e (XO e (.ref C) (some s2.heap.objs.size))) h' e (XO e (.ref C) (some s2.heap.objs.size)):=XO.ok ⟨vs,sl,e1,hz0,h10⟩
  have tr:∀b o,H2 b=some o→b≠e→upd (upd H2 s2.heap.objs.size (XD s2.heap.objs.size [(f,y)])) e (XO e (.ref C) (some s2.heap.objs.size)) b=some o:=fun b o q hb=>by
   rw [ax hb,ax (bg q dn)];exact q
  have nx:∀b o,H2 b=some o→(∀ψ,o≠.ext ψ)→b≠e:=fun b o q n z=>by subst z;rw [he] at q;cases q;exact n _ rfl
  refine I2.un ⟨fun b o hb n _ _=>k1 b o (fun z=>by subst z;rw [he] at n;cases n) hb,fun b o hb n _ _=>⟨o.slots,k1 b o (fun z=>by subst z;rw [he] at n;cases n) hb⟩,fun b o hb n _=>?_,fun b o hb _=>?_,fun b xs q=>tr b _ q (nx b _ q fun _ z=>nomatch z),fun b o' u' q=>tr b _ q (nx b _ q fun _ z=>nomatch z),fun b ps q=>⟨#[],by rw [tr b _ q (nx b _ q fun _ z=>nomatch z)];simp⟩⟩ fun b o q=>?_
  ·
   rw [ax (fun z=>by subst z;rw [he] at n;cases n),ax (Nat.ne_of_lt (Heap.lt_size hb))];exact n
  ·
   by_cases z:b=e
   ·
    subst z;exact ⟨_,e1⟩
   ·
    exact ⟨o,k1 b o z hb⟩
  ·
   by_cases hb:b=e
   ·
    subst hb;rw [aW] at q;cases q;exact ho1
   ·
    by_cases hb2:b=s2.heap.objs.size
    ·
     subst hb2;rw [ax hb,aW] at q;cases q;exact hd1
    ·
     rw [ax hb,ax hb2] at q
     refine (I2.hok b o q).stay (fun c v hc z=>k1 c v ?_ z) (fun c z=>tr c _ z (nx c _ z fun _ z=>nomatch z)) fun c xs z=>tr c _ z (nx c _ z fun _ z=>nomatch z)
     rcases hc with rfl|hc
     ·
      exact hb
     ·
      exact nx c _ hc fun _ z=>nomatch z
 ·
  obtain ⟨mA,nA,rA,wA⟩:=I2.xd hd
  obtain ⟨od,_,_,hod,_⟩:=id nA
  obtain ⟨vs,sl,od',Ia,hz'⟩:=(I2.xo he).inst (fun d' z=>by cases z;exact ⟨od,hod⟩)
  refine zK S I2.kIn Ia rfl nA wA (by rw [List.length_map];omega) hf fun h' tk n1 sb=>⟨σ,_,?_,q2⟩
  refine I2.write (x:=d) (e:=d) (by rw [hd];exact True.intro) (.inl rfl) (fun b u hb e1=>(sb.2 b hb).trans e1) (let ⟨o,_,_,e1,_⟩:=n1;⟨o,e1⟩) (XD.ok n1 (fun g=>?_) fun g hg=>?_)
  ·
   rw [nK hl]
   by_cases z:g=f
   ·
    subst z;simp [RelO,ry]
   ·
    rw [if_neg z,if_neg z];exact rA g
  ·
   by_cases z:g=f
   ·
    subst z;simp
   ·
    rw [if_neg z] at hg
    have:=wA g hg
    simp at this ⊢
    exact .inl this
end
end L2
namespace L2
open PySem PySem.Spec PyProof.Rows PySem.W
def spXI (K:Frag) (ns:List Str):Sp:=fun vs H Q _=>∃e vals c C L cd,vs=.ref e::vals∧H e=some (XO e (.ref C) none)∧XStd K c C L cd∧(∀f∈ns,findIn K (.ref C) f=some none)∧vals.length=ns.length ∧
 ∀d,H d=none→d≠e→Q .non (upd (upd H d (XD d (ns.zip vals))) e (XO e (.ref C) (some d)))
def tLI (K:Frag):TS:=BM (uA K (wM (tVar 0) (wM (tVar 1) tNil)))
def tI1 (K:Frag) (x:V) (f:Str):TS:=tSeq (BM (uA K (wM (tVar 0) (wM (tC x) tNil)))) (EM K (tVar 0) (tVar 1) f)
theorem CJ {K:Frag} {vs:List V} {H:Hp} {Q:VK} {E:XK} {a b:Str} (h:spLI K vs H Q E):tLI K { nx:=fun _ H'=>Q .non H',rt:=Q } (lx [a,b] vs) H:=by
 obtain ⟨e,tx,c,C,L,cd,rfl,he,S,q⟩:=h
 exact ⟨_,rfl,_,rfl,e,tx,c,C,L,cd,rfl,he,S,q⟩
theorem CK {K:Frag} {vs:List V} {H:Hp} {Q:VK} {E:XK} {a b f:Str} {x:V} (h:spXI K [f] vs H Q E):tI1 K x f { nx:=fun _ H'=>Q .non H',rt:=Q } (lx [a,b] vs) H:=by
 obtain ⟨e,vals,c,C,L,cd,rfl,he,S,hf,hl,q⟩:=h
 match vals,hl with
 | [v],_=>exact ⟨_,rfl,e,x,c,C,L,cd,rfl,he,S,_,rfl,_,rfl,e,c,C,L,cd,rfl,S,hf f (by simp),.inl ⟨he,fun d hd hde=>q d hd hde⟩⟩
structure Xc where
 c:Str
 ns:List Str
 ds:List D
def XFly (K:Frag) (H:Hp) (cls:Value) (dx:Option Addr) (x:Xc):Prop:=∃C vs,cls=.ref C∧fU K x.c C=true∧(∀f∈x.ns,findIn K (.ref C) f=some none)∧XF H dx x.ns vs∧Reps K H vs x.ds
theorem XFly.ext {K:Frag} {H H':Hp} {cls:Value} {dx:Option Addr} {x:Xc} (f:XFly K H cls dx x) (h:∀b o,H b=some o→H' b=some o):XFly K H' cls dx x:=by
 obtain ⟨C,vs,e,s,fq,a,r⟩:=f
 exact ⟨C,vs,e,s,fq,a.pres fun b o _ q=>h b o q,r.pres fun b o _ q=>h b o q⟩
def CXr (P:Program) (w:World):CXT:=fun outer H s E e s'=>∃a cls dx T H',e=.ref a∧s'.os=s.os∧AllBare s'.gens∧Un (frs outer) [] H H' s.heap s'.heap∧HOk P w H' s'.heap∧Fly s'.heap a cls dx (some T)∧H' a=none∧H' T=none ∧
 s.heap.objs.size≤a∧s.heap.objs.size≤T∧E cls dx H'
section
variable {X:Cx} {pins:List (Addr×Obj)} {σ:St} {H:Hp} {s:Shared}
theorem HOk.there {P:Program} {w:World} {H:Hp} {h:Heap} (x:HOk P w H h) {b:Addr} {o:HO} (e:H b=some o):∃u,h.get? b=some u:=by
 have lt:=x.lt e
 cases o with
 | lst xs=>obtain ⟨_,_,_,_,e⟩:=x b _ e;exact ⟨_,e⟩
 | tup xs=>obtain ⟨_,_,_,o,e,_⟩:=x b _ e;exact ⟨_,e⟩
 | dK kvs=>obtain ⟨_,_,_,_,o,_,_,e,_⟩:=x b _ e;exact ⟨_,e⟩
 | dT kvs=>obtain ⟨_,_,_,_,o,_,_,e,_⟩:=x b _ e;exact ⟨_,e⟩
 | set S n=>obtain ⟨o,_,_,_,e,_⟩:=x b _ e;exact ⟨_,e⟩
 | ins C dx fs=>obtain ⟨_,_,_,e,_⟩:=x b _ e;exact ⟨_,e⟩
 | own y=>obtain ⟨_,e⟩:=x b _ e;exact ⟨_,e⟩
 | xd fs=>obtain ⟨_,⟨_,_,_,e,_⟩,_⟩:=x b _ e;exact ⟨_,e⟩
 | rng lo hi=>obtain ⟨_,_,_,e⟩:=x b _ e;exact ⟨_,e⟩
 | frz ob u=>obtain ⟨e,_⟩:=x b _ e;exact ⟨_,e⟩
 | tbl ps=>exact ⟨_,(show h.get? b=some _ from x b _ e)⟩
 | met f y=>exact ⟨_,(show h.get? b=some _ from x b _ e)⟩
 | ext φ=>obtain ⟨_,⟨_,e⟩,_⟩:=x b _ e;exact ⟨_,e⟩
structure New (X:Cx) (pins:List (Addr×Obj)) (b:Addr):Prop where
 s0:X.s₀.heap.objs.size≤b
 loc:b≠X.env.locals
 cel:∀x c,X.env.cells.lookup x=some c→c≠b
 pin:∀p∈X.pn++pins,p.1≠b
theorem Inv.newer (I:Inv X pins σ H s) {b:Addr} (h:s.heap.objs.size≤b):New X pins b:=by
 refine ⟨Nat.le_trans I.sz h,fun z=>?_,fun x c e z=>?_,fun p hp z=>?_⟩
 ·
  have:=I.lt;rw [← z] at this;exact absurd this (Nat.not_lt.mpr h)
 ·
  obtain ⟨v,o,ho,_⟩:=I.cell x c e
  have:=Heap.lt_size ho;rw [z] at this;exact absurd this (Nat.not_lt.mpr h)
 ·
  have:=Heap.lt_size (I.pin p hp).1;rw [z] at this;exact absurd this (Nat.not_lt.mpr h)
structure uB (X:Cx) (pins:List (Addr×Obj)) (H:Hp) (s:Shared) (a:Addr) (cls:Value) (dx T:Option Addr):Prop where
 fly:Fly s.heap a cls dx T
 na:H a=none
 nt:∀t,T=some t→H t=none
 wa:New X pins a
 wt:∀t,T=some t→New X pins t
def XOK (X:Cx) (xp:Xc→Prop):Prop:=∀(pins:List (Addr×Obj)) (σ:St) (H:Hp) (s:Shared) (a:Addr) (cls:Value) (dx T:Option Addr) (x:Xc),Inv X pins σ H s→uB X pins H s a cls dx T→XFly X.K H cls dx x→xp x→X.xe (.ref a) s
end
theorem xQ {P:Program} {w:World} {K:Frag} {mg:Str→Option Value} {base:Heap} {N:List Str} {qual:Str} {scope:Scope} {f:Addr} {cd:Value} {A:Around} {outer:List Env} {s:Shared} {H:Hp} {E:XK} {xp:Xc→Prop}
  (h:∀cls dx H' x,XFly K H' cls dx x→xp x→E cls dx H'):XOK (cxOf (CXr P w) P w K mg base N qual scope f cd A outer s H E) xp:=by
 intro pins σ H1 s1 a cls dx T x I R F q
 show wpAny (model P w) _ (leaving _ (.ref a)) _ _ s1
 unfold leaving
 have hl:=I.stack
 refine wpAny_bind (EJ (F:=s.heap.objs.size) I.ok.frames hl rfl R.fly fun h' T' fl hT k1 k2=>?_)
 have neL:∀b o,s.heap.get? b=some o→b≠s.heap.objs.size:=fun b o e=>Nat.ne_of_lt (Heap.lt_size e)
 have neA:∀b o,s.heap.get? b=some o→b≠a:=fun b o e=>Nat.ne_of_lt (Nat.lt_of_lt_of_le (Heap.lt_size e) R.wa.s0)
 have neT:∀b o,s.heap.get? b=some o→some b≠T:=fun b o e z=>absurd (Heap.lt_size e) (Nat.not_lt.mpr (R.wt b z.symm).s0)
 have tra:∀b o,H1 b=some o→b≠a∧some b≠T∧b∉frs (envOfC qual scope s.heap.objs.size f cd::outer):=fun b o e=>by
  refine ⟨fun z=>(by subst z;rw [R.na] at e;cases e),fun z=>(by rw [R.nt b z.symm] at e;cases e),fun z=>?_⟩
  have:=I.stkFree b z
  rw [e] at this;cases this
 refine ⟨a,cls,dx,T',H1,rfl,I.os,I.bare,⟨fun b o e n hf hx=>?_,fun b o e n hf hx=>?_,fun b o e n hx=>I.base.free b o e n hx,fun b o e hx=>?_,I.base.tups,I.base.frzs,I.base.tbls⟩,fun b o e=>?_,fl,R.na,?_,R.wa.s0,Nat.le_trans I.sz hT,h cls dx H1 x F q⟩
 ·
  refine k1 b o (neA b o e) (neT b o e) (fun hm=>?_) (I.base.keep b o e n hf hx)
  rcases List.mem_cons.mp (show b∈s.heap.objs.size::frs outer from hm) with z|z
  ·
   exact neL b o e z
  ·
   exact hf z
 ·
  obtain ⟨sl,e1⟩:=I.base.slot b o e n hf hx
  obtain ⟨sl',e2⟩:=k2 b _ (neA b o e) (neT b o e) e1
  exact ⟨sl',e2⟩
 ·
  obtain ⟨o',e1⟩:=I.base.there b o e hx
  obtain ⟨sl',e2⟩:=k2 b _ (neA b o e) (neT b o e) e1
  exact ⟨_,e2⟩
 ·
  refine (I.hok b o e).stay (fun c v hc z=>?_) (fun _ z=>z) fun _ _ z=>z
  have ht:∃o',H1 c=some o':=by
   rcases hc with rfl|hc
   ·
    exact ⟨o,e⟩
   ·
    exact ⟨_,hc⟩
  obtain ⟨o',ho'⟩:=ht
  obtain ⟨t1,t2,t3⟩:=tra c o' ho'
  exact k1 c v t1 t2 t3 z
 ·
  exact I.hok.fresh hT
abbrev FSX:=List D→(L→Prop)→(Xc→Prop)→Prop
def spX (K:Frag) (n:Nat) (fs:FSX):Sp:=fun vs H Q E=>vs.length=n∧∃ds post xp,Reps K H vs ds∧fs ds post xp∧(∀v H' r,REnv K H H' [some v] [r]→post r→Q v H')∧∀cls dx H' x,XFly K H' cls dx x→xp x→E cls dx H'
def qj (fs:FSX) (xp:Xc→Prop) (t:W (List L)):W L:=fun ρ post=>t ρ fun ls ρ1=>toDs ls fun ds=>fs ds (fun r=>post r ρ1) xp
theorem REnv.ds {K:Frag} {H:Hp}:∀{vs:List V} {ds:List D},Reps K H vs ds→Paired (aM K H) (vs.map some) (ds.map .d)
 | _,_,.nil=>.nil
 | _,_,.cons h t=>.cons ⟨_,rfl,h⟩ (REnv.ds t)
section
variable {X:Cx} {k n:Nat} {f:Addr} {fd:FuncData} {ps:List Str} {fs:FSX} {x:Str} {p pos:Pos} {e:Expr} {es:List Expr} {bs:List (Option Nat)} {t:W (List L)} {xp:Xc→Prop}
theorem EN {pins:List (Addr×Obj)} {σ:St} {H Pr:Hp} {s:Shared} {ρ:Ev} {us:List Value} {vs:List V} {ds:List D} {post:L→Ev→Prop} {Ex:Value→Shared→Prop} (F:FnOk X.prog X.w X.K X.mg X.base (CXr X.prog X.w) k f fd ps (spX X.K n fs)) (hr:Room k X.A) (hb:ka X.K fd ps []) (hl:vs.length=n)
  (I:Inv X pins σ H s) (E:REnv X.K Pr H σ ρ) (r:Vals vs us) (rs:Reps X.K H vs ds) (h:fs ds (fun r=>post r ρ) xp)
  (hx:∀(s':Shared) (H':Hp) (a:Addr) (cls:Value) (dx T:Option Addr) (y:Xc),Inv X pins σ H' s'→REnv X.K Pr H' σ ρ→uB X pins H' s' a cls dx T→XFly X.K H' cls dx y→xp y→Ex (.ref a) s') :
  wpAny (model X.prog X.w) X.A (call (.ref f) us) (EL X pins σ Pr post) Ex s:=by
 have hsp:spX X.K n fs vs (hidH H) (fun v H'=>∃r,REnv X.K (hidH H) H' [some v] [r]∧post r ρ) (fun cls dx H'=>∃y,XFly X.K H' cls dx y∧xp y) :=
  ⟨hl,ds,_,xp,rs.hid,h,fun v H' r E1 p=>⟨r,E1,p⟩,fun cls dx H' y q1 q2=>⟨y,q1,q2⟩⟩
 have hl':us.length=ps.length:=by rw [← r.length];exact F.len _ _ _ _ hsp
 have bt:=hb s us I.kIn (by rw [List.append_nil];exact hl')
 rw [List.append_nil] at bt
 refine wpAny_call (codeAny_mono (F.run X.A X.stack s (hidH H) ⟨us,[]⟩ us vs _ _ hr I.hide bt r hsp) fun res s' hq=>?_)
 cases res with
 | error e =>
  obtain ⟨a,cls,dx,T,H',rfl,os,bare,un,hok,fl,na,nt,za,zt,y,q1,q2⟩:=hq
  obtain ⟨I2,ext,back⟩:=I.unhide os bare un hok
  refine hx s' _ a cls dx (some T) y I2 (E.exten ext) ⟨fl,?_,fun t et=>?_,I.newer za,fun t et=>by cases et;exact I.newer zt⟩ (q1.ext fun b o q=>fb q) q2
  ·
   rw [lP na];exact I.hok.fresh za
  ·
   cases et;rw [lP nt];exact I.hok.fresh zt
 | ok fl =>
  cases fl with
  | ret u =>
   obtain ⟨v,H',os,bare,un,hok,rv,r,E2,p⟩:=hq
   obtain ⟨I2,ext,back⟩:=I.unhide os bare un hok
   have E3:=E.exten ext
   have fr:∀a∈aT r,H a=none∧∃vs,H' a=some vs∧OMut vs:=fun a ha=>by
    have ha':a∈owns [r]:=by rw [aA];exact List.mem_append_left _ ha
    obtain ⟨vs',e1,m1⟩:=E2.at_own ha'
    exact ⟨back a _ e1 (E2.off a ha'),vs',e1,m1⟩
   refine ⟨v,_,r,ρ,I2,rv,⟨E3.sub,?_,fun a ha=>?_,.cons ?_ E3.sl⟩,p⟩
   ·
    rw [aA]
    have n1:=E2.nd
    rw [aA] at n1
    refine List.nodup_append.mpr ⟨(List.nodup_append.mp n1).1,E3.nd,fun a ha b hb z=>?_⟩
    subst z
    obtain ⟨vs',e1,_⟩:=E.at_own hb
    rw [(fr a ha).1] at e1;cases e1
   ·
    rw [aA] at ha
    rcases List.mem_append.mp ha with z|z
    ·
     cases q:Pr a with
     | none=>rfl
     | some o=>have:=E.sub a o q;rw [(fr a z).1] at this;cases this
    ·
     exact E3.off a z
   ·
    have sl:=E2.sl
    cases sl with
    | cons q t =>
     exact q.pres (fun b o _ e=>fb e) r fun a ha=>by
      obtain ⟨_,vs',e1,_⟩:=fr a ha
      rw [fb e1,e1]
  | next=>exact False.elim hq
  | brk=>exact False.elim hq
  | cont=>exact False.elim hq
theorem Ad (F:FnOk X.prog X.w X.K X.mg X.base (CXr X.prog X.w) k f fd ps (spX X.K n fs)) (hr:Room k X.A) (hg:Gl X x) (hm:X.mg x=some (.ref f)) (hk:PySem.W.keepIn X.K (.ref f)=true) (hb:ka X.K fd ps []) (hx:XOK X xp)
  (ha:PAL X (e::es) bs t) (hn:bs.length=n) (hdb:(x == ("__debug__" : Str))=false:=by decide) (he:starEach (e::es) X.env=(false,eval e X.env)::starEach es X.env:=by rfl) (hpl:(backTo pos (starEach es X.env)).any (·.1)=false:=by rfl) :
  PL X (.Call (.Name x p) (e::es) [] pos) (qj fs xp t):=by
 intro pins s σ H Pr ρ post I E0 h
 refine wpAny_Call_Name_kw (fR I hg hm ?_ hdb)
 refine PySem.W.callWith_K (h₀:=X.base) I.ok.mod.kin hk (thn (ha pos pins s σ H Pr ρ _ I E0 h) fun us s1 ⟨vs,H1,ls,ρ1,I1,r,hl,hbl,E1,hv,q⟩=>⟨I1.kIn,?_⟩) he hpl
 obtain ⟨ds,rfl,q1⟩:=fW q
 have hlen:vs.length=ds.length:=by simpa using hl
 exact EN (post:=post) F hr hb (hbl.trans hn) I1 (E1.drop (by simp [hlen])) r (fX hlen E1) q1 fun s' H' a cls dx T y I2 _ R q1 q2=>hx pins σ H' s' a cls dx T y I2 R q1 q2
def vP (ns:List Str) (ds:List D):List D:=if ns=[] then [] else ds
def qk (c:Str) (ns:List Str) (xp:Xc→Prop) (t:W (List L)):W Fl:=fun ρ _=>t ρ fun ls _=>toDs ls fun ds=>(ns=[]∨ds.length=ns.length)∧ds.length≤8∧xp ⟨c,ns,vP ns ds⟩
structure XT (K:Frag) (mg:Str→Option Value) (c:Str) (C fI:Addr) (fd:FuncData) (ps:List Str) (ns:List Str):Prop where
 m:mg c=some (.ref C)
 s:fU K c C=true
 mkx:XMk K C fI
 b:ka K fd ps []
 kp:PySem.W.keepIn K (.ref C)=true
 fn:∀f∈ns,findIn K (.ref C) f=some none
def xR (K:Frag) (sp:Sp) (C:Addr) (ns:List Str) (vs:List V):Prop:=∀(e:Addr) (H:Hp) (Q:VK),H e=some (XO e (.ref C) none) →
 (∀H2 dx,(∀b,b≠e→∀o,H b=some o→H2 b=some o)→H2 e=some (XO e (.ref C) dx)→((ns=[]∧dx=none)∨∃d,dx=some d∧d≠e∧H2 d=some (XD d (ns.zip vs))∧H d=none∧ns.length=vs.length)→Q .non H2)→sp (.ref e::vs) H Q E0
theorem CL {K:Frag} {c:Str} {C:Addr} {ns:List Str} {vs:List V} (h:fU K c C=true) (hf:∀f∈ns,findIn K (.ref C) f=some none) (hl:vs.length=ns.length):xR K (spXI K ns) C ns vs:=fun e H Q he q=>by
 obtain ⟨L,cd,S⟩:=cS h
 refine ⟨e,vs,c,C,L,cd,rfl,he,S,hf,hl,fun d hd hde=>q _ (some d) (fun b hb o z=>?_) aW (.inr ⟨d,rfl,hde,?_,hd,hl.symm⟩)⟩
 ·
  rw [ax hb,ax (bg z hd)];exact z
 ·
  rw [ax hde,aW]
theorem xS {c:Str} {C fI:Addr} {ns:List Str} {sp:Sp} {pins:List (Addr×Obj)} {σ:St} {H:Hp} {s:Shared} {us:List Value} {vs:List V} {Q:Value→Shared→Prop} (T:XT X.K X.mg c C fI fd ps ns) (F:FnOk X.prog X.w X.K X.mg X.base CX0 k fI fd ps sp) (hi:xR X.K sp C ns vs) (hr:Room (k+1) X.A) (hz:us.length≤sizeLine)
  (I:Inv X pins σ H s) (r:Vals vs us)
  (hq:∀(s':Shared) (H':Hp) (e:Addr) (dx:Option Addr),Inv X pins σ H' s'→(∀b o,H b=some o→H' b=some o)→H' e=none→s.heap.objs.size≤e→Fly s'.heap e (.ref C) dx none→((ns=[]∧dx=none)∨∃d od,dx=some d∧H' d=some (.frz od (.xd (ns.zip vs)))∧ns.length=vs.length)→Q (.ref e) s') :
  wpAny (model X.prog X.w) X.A (call (.ref C) us) Q X.xe s:=by
 obtain ⟨hh,g,d0,tk,os⟩:=s
 refine Gg I.kIn T.mkx hz fun h' e hm hsz=>?_
 obtain ⟨tt,he,_,_⟩:=hm.there
 have hn:H e=none:=I.hok.fresh hsz
 have I1:Inv X pins σ (upd H e (XO e (.ref C) none)) ⟨h',g,d0,tk,os⟩:=I.laid (t':=tk) hm.keeps hsz (XO.ok ⟨_,_,he,by simp,rfl⟩)
 have hsp:=hi e (upd H e (XO e (.ref C) none)) (fun v H2=>v=.non∧∃dx,(∀b,b≠e→∀o,upd H e (XO e (.ref C) none) b=some o→H2 b=some o)∧H2 e=some (XO e (.ref C) dx)∧((ns=[]∧dx=none)∨∃d,dx=some d∧d≠e∧H2 d=some (XD d (ns.zip vs))∧upd H e (XO e (.ref C) none) d=none∧ns.length=vs.length)) aW fun H2 dx a b c=>⟨rfl,dx,a,b,c⟩
 have r2:Vals (V.ref e::vs) (Value.ref e::us):=.cons rfl r
 have hl:(Value.ref e::us).length=ps.length:=by rw [← r2.length];exact F.len _ _ _ _ hsp
 have bt:=T.b _ (Value.ref e::us) I1.kIn (by rw [List.append_nil];exact hl)
 rw [List.append_nil] at bt
 refine wpAny_call (codeAny_mono (F.run _ X.stack _ _ ⟨Value.ref e::us,[]⟩ (Value.ref e::us) _ _ E0 (hr.make C us []) (I1.env0.make C us []) bt r2 hsp) fun res s' hq'=>?_)
 cases res with
 | error x=>exact hq'.elim
 | ok fl =>
  cases fl with
  | ret u =>
   obtain ⟨v,H2,I2,rv,ev,dx,kp,e2,alt⟩:=I1.after hq'
   subst ev
   refine ⟨rv,?_⟩
   have fl:=I2.xo e2
   have I3:=I2.forget e2
   have up:∀b o,H b=some o→del H2 e b=some o:=fun b o q=>by
    have hb:b≠e:=fun z=>by subst z;rw [hn] at q;cases q
    rw [kX hb];exact kp b hb o (by rw [ax hb];exact q)
   rcases alt with ⟨z1,z2⟩|⟨d,z1,z2,z3,z4,z5⟩
   ·
    exact hq s' _ e dx I3 up oo hsz fl (.inl ⟨z1,z2⟩)
   ·
    have hd:del H2 e d=some (XD d (ns.zip vs)):=by rw [kX z2];exact z3
    obtain ⟨mA,nA,rA,_⟩:=I2.xd z3
    obtain ⟨od,es,ep,hod,r1⟩:=id nA
    have I4:=I3.reword (w:=.frz od (.xd (ns.zip vs))) hd (fun q=>q) (fun _ q=>nomatch q) (fun _ q=>nomatch q) ⟨hod,mA,nA,rA⟩ (fun _ _ _ q=>nomatch q)
    have dn:H d=none:=by rw [ax z2] at z4;exact z4
    refine hq s' _ e dx I4 (fun b o q=>?_) (by rw [ax (Ne.symm z2)];exact oo) hsz fl (.inr ⟨d,od,z1,aW,z5⟩)
    rw [ax (bg q dn)];exact up b o q
  | next=>exact False.elim hq'
  | brk=>exact False.elim hq'
  | cont=>exact False.elim hq'
theorem Ae {c:Str} {C fI:Addr} {ns:List Str} {sp:Sp} {cpos:Pos} (T:XT X.K X.mg c C fI fd ps ns) (F:FnOk X.prog X.w X.K X.mg X.base CX0 k fI fd ps sp) (hi:∀vs:List V,vs.length=n→xR X.K sp C ns vs) (hr:Room (k+1) X.A) (hg:Gl X c) (hx:XOK X xp) (ha:PAL X (e::es) bs t) (hn:bs.length=n)
  (hdb:(c == ("__debug__" : Str))=false:=by decide) (he:starEach (e::es) X.env=(false,eval e X.env)::starEach es X.env:=by rfl) (hpl:(backTo cpos (starEach es X.env)).any (·.1)=false:=by rfl) :
  PM X (.Raise (some (.Call (.Name c p) (e::es) [] cpos)) none pos) (qk c ns xp t):=by
 intro pins s σ H Pr ρ post I E0 h
 obtain ⟨LL,cd,S⟩:=cS T.s
 rw [arm_exec_Raise]
 refine wpAny_bind (wpAny_standAt ?_)
 refine EH S hr.hd (wpAny_bind (wpAny_mono (wpAny_Call_Name_kw (fR I hg T.m ?_ hdb)) (fun v s3 h3=>wpAny_bind (wpAny_standAt (wpAny_pure h3))) fun _ _ z=>z))
 refine PySem.W.callWith_K (h₀:=X.base) I.ok.mod.kin T.kp (thn (ha cpos pins s σ H Pr ρ _ I E0 h) fun us s1 ⟨vs,H1,ls,ρ1,I1,r,hl,hbl,E1,hv,q⟩=>⟨I1.kIn,?_⟩) he hpl
 obtain ⟨ds,rfl,q0,q1,q⟩:=fW q
 have hlen:vs.length=ds.length:=by simpa using hl
 have rs:=fX hlen E1
 refine xS T F (hi vs (hbl.trans hn)) hr (by show us.length≤sizeLine;rw [← r.length,hlen];exact Nat.le_trans q1 (by decide)) I1 r fun s' H' e dx I2 up na hsz fl alt=>⟨e,dx,rfl,I2.kIn,fl,?_⟩
 refine hx pins σ H' s' e _ dx none ⟨c,ns,vP ns ds⟩ I2 ⟨fl,na,(fun _ z=>nomatch z),I1.newer hsz,(fun _ z=>nomatch z)⟩ ?_ q
 rcases alt with ⟨z1,z2⟩|⟨d,od,z1,z2,z3⟩
 ·
  exact ⟨C,[],rfl,T.s,T.fn,.inl ⟨z1,rfl,z2⟩,by unfold vP;rw [if_pos z1];exact .nil⟩
 ·
  by_cases zn:ns=[]
  ·
   subst zn
   have e0:vs=[]:=by cases vs with|nil=>rfl|cons _ _=>simp at z3
   subst e0
   exact ⟨C,[],rfl,T.s,T.fn,.inr ⟨d,od,z1,z2,z3⟩,by unfold vP;rw [if_pos rfl];exact .nil⟩
  ·
   exact ⟨C,vs,rfl,T.s,T.fn,.inr ⟨d,od,z1,z2,z3⟩,by unfold vP;rw [if_neg zn];exact rs.pres fun b o _ q=>up b o q⟩
end
end L2
namespace L2
open PySem PySem.Spec PyProof.Rows PySem.W
def okX (post:L→Prop):Fl→Ev→Prop:=fun f _=>match f with
 | .rt r=>post r
 | .nx=>post (.d .non)
 | _=>False
theorem EO {P:Program} {w:World} {K:Frag} {mg:Str→Option Value} {base:Heap} {x qual:Str} {st:Stmt} {f:Addr} {fd:FuncData} {N ps:List Str} {k:Nat} {fs:FSX} (F:Fun K x qual st f fd) (S:aC N ps (aq st)) (t:(Xc→Prop)→W Fl)
  (hbody:∀(cdv:Value) (A:Around) (outer:List Env) (s:Shared) (H:Hp) (E:XK) (xp:Xc→Prop),Room k (A.deeper (envOfC qual (aq st) s.heap.objs.size f cdv))→(∀cls dx H' y,XFly K H' cls dx y→xp y→E cls dx H') →
   PMs (cxOf (CXr P w) P w K mg base N qual (aq st) f cdv A outer s H E) (dC st) (t xp))
  (h:∀ds post xp,ds.length=ps.length→fs ds post xp→t xp (ds.map .d++List.replicate (N.length - ps.length) .un) (okX post)):FnOk P w K mg base (CXr P w) (k+1) f fd ps (spX K ps.length fs):=by
 obtain ⟨oc,od,kV,doc,pm,an,cdv,ct,osl,rfl,lk,hcd⟩:=F.ex
 refine D4 lk hcd S (fun vs H Q E q=>q.1) fun A outer s H vs Q E hr q=>?_
 obtain ⟨hl,ds,post,xp,rs,hf,q1,q2⟩:=q
 have E0:REnv K H H (vs.map some) (ds.map .d):=⟨fun _ _ e=>e,by rw [w7];exact List.nodup_nil,fun a ha=>(by rw [w7] at ha;simp at ha),REnv.ds rs⟩
 refine ⟨_,(hbody cdv A outer s H E xp hr q2).pss,H,ds.map .d++List.replicate (N.length - ps.length) .un,okX post,?_,h ds post xp (by rw [← rs.length];exact hl) hf,fun σ' H' ρ' E' p=>?_,fun _ _ _ _ p=>p.elim,fun _ _ _ _ p=>p.elim,fun v τ H' r ρ' E' p=>?_⟩
 ·
  unfold lx
  rw [hl]
  exact E0.uns _
 ·
  exact q1 .non H' (.d .non) ((⟨E'.sub,List.nodup_nil,fun a ha=>(by simp [owns] at ha),.nil⟩:REnv K H H' [] []).cons_d .non) p
 ·
  exact q1 v H' r (REnv.left (τ:=[some v]) (lam:=[r]) E' rfl) p
section
variable {X:Cx} {pins:List (Addr×Obj)} {σ:St} {H:Hp} {s:Shared}
theorem Inv.lost {n:Str} {i:Nat} {h':Heap} {t':Nat} {m m':Str→Option Value} (I:Inv X pins σ H s) (hN:X.N.Nodup) (hi:X.N[i]?=some n) (hn:s.heap.Ns X.env.locals m) (hn':h'.Ns X.env.locals m') (hm:∀y,y≠n→m' y=m y) (hs:Heap.SameBut X.env.locals s.heap h') :
  Inv X pins (σ.set i none) H { s with heap:=h',toks:=t' }:=by
 have nl:∀b o,X.s₀.heap.get? b=some o→b≠X.env.locals:=fun b o e=>Nat.ne_of_lt (Nat.lt_of_lt_of_le (Heap.lt_size e) I.ok.above)
 refine ⟨I.ok,I.os,I.bare,⟨fun b o e n hb hx=>(hs.2 b (nl b o e)).trans (I.base.keep b o e n hb hx),fun b o e n hb hx=>?_,I.base.free,fun b o e hx=>?_,I.base.tups,I.base.frzs,I.base.tbls⟩,⟨m',hn',fun j y v e1 e2 e3=>?_⟩,fun y c e=>?_,I.free,I.freeC,fun p hp=>?_,fun b o e=>?_,by simpa using I.len⟩
 ·
  obtain ⟨sl,e1⟩:=I.base.slot b o e n hb hx
  exact ⟨sl,(hs.2 b (nl b o e)).trans e1⟩
 ·
  obtain ⟨o',e1⟩:=I.base.there b o e hx
  exact ⟨o',(hs.2 b (nl b o e)).trans e1⟩
 ·
  have hj:j≠i:=fun z=>by
   subst z
   have hlt:j <σ.length:=by rw [I.len];exact (List.getElem?_eq_some_iff.mp hi).1
   rw [List.getElem?_set_self hlt] at e2;cases e2
  rw [List.getElem?_set_ne (Ne.symm hj)] at e2
  obtain ⟨m0,hn0,hl⟩:=I.loc
  obtain ⟨u,r,q⟩:=hl j y v e1 e2 e3
  have hy:y≠n:=fun z=>hj (nV hN e1 (z ▸ hi))
  refine ⟨u,r,?_⟩
  rcases q with ⟨k,e⟩|⟨k,c,e,z⟩
  ·
   refine .inl ⟨k,?_⟩
   rw [hm y hy]
   obtain ⟨o1,es1,ep1,a1,a2,a3,a4⟩:=hn
   obtain ⟨o2,es2,ep2,b1,b2,b3,b4⟩:=hn0
   rw [a1] at b1;cases b1
   rw [a2] at b2;cases b2
   rw [← a4 y,b4 y];exact e
  ·
   exact .inr ⟨k,c,e,z.sameBut hs (I.cne y c e)⟩
 ·
  obtain ⟨v,z⟩:=I.cell y c e
  exact ⟨v,z.sameBut hs (I.cne y c e)⟩
 ·
  obtain ⟨a1,a2,a3,a4⟩:=I.pin p hp
  exact ⟨(hs.2 _ a3).trans a1,a2,a3,a4⟩
 ·
  refine (I.hok b o e).stay (fun c v hc z=>(hs.2 c fun q=>?_).trans z) (fun _ z=>z) fun _ _ z=>z
  have:∃o',H c=some o':=by
   rcases hc with rfl|hc
   ·
    exact ⟨o,e⟩
   ·
    exact ⟨_,hc⟩
  obtain ⟨o',ho'⟩:=this
  rw [q,I.free] at ho';cases ho'
theorem jC {M:Model} {A:Around} {E:Value→Shared→Prop} {n:Str} {i:Nat} {pos:Pos} {Q:Unit→Shared→Prop} (I:Inv X pins σ H s) (hN:X.N.Nodup) (hi:X.N[i]?=some n) (hl:X.env.kindOf n=some .local) (hx:Loc X.env.scope n) (hf:X.fn n=true∨X.env.scope.names.lookup n=some .local)
  (hq:∀s',Inv X pins (σ.set i none) H s'→Q () s'):wpAny M A (do bindName X.env n .none;unbindBehindTheSuite X.env n pos) Q E s:=by
 have hcls:(X.env.scope.kind == .class || (X.env.scope.kind == .module && X.env.locals != X.env.globals))=false:=by rw [I.ok.kind];rfl
 refine wpAny_bind (wpAny_bindName (eU (v:=.non) I hN hi hx rfl (fun s1 I1=>?_) hf))
 obtain ⟨m,hn,_⟩:=id I1.loc
 unfold unbindBehindTheSuite
 refine wpAny_onRaise ?_
 unfold unbindName
 refine wpAny_bind (wpAny_point (wpAny_bind ?_))
 unfold deleteName
 simp only [hl,hcls]
 rw [if_neg (by decide)]
 refine wpAny_bind (wpAny_nsDel_keeps hn fun h2 v hn2 hs2=>?_)
 have hsome:(m n).isSome=true:=by
  obtain ⟨m1,hn1,hl1⟩:=I1.loc
  have hlt:i <σ.length:=by rw [I.len];exact (List.getElem?_eq_some_iff.mp hi).1
  obtain ⟨u,r,q⟩:=hl1 i n .non hi (by simp [hlt]) (hx.elim .inl fun z=>.inr (.inl z))
  obtain ⟨o1,es1,ep1,a1,a2,a3,a4⟩:=hn
  obtain ⟨o2,es2,ep2,b1,b2,b3,b4⟩:=hn1
  rw [a1] at b1;cases b1
  rw [a2] at b2;cases b2
  rcases q with ⟨k,e⟩|⟨k,_⟩
  ·
   rw [← a4 n,b4 n,e];rfl
  ·
   rw [hl] at k;rcases k with k|k<;>cases k
 rw [hsome]
 simp only [if_true,Bool.not_true,Bool.false_eq_true,if_false]
 refine wpAny_pure (wpAny_point ?_)
 have z:=I1.lost (t':=s1.toks) hN hi hn hn2 (fun y hy=>by rw [if_neg hy]) hs2
 rw [List.set_set] at z
 exact hq _ z
end
end L2
namespace L2
open PySem PySem.Spec PyProof.Rows PySem.W
def isA (c y:Str):Bool:=c == y || c == ("LoadError" : Str)
structure XH (K:Frag) (mg:Str→Option Value) (c:Str) (C:Addr):Prop where
 m:mg c=some (.ref C)
 ns:nsIn K mainGlobals c=some (some (.ref C))
 cls:∃cd,clsIn K C=some cd∧cd.name=c
 ty:typeIn K (.ref C)=some (.type "type")
 base:mroIn K C (.type "BaseException")=some true
section
variable {K:Frag} {mg:Str→Option Value} {c y:Str} {C D:Addr}
theorem XH.sub (T:XH K mg c C) (hs:fU K y D=true):mroIn K D (.ref C)=some (isA c y):=by
 obtain ⟨L,cd,S⟩:=cS hs
 obtain ⟨cdC,hC,hn⟩:=T.cls
 obtain ⟨kL,hL,hnL⟩:=S.lname
 rw [S.mroIn,ub]
 congr 1
 unfold isA
 have e1:(C == D)=(c == y):=by
  by_cases h:c=y
  ·
   subst h
   have z:=T.ns.symm.trans S.own
   cases z
   simp
  ·
   rw [beq_eq_false_iff_ne.mpr h,beq_eq_false_iff_ne]
   intro z
   subst z
   rw [S.cls] at hC;cases hC
   exact h (hn.symm.trans S.name)
 have e2:(C == L)=(c == ("LoadError" : Str)):=by
  by_cases h:c=("LoadError" : Str)
  ·
   subst h
   have z:=T.ns.symm.trans S.load
   cases z
   simp
  ·
   rw [beq_eq_false_iff_ne.mpr h,beq_eq_false_iff_ne]
   intro z
   subst z
   rw [hL] at hC;cases hC
   exact h (hn.symm.trans hnL)
 rw [e1,e2]
theorem ER {M:Model} {A:Around} {E:Value→Shared→Prop} {s:Shared} {a:Addr} {ox:Obj} {Q:Bool→Shared→Prop} (T:XH K mg c C) (hs:fU K y D=true) (hA:isA c y=true) (X:K.In s.heap) (he:s.heap.get? a=some ox) (hc:ox.cls=.ref D) (hq:Q true s) :
  wpAny M A (excMatches (.ref a) (.ref C)) Q E s:=by
 obtain ⟨hp,g,d,tk,os⟩:=s
 have he:hp.get? a=some ox:=he
 obtain ⟨cd,hcd,_⟩:=T.cls
 obtain ⟨oc,odc,slc,hK⟩:=l9 hcd
 have hC:hp.get? C=some ⟨oc,odc,.cls cd,slc⟩:=X _ _ hK
 have L1:Looks M hp (typeOf (.ref C)) (.type "type"):=looks_typeIn X T.ty
 have L2:Looks M hp (isSubtype (.ref C) (.type "BaseException")) true:=looks_mroIn X T.base
 have L3:Looks M hp (isSubtype (.ref D) (.ref C)) true:=looks_mroIn X (by rw [T.sub hs,hA])
 have f:=tc_notTuple
 have L4:Looks M hp (isInstance (.ref C) (.type "tuple")) false:=L1.andThen (Looks.of_pure f)
 have L5:Looks M hp (typeOf (.ref a)) (.ref D):=hc ▸ (Looks.ld he).andThen .now
 unfold excMatches
 refine wpAny_bind (L4.at ?_)
 dsimp only
 rw [if_neg (by decide)]
 repeat (first|with_reducible refine L2.at ?_|with_reducible refine L3.at ?_|with_reducible refine L5.at ?_|with_reducible refine wpAny_loadPart_at hC ?_|wp_step)
 exact hq
end
abbrev Cx.tr (X:Cx) (pins:List (Addr×Obj)) (E:Value→Shared→Prop):Cx:={ X with pn:=X.pn++pins,xe:=E }
abbrev Cx.han (X:Cx) (a:Addr):Cx:={ X with A:=X.A.mark (some (.ref a)),calm:=false,xe:=fun _ _=>False }
section
variable {X:Cx} {pins pins0:List (Addr×Obj)} {σ:St} {H:Hp} {s:Shared} {E:Value→Shared→Prop} {a:Addr}
theorem Cx.Ok.tr (ok:X.Ok):(X.tr pins E).Ok:=⟨ok.mod,ok.kind,ok.glob,ok.blt,ok.above,ok.inj,ok.has,ok.cab,ok.hd,ok.frames,ok.stk,ok.exf,ok.bs,ok.bsz,ok.noex,ok.exfs,ok.funs,ok.frf⟩
theorem Cx.Ok.untr (ok:(X.tr pins E).Ok):X.Ok:=⟨ok.mod,ok.kind,ok.glob,ok.blt,ok.above,ok.inj,ok.has,ok.cab,ok.hd,ok.frames,ok.stk,ok.exf,ok.bs,ok.bsz,ok.noex,ok.exfs,ok.funs,ok.frf⟩
theorem Inv.tr (I:Inv X pins σ H s):Inv (X.tr pins E) [] σ H s:=⟨I.ok.tr,I.os,I.bare,I.base,I.loc,I.cell,I.free,I.freeC,fun p hp=>I.pin p (by simpa using hp),I.hok,I.len⟩
theorem Inv.untr (I:Inv (X.tr pins0 E) pins σ H s):Inv X pins0 σ H s:=⟨I.ok.untr,I.os,I.bare,I.base,I.loc,I.cell,I.free,I.freeC,fun p hp=>I.pin p (List.mem_append_left _ hp),I.hok,I.len⟩
theorem Inv.han (I:Inv X pins σ H s) (a:Addr):Inv (X.han a) pins σ H s :=
 ⟨⟨I.ok.mod,I.ok.kind,I.ok.glob,I.ok.blt,I.ok.above,I.ok.inj,I.ok.has,I.ok.cab,(fun z=>nomatch z),I.ok.frames,I.ok.stk,I.ok.exf,I.ok.bs,I.ok.bsz,I.ok.noex,I.ok.exfs,I.ok.funs,I.ok.frf⟩,I.os,I.bare,I.base,I.loc,I.cell,I.free,I.freeC,I.pin,I.hok,I.len⟩
theorem Inv.unhan (I:Inv (X.han a) pins σ H s) (ok:X.Ok):Inv X pins σ H s:=⟨ok,I.os,I.bare,I.base,I.loc,I.cell,I.free,I.freeC,I.pin,I.hok,I.len⟩
theorem SM.untr {Pr:Hp} {post:Fl→Ev→Prop} {f:Flow} {s':Shared} (h:SM (X.tr pins0 E) pins Pr post f s'):SM X pins0 Pr post f s':=by
 cases f with
 | next=>obtain ⟨σ',H',ρ',I,r⟩:=h;exact ⟨σ',H',ρ',I.untr,r⟩
 | brk=>obtain ⟨σ',H',ρ',I,r⟩:=h;exact ⟨σ',H',ρ',I.untr,r⟩
 | cont=>obtain ⟨σ',H',ρ',I,r⟩:=h;exact ⟨σ',H',ρ',I.untr,r⟩
 | ret u=>obtain ⟨v,σ',H',r',ρ',τ,I,r⟩:=h;exact ⟨v,σ',H',r',ρ',τ,I.untr,r⟩
end
def xeT (X:Cx) (pins:List (Addr×Obj)) (Pr:Hp) (xp:Xc→Ev→Prop):Value→Shared→Prop:=fun e s'=>∃σ' H' ρ' a cls dx T x,e=.ref a∧Inv X pins σ' H' s'∧REnv X.K Pr H' σ' ρ'∧uB X pins H' s' a cls dx T∧XFly X.K H' cls dx x∧xp x ρ'
abbrev Cx.tb (X:Cx) (pins:List (Addr×Obj)) (Pr:Hp) (xp:Xc→Ev→Prop):Cx:=X.tr pins (xeT X pins Pr xp)
def Le (P Q:Hp):Prop:=∀b o,P b=some o→Q b=some o
theorem REnv.le {K:Frag} {P Q H:Hp} {σ:St} {ρ:Ev} (E:REnv K Q H σ ρ) (h:Le P Q):REnv K P H σ ρ:=⟨fun b o e=>E.sub b o (h b o e),E.nd,fun a ha=>(by
  have z:=E.off a ha
  cases q:P a with
  | none=>rfl
  | some o=>rw [h a o q] at z;cases z),E.sl⟩
def PLt (X:Cx) (pins0:List (Addr×Obj)) (Pr0:Hp) (xp:Xc→Ev→Prop) (e:Expr) (t:W L):Prop :=
 ∀(pins:List (Addr×Obj)) (s:Shared) (σ:St) (H Pr:Hp) (ρ:Ev) (post:L→Ev→Prop),Le Pr0 Pr→Inv (X.tb pins0 Pr0 xp) pins σ H s→REnv X.K Pr H σ ρ→t ρ post→wpAny (model X.prog X.w) X.A (eval e X.env) (EL (X.tb pins0 Pr0 xp) pins σ Pr post) (xeT X pins0 Pr0 xp) s
def PMt (X:Cx) (pins0:List (Addr×Obj)) (Pr0:Hp) (xp:Xc→Ev→Prop) (st:Stmt) (t:W Fl):Prop :=
 ∀(pins:List (Addr×Obj)) (s:Shared) (σ:St) (H Pr:Hp) (ρ:Ev) (post:Fl→Ev→Prop),Le Pr0 Pr→Inv (X.tb pins0 Pr0 xp) pins σ H s→REnv X.K Pr H σ ρ→t ρ post→wpAny (model X.prog X.w) X.A (exec st X.env) (SM (X.tb pins0 Pr0 xp) pins Pr post) (xeT X pins0 Pr0 xp) s
def PMts (X:Cx) (pins0:List (Addr×Obj)) (Pr0:Hp) (xp:Xc→Ev→Prop) (sts:List Stmt) (t:W Fl):Prop :=
 ∀(pins:List (Addr×Obj)) (s:Shared) (σ:St) (H Pr:Hp) (ρ:Ev) (post:Fl→Ev→Prop),Le Pr0 Pr→Inv (X.tb pins0 Pr0 xp) pins σ H s→REnv X.K Pr H σ ρ→t ρ post→wpAny (model X.prog X.w) X.A (execs sts X.env) (SM (X.tb pins0 Pr0 xp) pins Pr post) (xeT X pins0 Pr0 xp) s
def uC (fs:FSX) (xp:Xc→Ev→Prop) (t:W (List L)):W L:=fun ρ post=>t ρ fun ls ρ1=>toDs ls fun ds=>fs ds (fun r=>post r ρ1) (fun y=>xp y ρ1)
section
variable {X:Cx} {pins0:List (Addr×Obj)} {Pr0:Hp} {xp:Xc→Ev→Prop} {k n:Nat} {f:Addr} {fd:FuncData} {ps:List Str} {fs:FSX} {x:Str} {p pos:Pos} {e:Expr} {es:List Expr} {bs:List (Option Nat)} {t:W (List L)} {te:W L} {tm tu:W Fl} {st:Stmt} {sts:List Stmt}
theorem Af (F:FnOk X.prog X.w X.K X.mg X.base (CXr X.prog X.w) k f fd ps (spX X.K n fs)) (hr:Room k X.A) (hg:Gl X x) (hm:X.mg x=some (.ref f)) (hk:PySem.W.keepIn X.K (.ref f)=true) (hb:ka X.K fd ps [])
  (ha:PAL (X.tb pins0 Pr0 xp) (e::es) bs t) (hn:bs.length=n) (hdb:(x == ("__debug__" : Str))=false:=by decide) (he:starEach (e::es) X.env=(false,eval e X.env)::starEach es X.env:=by rfl) (hpl:(backTo pos (starEach es X.env)).any (·.1)=false:=by rfl) :
  PLt X pins0 Pr0 xp (.Call (.Name x p) (e::es) [] pos) (uC fs xp t):=by
 intro pins s σ H Pr ρ post le I E0 h
 refine wpAny_Call_Name_kw (fR (X:=X.tb pins0 Pr0 xp) I hg hm ?_ hdb)
 refine PySem.W.callWith_K (h₀:=X.base) I.ok.mod.kin hk (thn (ha pos pins s σ H Pr ρ _ I E0 h) fun us s1 ⟨vs,H1,ls,ρ1,I1,r,hl,hbl,E1,hv,q⟩=>⟨I1.kIn,?_⟩) he hpl
 obtain ⟨ds,rfl,q1⟩:=fW q
 have hlen:vs.length=ds.length:=by simpa using hl
 refine EN (X:=X.tb pins0 Pr0 xp) (post:=post) F hr hb (hbl.trans hn) I1 (E1.drop (by simp [hlen])) r (fX hlen E1) q1 fun s' H' a cls dx T y I2 E2 R z1 z2=>?_
 exact ⟨σ,H',ρ1,a,cls,dx,T,y,rfl,I2.untr,E2.le le,⟨R.fly,R.na,R.nt,⟨R.wa.s0,R.wa.loc,R.wa.cel,fun p hp=>R.wa.pin p (List.mem_append_left _ hp)⟩,fun t et=>⟨(R.wt t et).s0,(R.wt t et).loc,(R.wt t et).cel,fun p hp=>(R.wt t et).pin p (List.mem_append_left _ hp)⟩⟩,z1,z2⟩
theorem CM {i:Nat} {x:Str} {pos':Pos} (hN:X.N.Nodup) (hi:X.N[i]?=some x) (hx:Loc X.env.scope x) (he:PLt X pins0 Pr0 xp e te) (hs:swapsWith e (some (.Name x pos')) pos.line X.env=pure false:=by rfl) (hf:X.fn x=true∨X.env.scope.names.lookup x=some .local:=by first|exact .inl rfl|exact .inr rfl|assumption) :
  PMt X pins0 Pr0 xp (.Assign [.Name x pos'] e pos) (wSet i te):=by
 intro pins s σ H Pr ρ post le I E h
 refine wpAny_Assign_Name (thn (he pins s σ H Pr ρ _ le I E h) fun v s1 ⟨y,H1,r,ρ1,I1,r1,E1,q1⟩=>?_) hs
 exact eU (X:=X.tb pins0 Pr0 xp) I1 hN hi hx r1 (fun s2 I2=>⟨_,H1,_,I2,E1.store (by rw [I1.len];exact (List.getElem?_eq_some_iff.mp hi).1),q1⟩) hf
theorem Ag (h1:PMt X pins0 Pr0 xp st tm):PMts X pins0 Pr0 xp [st] tm:=by
 intro pins s σ H Pr ρ post le I E h
 refine wpAny_execs_cons (thn (h1 pins s σ H Pr ρ post le I E h) fun f s1 q=>?_)
 cases f with
 | next=>exact wpAny_execs_nil q
 | brk=>exact q
 | cont=>exact q
 | ret u=>exact q
end
end L2
namespace L2
open PySem PySem.Spec PyProof.Rows PySem.W
def xT (tb:(Xc→Ev→Prop)→W Fl) (c:Str) (i:Nat) (ts:W Fl):W Fl:=fun ρ post=>tb (fun x ρ1=>isA c x.c=true∧ts (ρ1.set i (.d (.exc x.c x.ns x.ds))) fun f ρ2=>post f (ρ2.set i .un)) ρ post
section
variable {X:Cx} {pins:List (Addr×Obj)} {σ:St} {H:Hp} {s:Shared}
theorem Inv.landed {Pr:Hp} {ρ:Ev} {a:Addr} {cls:Value} {dx T:Option Addr} {h1:Heap} (I:Inv X pins σ H s) (R:uB X pins H s a cls dx T) (hstk:X.stack=X.env::X.outer)
  (k1:∀b o,b≠a→some b≠T→b∉frs (X.env::X.outer)→s.heap.get? b=some o→h1.get? b=some o) (k2:∀b o,b≠a→some b≠T→s.heap.get? b=some o→∃sl,h1.get? b=some { o with slots:=sl }):Inv X pins σ H { s with heap:=h1 }:=by
 have nch:∀b,b∉a::T.toList→b≠a∧some b≠T:=fun b hb=>⟨fun z=>hb (by simp [z]),fun z=>hb (by simp [← z])⟩
 have tra:∀b o,H b=some o→b≠a∧some b≠T∧b∉frs (X.env::X.outer):=fun b o e=>by
  refine ⟨fun z=>(by subst z;rw [R.na] at e;cases e),fun z=>(by rw [R.nt b z.symm] at e;cases e),fun z=>?_⟩
  have:=I.stkFree b (by rw [hstk];exact z)
  rw [e] at this;cases this
 refine I.call (g':=s.gens) (t':=s.toks) (d':=s.drawn) (ch:=a::T.toList) ⟨fun b o e n hf hx=>?_,fun b o e n hf hx=>?_,fun b o e n hx=>n,fun b o e hx=>?_,fun _ _ e=>e,fun _ _ _ e=>e,fun b ps e=>⟨#[],by rw [e];simp⟩⟩ (fun b o e=>?_) I.bare fun b hb=>?_
 ·
  exact k1 b o (nch b hx).1 (nch b hx).2 (by rw [← hstk];exact hf) e
 ·
  exact k2 b o (nch b hx).1 (nch b hx).2 e
 ·
  obtain ⟨sl,q⟩:=k2 b o (nch b hx).1 (nch b hx).2 e
  exact ⟨_,q⟩
 ·
  refine (I.hok b o e).stay (fun c v hc z=>?_) (fun _ z=>z) fun _ _ z=>z
  have ht:∃o',H c=some o':=by
   rcases hc with rfl|hc
   ·
    exact ⟨o,e⟩
   ·
    exact ⟨_,hc⟩
  obtain ⟨o',ho'⟩:=ht
  obtain ⟨t1,t2,t3⟩:=tra c o' ho'
  exact k1 c v t1 t2 t3 z
 ·
  have w:New X pins b:=by
   rcases List.mem_cons.mp hb with rfl|hb
   ·
    exact R.wa
   ·
    exact R.wt b (by cases T with|none=>simp at hb|some t=>simp at hb;rw [hb])
  exact ⟨.inr w.s0,w.loc,w.cel,w.pin⟩
end
section
variable {X:Cx} {body suite:List Stmt} {b0:Stmt} {c:Str} {C:Addr} {p hp pos:Pos} {tb:(Xc→Ev→Prop)→W Fl} {ts:W Fl}
theorem Ah {n:Str} {i:Nat} (hstk:X.stack=X.env::X.outer) (hf:X.env.frame=some X.env.locals) (TC:XH X.K X.mg c C) (hg:Gl X c) (hN:X.N.Nodup) (hi:X.N[i]?=some n) (hl:X.env.kindOf n=some .local) (hx:Loc X.env.scope n) (hb:∀ pins Pr xp,PMts X pins Pr xp body (tb xp)) (hs:∀ a,PMs (X.han a) (b0::suite) ts) (hdb:(c == ("__debug__" : Str))=false:=by decide)
  (hfn:X.fn n=true∨X.env.scope.names.lookup n=some .local:=by first|exact .inl rfl|exact .inr rfl|assumption) :
  PM X (.Try body [.ExceptHandler (some (.Name c p)) (some n) (b0::suite) hp] [] [] pos) (xT tb c i ts):=by
 intro pins s σ H Pr ρ post I E h
 refine wpAny_Try_except (wpAny_mono (hb pins Pr (fun x ρ1=>isA c x.c=true∧ts (ρ1.set i (.d (.exc x.c x.ns x.ds))) fun f ρ2=>post f (ρ2.set i .un)) [] s σ H Pr ρ post (fun _ _ z=>z) I.tr E h) (fun f s1 q=>?_) fun e s1 q=>?_)
 ·
  have q':=SM.untr q
  cases f with
  | next=>exact wpAny_execs_nil q'
  | brk=>exact q'
  | cont=>exact q'
  | ret u=>exact q'
 ·
  obtain ⟨σ',H',ρ',a,cls,dx,T,x,rfl,I1,E1,R,F,hA,hts⟩:=q
  refine EJ (hstk ▸ I1.ok.frames) (hstk ▸ I1.stack) hf R.fly fun h1 T1 fl hT1 k1 k2=>?_
  have I2:=I1.landed (Pr:=Pr) (ρ:=ρ') R hstk k1 k2
  have w1:=I1.newer hT1
  obtain ⟨D0,vs,rfl,hstd,hfq,hxf,rs⟩:=F
  refine wpAny_handleBy_cons (codeAny_handlers_test (fR (I2.han a) hg TC.m ?_ hdb)) (by intro q;cases q)
  obtain ⟨vv,sl,he,_⟩:=id fl
  refine ER TC hstd hA I2.kIn he rfl ?_
  refine codeAny_handlers_suite_as (Gh fl fun h2 fl2 k3=>?_)
  have I3:=I2.turned (it:=T1) (t':=s1.toks) (fun b o hb e=>k3 b o hb e) (I1.hok.fresh hT1) w1.loc (.inr w1.s0) w1.cel w1.pin
  obtain ⟨vv2,sl2,he2,_⟩:=id fl2
  have I4:=I3.track (o:=.frz ⟨.ref D0,dx,.fields vv2,sl2⟩ (.ext fun h=>h.get? a=some ⟨.ref D0,dx,.fields vv2,sl2⟩)) R.na R.wa.s0 R.wa.loc R.wa.cel R.wa.pin ⟨he2,he2,⟨_,he2⟩,fun h1 h2 p k=>k _ p⟩
  have pr:Pres H' (upd H' a (.frz ⟨.ref D0,dx,.fields vv2,sl2⟩ (.ext fun h=>h.get? a=some ⟨.ref D0,dx,.fields vv2,sl2⟩))):=fun b o _ e=>by rw [ax (bg e R.na)];exact e
  have rep:Rep X.K (upd H' a (.frz ⟨.ref D0,dx,.fields vv2,sl2⟩ (.ext fun h=>h.get? a=some ⟨.ref D0,dx,.fields vv2,sl2⟩))) (.ref a) (.exc x.c x.ns x.ds):=.exc aW True.intro rfl rfl hstd hfq (hxf.pres pr) (rs.pres pr)
  have E4:=(E1.new (o:=.frz ⟨.ref D0,dx,.fields vv2,sl2⟩ (.ext fun h=>h.get? a=some ⟨.ref D0,dx,.fields vv2,sl2⟩)) R.na).cons_d rep
  have hil:i <σ'.length:=by rw [I1.len];exact (List.getElem?_eq_some_iff.mp hi).1
  refine eU (X:=X.han a) (I4.han a) hN hi hx (v:=.ref a) rfl (fun s5 I5=>?_) hfn
  refine wpAny_mono (hs a pins s5 _ _ Pr _ _ I5 (E4.store hil) hts) (fun f s6 q=>?_) fun _ _ z=>z.elim
  cases f with
  | next =>
   obtain ⟨σ2,H2,ρ2,J,E2,q⟩:=q
   exact jC (J.unhan I.ok) hN hi hl hx hfn fun s7 J7=>⟨_,H2,_,J7,E2.forget i none,q⟩
  | brk =>
   obtain ⟨σ2,H2,ρ2,J,E2,q⟩:=q
   exact jC (J.unhan I.ok) hN hi hl hx hfn fun s7 J7=>⟨_,H2,_,J7,E2.forget i none,q⟩
  | cont =>
   obtain ⟨σ2,H2,ρ2,J,E2,q⟩:=q
   exact jC (J.unhan I.ok) hN hi hl hx hfn fun s7 J7=>⟨_,H2,_,J7,E2.forget i none,q⟩
  | ret u =>
   obtain ⟨v,σ2,H2,r,ρ2,τ,J,rv,E2,q⟩:=q
   exact jC (J.unhan I.ok) hN hi hl hx hfn fun s7 J7=>⟨v,_,H2,r,_,_,J7,rv,E2.forget (i+1) none,q⟩
end
def isC (c:Str):D→Bool
 | .exc y _ _=>isA c y
 | _=>false
def Ai (c:Str):D→(L→Prop)→Prop:=fun d k=>k (.d (.bl (isC c d)))
def uD (cs:List Str):D→(L→Prop)→Prop:=fun d k=>k (.d (.bl (cs.any fun c=>isC c d)))
theorem xU {K:Frag} {mg:Str→Option Value} {c:Str} {C:Addr} (T:XH K mg c C) (d:D) (t:Value) (h:TyD K d t):kitOne K t (.ref C)=some (isC c d):=by
 obtain ⟨cd,hcd,_⟩:=T.cls
 have hk:((clsIn K C).isSome && typeIn K (.ref C) == some (.type "type"))=true:=by rw [hcd,T.ty]; rfl
 unfold kitOne kitCls
 dsimp only
 rw [if_pos hk]
 cases d with
 | exc y ns xs =>
  obtain ⟨D0,rfl,hs⟩:=h
  have hsub:=T.sub hs
  by_cases q:D0=C
  ·
   subst q
   rw [if_pos (by simp)]
   have e1:mroIn K D0 (.ref D0)=some true:=by
    obtain ⟨L,cd',S⟩:=cS hs
    rw [S.mroIn,ub];simp
   rw [hsub] at e1
   exact e1.symm
  ·
   rw [if_neg (by intro z;exact q (Value.ref.inj (beq_iff_eq.mp z)))]
   exact hsub
 | _=>cases h;rfl
section
variable {X:Cx} {a:Expr} {ta:W L} {pos p:Pos}
theorem ES {c:Str} {C:Addr} {py:Pos} (T:XH X.K X.mg c C) (hg:Gl X "isinstance") (hm:X.mg "isinstance"=none) (hy:Gl X c) (ha:PL X a ta) (hdy:(c == ("__debug__" : Str))=false:=by decide)
  (h1:starEach [a,.Name c py] X.env=(false,eval a X.env)::starEach [.Name c py] X.env:=by rfl) (h2:starEach [.Name c py] X.env=[(false,eval (.Name c py) X.env)]:=by rfl) (hpl:(backTo pos (starEach [.Name c py] X.env)).any (·.1)=false:=by rfl) :
  PL X (.Call (.Name "isinstance" p) [a,.Name c py] [] pos) (wUn (Ai c) ta):=by
 have cr:fS X (.builtin "isinstance") (fun xs H Q=>∃ x d,xs=[x,.ref C]∧Rep X.K H x d∧Q (.bl (isC c d)) H):=by
  intro pins s σ H xs us Q I rv h
  obtain ⟨x,d,rfl,r,q⟩:=h
  obtain ⟨u,w,rfl,r1,r2⟩:=vo rv
  cases r2
  exact ui I r1 r (fun t ht=>xU T d t ht) fun tk=>⟨.bl _,H,I.tok _,rfl,q⟩
 refine PL.of (lK cr hg hm (by decide +kernel) (bC (ar ha).pe (bC (rL hy T.m (v:=.ref C) rfl hdy) fG h2) h1) (he:=h1) (hpl:=hpl)) fun σ H Pr ρ post E h=>?_
 refine ⟨Pr,ρ,fun r ρ1=>match r with
  | .d x=>Ai c x fun r=>post r ρ1
  | _=>False,E,h,fun v H' r ρ' E' p=>?_⟩
 cases r with
 | d x =>
  obtain ⟨_,e1,p1⟩:=E'.head_d
  cases e1
  exact ⟨_,x,rfl,p1,_,ρ',E'.tail.cons_d (.bl _),p⟩
 | _=>exact p.elim
end
end L2
namespace L2
open PySem PySem.Spec PyProof.Rows PySem.W
def fldD (f:Str):D→Option D
 | .exc _ ns ds=>(ns.zip ds).lookup f
 | _=>none
def xV (f:Str):D→(L→Prop)→Prop:=fun d k=>match fldD f d with
 | some v=>k (.d v)
 | none=>False
theorem nL {α:Type} {f:Str}:∀{ns:List Str} {ds:List α} {v:α},(ns.zip ds).lookup f=some v→f∈ns
 | n::ns,d::ds,v,h=>by
  simp only [List.zip_cons_cons,List.lookup] at h
  split at h
  ·
   rename_i q;rw [beq_iff_eq.mp q];exact List.mem_cons_self
  ·
   exact List.mem_cons_of_mem _ (nL h)
 | [],_,_,h=>by simp at h
 | _::_,[],_,h=>by simp at h
theorem mr {K:Frag} {H:Hp} {f:Str}:∀{ns:List Str} {vs:List V} {ds:List D} {d:D},ns.length=vs.length→Reps K H vs ds→(ns.zip ds).lookup f=some d→∃v,(ns.zip vs).lookup f=some v∧Rep K H v d
 | n::ns,v::vs,_,d,hl,.cons r t,h=>by
  simp only [List.zip_cons_cons,List.lookup] at h ⊢
  split at h
  ·
   cases h;exact ⟨v,rfl,r⟩
  ·
   exact mr (by simpa using hl) t h
 | [],_,_,_,_,_,h=>by simp at h
 | _::_,[],_,_,hl,_,_=>by simp at hl
theorem vQ {v:V} {u:Value} (r:RelV v u):handedIn u=true:=by
 cases v with
 | non=>cases r;rfl
 | bl b=>cases r;rfl
 | int i=>obtain ⟨t,rfl⟩:=r;rfl
 | str i=>obtain ⟨t,rfl⟩:=r;rfl
 | byt i=>obtain ⟨t,rfl⟩:=r;rfl
 | flt i=>obtain ⟨t,rfl⟩:=r;rfl
 | ref a=>cases r;rfl
 | ty n=>cases r;rfl
section
variable {X:Cx} {e a:Expr} {te ta:W L} {f:Str} {pos p:Pos}
theorem ET (he:PL X e te) (hb:attributeBase e f X.env (eval e X.env)=eval e X.env:=by rfl):PL X (.Attribute e f pos) (wUn (xV f) te):=by
 intro pins s σ H Pr ρ post I E h
 refine BU hb (thn (he pins s σ H Pr ρ _ I E h) fun u s1 q=>?_)
 obtain ⟨x,H1,dx,ρ1,I1,r1,E1,q1⟩:=EL.frz (post:=fun dx ρ1=>xV f dx fun r=>post r ρ1) q
 obtain ⟨_,e1,p1⟩:=E1.head_d
 cases e1
 unfold xV at q1
 split at q1
 ·
  rename_i v hv
  cases p1 with
  | @exc a o w cc C ns vs ds h1 hvv hc hn hs hq hf rs =>
   cases r1
   have hv:(ns.zip ds).lookup f=some v:=hv
   obtain ⟨L0,cd,S⟩:=cS hs
   rcases id hf with ⟨z1,z2,z3⟩|⟨d,od,z1,z2,z3⟩
   ·
    subst z1;simp at hv
   ·
    obtain ⟨v',hl,rv⟩:=mr z3 rs hv
    obtain ⟨hod,mA,nA,rA⟩:=(show s1.heap.get? d=some od∧∃mA,s1.heap.Ns1 d mA∧∀g,RelO ((ns.zip vs).lookup g) (mA g) from I1.hok d _ z2)
    have ro:=rA f
    rw [hl] at ro
    cases hm:mA f with
    | none=>rw [hm] at ro;exact ro.elim
    | some u0 =>
     rw [hm] at ro
     obtain ⟨od',hod',hlk⟩:=wL nA
     rw [hod] at hod';cases hod'
     obtain ⟨oi,Ia,hoi⟩:=n5 I1 h1 hc hn hf
     obtain ⟨q0,e0,e0'⟩:=hoi d z1
     rw [hod] at e0';cases e0'
     subst e0
     have hfo:=S.fown (name:=f) (o:=od) (v:=u0) (hq f (nL hv)) ((hlk f).trans (by rw [hm]))
     have hh:handedIn u0=true:=vQ ro
     exact wZ S I1.kIn Ia hfo hh ⟨v',H1,.d v,ρ1,I1.tok _,ro,E1.tail.cons_d rv,q1⟩
  | _=>cases hv
 ·
  exact q1.elim
structure ClsL (X:Cx) (es:List Expr) (cs:List Str) (Cs:List Addr):Prop where
 pa:PA X es (fun _ H Q=>Q (Cs.map V.ref) H)
 h:Paired (fun c C=>XH X.K X.mg c C) cs Cs
theorem CN:ClsL X [] [] []:=⟨fG,.nil⟩
theorem jD {c:Str} {C:Addr} {py:Pos} {es:List Expr} {cs:List Str} {Cs:List Addr} (T:XH X.K X.mg c C) (hy:Gl X c) (h:ClsL X es cs Cs) (hdy:(c == ("__debug__" : Str))=false:=by decide) (hs:starEach (.Name c py::es) X.env=(false,eval (.Name c py) X.env)::starEach es X.env:=by rfl):ClsL X (.Name c py::es) (c::cs) (C::Cs) :=
 ⟨bC (rL hy T.m (v:=.ref C) rfl hdy) h.pa hs,.cons T h.h⟩
theorem uE {K:Frag} {mg:Str→Option Value} {d:D} {t:Value} (ht:TyD K d t):∀{cs:List Str} {Cs:List Addr},Paired (fun c C=>XH K mg c C) cs Cs→kitAny K t (Cs.map Value.ref)=some (cs.any fun c=>isC c d)
 | _,_,.nil=>rfl
 | c::cs,C::Cs,.cons T r=>by
  have ih:=uE ht r
  simp only [List.map_cons,List.any_cons]
  unfold kitAny
  rw [xU T d t ht]
  cases isC c d
  ·
   exact ih
  ·
   rfl
theorem xW {Cs:List Addr}:∀{us:List Value},Vals (Cs.map V.ref) us→us=Cs.map Value.ref:=by
 induction Cs with
 | nil=>intro us h;cases h;rfl
 | cons C Cs ih=>intro us h;cases h with|cons r t=>cases r;rw [ih t];rfl
theorem CO {es:List Expr} {cs:List Str} {Cs:List Addr} {x1} {tpos:Pos} (T:ClsL X es cs Cs) (hg:Gl X "isinstance") (hm:X.mg "isinstance"=none) (ha:PL X a ta) (hz:Cs.length≤30:=by decide)
  (h1:starEach [a,.Tuple es x1 tpos] X.env=(false,eval a X.env)::starEach [.Tuple es x1 tpos] X.env:=by rfl) (h2:starEach [.Tuple es x1 tpos] X.env=[(false,eval (.Tuple es x1 tpos) X.env)]:=by rfl)
  (hpl:(backTo pos (starEach [.Tuple es x1 tpos] X.env)).any (·.1)=false:=by rfl) :
  PL X (.Call (.Name "isinstance" p) [a,.Tuple es x1 tpos] [] pos) (wUn (uD cs) ta):=by
 have cr:fS X (.builtin "isinstance") (fun xs H Q=>∃ x d q,xs=[x,.ref q]∧H q=some (.tup (Cs.map V.ref))∧Rep X.K H x d∧Q (.bl (cs.any fun c=>isC c d)) H):=by
  intro pins s σ H xs us Q I rv h
  obtain ⟨x,d,q,rfl,hq,r,k⟩:=h
  obtain ⟨u,w,rfl,r1,r2⟩:=vo rv
  cases r2
  obtain ⟨its,vs,it,_⟩:=I.tuple (SqT.of hq)
  obtain rfl:=xW vs
  exact xN I r1 r it (fun t ht=>uE ht T.h) fun tk=>⟨.bl _,H,I.tok _,rfl,k⟩
 refine PL.of (lK cr hg hm (by decide +kernel) (bC (ar ha).pe (bC (D3 T.pa) fG h2) h1) (he:=h1) (hpl:=hpl)) fun σ H Pr ρ post E h=>?_
 refine ⟨Pr,ρ,fun r ρ1=>match r with
  | .d x=>uD cs x fun r=>post r ρ1
  | _=>False,E,h,fun v H' r ρ' E' pp=>?_⟩
 cases r with
 | d x =>
  obtain ⟨_,e1,p1⟩:=E'.head_d
  cases e1
  refine ⟨by rw [List.length_map];exact Nat.le_trans hz (by decide),fun q hq=>⟨_,x,q,rfl,aW,p1.new hq,_,ρ',(E'.tail.new hq).cons_d (.bl _),pp⟩⟩
 | _=>exact pp.elim
end
theorem Bp {X:Cx}:XOK X (fun _=>False):=fun _ _ _ _ _ _ _ _ _ _ _ _ h=>h.elim
section
variable {X:Cx} {k k' n:Nat} {f:Addr} {fd:FuncData} {ps:List Str} {fs:FSX} {g:Str} {st:Stmt} {e:Expr} {es:List Expr} {bs:List (Option Nat)} {t:W (List L)} {p pos cpos:Pos} {xp:Xc→Prop} {c:Str} {C fI:Addr} {ns:List Str}
theorem Bq (F:FnOk X.prog X.w X.K X.mg X.base (CXr X.prog X.w) k f fd ps (spX X.K n fs)) (T:FX X.K X.mg g st f fd ps) (hr:Room k' X.A) (hx:XOK X xp) (ha:PAL X (e::es) bs t) (hk:k≤k':=by decide) (hg:Gl X g:=by rfl) (hn:bs.length=n:=by rfl) (hdb:(g == ("__debug__" : Str))=false:=by decide) (he:starEach (e::es) X.env=(false,eval e X.env)::starEach es X.env:=by rfl) (hpl:(backTo pos (starEach es X.env)).any (·.1)=false:=by rfl) :
  PL X (.Call (.Name g p) (e::es) [] pos) (qj fs xp t):=Ad F (hr.mono hk) hg T.m T.f.kp T.b hx ha hn hdb he hpl
theorem EU {pins0:List (Addr×Obj)} {Pr0:Hp} {xt:Xc→Ev→Prop} (F:FnOk X.prog X.w X.K X.mg X.base (CXr X.prog X.w) k f fd ps (spX X.K n fs)) (T:FX X.K X.mg g st f fd ps) (hr:Room k' X.A) (ha:PAL (X.tb pins0 Pr0 xt) (e::es) bs t) (hk:k≤k':=by decide) (hg:Gl X g:=by rfl) (hn:bs.length=n:=by rfl) (hdb:(g == ("__debug__" : Str))=false:=by decide) (he:starEach (e::es) X.env=(false,eval e X.env)::starEach es X.env:=by rfl) (hpl:(backTo pos (starEach es X.env)).any (·.1)=false:=by rfl) :
  PLt X pins0 Pr0 xt (.Call (.Name g p) (e::es) [] pos) (uC fs xt t):=Af F (hr.mono hk) hg T.m T.f.kp T.b ha hn hdb he hpl
theorem ql (T:XT X.K X.mg c C fI fd ps ns) (F:FnOk X.prog X.w X.K X.mg X.base CX0 2 fI fd ps (spXI X.K ns)) (hr:Room k' X.A) (hx:XOK X xp) (ha:PAL X (e::es) bs t) (hk:3≤k':=by decide) (hg:Gl X c:=by rfl) (hn:bs.length=ns.length:=by rfl)
  (hdb:(c == ("__debug__" : Str))=false:=by decide) (he:starEach (e::es) X.env=(false,eval e X.env)::starEach es X.env:=by rfl) (hpl:(backTo cpos (starEach es X.env)).any (·.1)=false:=by rfl) :
  PM X (.Raise (some (.Call (.Name c p) (e::es) [] cpos)) none pos) (qk c ns xp t) :=
 Ae T F (fun vs hv=>CL T.s T.fn hv) (hr.mono hk) hg hx ha hn hdb he hpl
abbrev fdQ (g q:Str) (st:Stmt) (md:Value) (c:Nat):FuncData:=PySem.W.fnOf g q (fT st) (dC st) (aq st) .none .none .none md none (.ref c) .none
theorem xP.mk' {K:Frag} {mg:Str→Option Value} {h:Heap} (X:K.In h) (G:h.Ns mainGlobals mg) {L fL:Addr} {st:Stmt} {md:Value} {c:Nat} (e1:nsIn K mainGlobals "LoadError"=some (some (.ref L))) (e2:readsIn K L (.type "type")=true) (e3:specialIn K (.ref L) "__getattribute__"=some (some (.builtin "type.__getattribute__")))
  (e4:findCls K (.ref L) (.type "type") "__init__"=some (.val (.ref fL))) (e5:K.lookup fL=some ⟨.type "function",none,.func (fdQ "__init__" "LoadError.__init__" st md c),#[]⟩) (e6:codeIn K (.ref c) "LoadError.__init__"=true) (e7:keepIn K (.ref fL)=true)
  (e8:∀ (kV doc pm:Value) (an:Option Addr) (cdv ct:Value) (us:List Value),us.length=2→bindArgs (PySem.W.fnOf "__init__" "LoadError.__init__" (fT st) (dC st) (aq st) .none kV doc pm an cdv ct) ⟨us,[]⟩=pure ((["self","text"]:List Str).zip us)):xP K mg L fL (fdQ "__init__" "LoadError.__init__" st md c) st :=
 ⟨mg_of X G e1,e2,e3,e4,nC e5 e6 e7,(nC e5 e6 e7).binds e8⟩
theorem XT.mk' {K:Frag} {mg:Str→Option Value} {h:Heap} (X:K.In h) (G:h.Ns mainGlobals mg) {c:Str} {C fI:Addr} {fd:FuncData} {ps ns:List Str} (e1:nsIn K mainGlobals c=some (some (.ref C))) (e2:fU K c C=true) (e3:CF K C fI=true) (b:ka K fd ps []) (e4:keepIn K (.ref C)=true) (e5:(ns.all fun f=>findIn K (.ref C) f == some none)=true):XT K mg c C fI fd ps ns :=
 ⟨mg_of X G e1,e2,EG e3,b,e4,fun f hf=>beq_iff_eq.mp (List.all_eq_true.mp e5 f hf)⟩
theorem XH.mk' {K:Frag} {mg:Str→Option Value} {h:Heap} (X:K.In h) (G:h.Ns mainGlobals mg) {c:Str} {C:Addr} (e1:nsIn K mainGlobals c=some (some (.ref C))) (e2:((clsIn K C).any fun cd=>cd.name == c)=true) (e3:typeIn K (.ref C)=some (.type "type")) (e4:mroIn K C (.type "BaseException")=some true):XH K mg c C :=
 ⟨mg_of X G e1,e1,(let ⟨cd,h1,h2⟩:=any_some e2;⟨cd,h1,beq_iff_eq.mp h2⟩),e3,e4⟩
theorem Aj {K:Frag}:∀vs H Q E,spLI K vs H Q E→vs.length=2:=fun _ _ _ _ ⟨_,_,_,_,_,_,e,_⟩=>by rw [e];rfl
theorem Ak {K:Frag} {ns:List Str}:∀vs H Q E,spXI K ns vs H Q E→vs.length=ns.length+1:=fun _ _ _ _ ⟨_,_,_,_,_,_,e,_,_,_,l,_⟩=>by rw [e,List.length_cons,l]
end
end L2
namespace L2
open PySem PySem.Spec PyProof.Rows PySem.W
section
variable {X:Cx} {e:Expr} {p apos cpos:Pos} {te:W L} {x:Str}
end
end L2
namespace L2
open PySem PySem.Spec PyProof.Rows PySem.W
section
variable {X:Cx} {a b:Expr} {p p0 pos pos0:Pos} {t u:W L}
end
end L2
namespace L2
open PySem PySem.Spec PyProof.Rows PySem.W
section
variable {X:Cx} {tg:Expr} {t:W Fl} {x:Str} {p pos:Pos}
end
end L2
namespace L2
open PySem PySem.Spec PyProof.Rows
section
variable {prog:Program} {w:World} {A:Around} {E:Value→Shared→Prop} {s:Shared}
end
section
variable {X:Cx}
end
end L2
namespace L2
open PySem PySem.Spec PyProof.Rows
section
variable {κ:Type} [DecidableEq κ]
def valV (kvs:List (κ×V)) (k:κ):Option V:=(kvs.find? fun kv=>decide (kv.1=k)).map (·.2)
theorem uF {p:κ×V} {r:List (κ×V)} {k:κ} (e:p.1=k):valV (p::r) k=some p.2:=by simp [valV,List.find?_cons,e]
theorem uG {p:κ×V} {r:List (κ×V)} {k:κ} (e:¬p.1=k):valV (p::r) k=valV r k:=by simp [valV,List.find?_cons,e]
theorem KV.val {kvs:List (κ×V)} {vs:List (κ×Value)} (r:KV kvs vs) (k:κ):RelO (valV kvs k) (valueAt vs k):=by
 unfold KV at r
 induction r with
 | nil=>exact True.intro
 | @cons p q ps qs h t ih =>
  obtain ⟨h1,h2⟩:=h
  by_cases e:p.1=k
  ·
   have e':q.1=k:=h1.symm.trans e
   have b:valueAt (q::qs) k=some q.2:=by simp [valueAt,List.find?_cons,e']
   rw [uF e,b];exact h2
  ·
   have e':¬q.1=k:=fun z=>e (h1.trans z)
   have b:valueAt (q::qs) k=valueAt qs k:=by simp [valueAt,List.find?_cons,e']
   rw [uG e,b];exact ih
theorem KV.length {kvs:List (κ×V)} {vs:List (κ×Value)} (r:KV kvs vs):kvs.length=vs.length:=Paired.length r
end
theorem CP {P:Program} {w:World} {k:Key} {u:Value} (r:RelV (kV k) u):(fQ P w).is k u=true:=by
 cases k with
 | inl i=>obtain ⟨t,e⟩:=(show ∃t,u=Value.int i t from r);subst e;exact rJ P w i t
 | inr x=>obtain ⟨t,e⟩:=(show ∃t,u=Value.str x t from r);subst e;exact rK P w x t
def NoSl (i:Expr):Prop:=∀ov iv,subscripted i false ov iv=operate [ov,iv] (getItem ov iv)
theorem CQ {prog:Program} {w:World} {A:Around} {E:Value→Shared→Prop} {s:Shared} {env:Env} {value slice:Expr} {pos:Pos} {T id:String} {Q:Value→Shared→Prop}
  (hl:typeLookup (.type T) "__getitem__"=pure (some (.builtin id))) (hs:NoSl slice)
  (h:wpAny (model prog w) A (eval value env) (fun o s₁=>wpAny (model prog w) A (eval slice env) (fun i s₂=>s₂.TypeIs o T∧wpAny (model prog w) A (getItem o i) Q E s₂) E s₁) E s) :
  wpAny (model prog w) A (eval (.Subscript value slice pos) env) Q E s:=by
 refine Subscript_ (wpAny_mono h (fun o s₁ h₁=>wpAny_mono h₁ (fun i s₂ h₂=>?_) fun _ _ x=>x) fun _ _ x=>x)
 obtain ⟨hT,h₂⟩:=h₂
 unfold subscriptTail
 refine wpAny_bind ?_
 rw [getitemInPython_of_ne hT.not_modules]
 refine wpAny_bind (wpAny_specialOf hT hl ?_)
 have fin:wpAny (model prog w) A (subscripted slice false o i) (fun r s₃=>wpAny (model prog w) A (letTemporaryGo value o r >>= fun _=>pure r) Q E s₃) E s₂:=by
  rw [hs o i]
  exact wpAny_operating (wpAny_mono h₂ (fun r s₃ h₃=>wpAny_bind (wpAny_letTemporaryGo (wpAny_pure h₃))) fun _ _ x=>x)
 first
  | exact wpAny_pure (wpAny_bind fin)
  | exact wpAny_bind (wpAny_pure (wpAny_bind fin))
  | exact wpAny_bind fin
end L2
namespace L2
open PySem PySem.Spec PyProof.Rows
abbrev DR (K:PySem.W.Frag) (H:Hp):List (Key×V)→List (Key×D)→Prop:=Paired fun (p:Key×V) (q:Key×D)=>p.1=q.1∧Rep K H p.2 q.2
def valD (kvs:List (Key×D)) (k:Key):Option D:=match kvs with
 | []=>none
 | p::r=>if p.1=k then some p.2 else valD r k
theorem DR.val {K:PySem.W.Frag} {H:Hp} {k:Key}:∀{vs:List (Key×V)} {kvs:List (Key×D)},DR K H vs kvs→(valD kvs k=none∧valV vs k=none)∨∃d v,valD kvs k=some d∧valV vs k=some v∧Rep K H v d
 | _,_,.nil=>.inl ⟨rfl,rfl⟩
 | p::vs,q::kvs,.cons h t=>by
  by_cases e:p.1=k
  ·
   refine .inr ⟨q.2,p.2,?_,uF e,h.2⟩
   unfold valD
   rw [if_pos (h.1.symm.trans e)]
  ·
   have e':¬q.1=k:=fun z=>e (h.1.trans z)
   rw [uG e]
   unfold valD
   rw [if_neg e']
   exact DR.val t
theorem DR.pres {K:PySem.W.Frag} {H H':Hp} (p:Pres H H') {vs:List (Key×V)} {kvs:List (Key×D)} (h:DR K H vs kvs):DR K H' vs kvs:=Paired.mapP h fun _ _ z=>⟨z.1,z.2.pres p⟩
def Al (d:D) (k:Key→Prop):Prop:=match d with
 | .int i=>k (.inl i)
 | .str x=>k (.inr x)
 | _=>False
theorem Am {K:PySem.W.Frag} {H:Hp} {v:V} {d:D} {u:Value} {k:Key→Prop} (h:Al d k) (r:Rep K H v d) (rv:RelV v u):∃key,v=kV key∧RelV (kV key) u∧k key:=by
 cases r with
 | int i=>exact ⟨.inl i,rfl,rv,h⟩
 | str x=>exact ⟨.inr x,rfl,rv,h⟩
 | _=>exact h.elim
def dicV (i:Nat) (ρ:Ev) (k:Addr→List (Key×D)→Prop):Prop:=match ρ[i]? with
 | some (.dic a kvs)=>k a kvs
 | _=>False
theorem xX {i:Nat} {ρ:Ev} {k:Addr→List (Key×D)→Prop} (h:dicV i ρ k):∃a kvs,ρ[i]?=some (.dic a kvs)∧k a kvs:=by
 unfold dicV at h
 cases q:ρ[i]? with
 | none=>rw [q] at h;exact h.elim
 | some l =>
  rw [q] at h
  cases l with
  | dic a kvs=>exact ⟨a,kvs,rfl,h⟩
  | _=>exact h.elim
section
variable {K:PySem.W.Frag} {Pr H:Hp} {σ:St} {ρ:Ev} {a:Addr} {kvs ks:List (Key×D)}
theorem REnv.dicAt {i:Nat} (E:REnv K Pr H σ ρ) (q:ρ[i]?=some (.dic a kvs)):σ[i]?=some (some (.ref a))∧∃vs,H a=some (.dK vs)∧DR K H vs kvs:=by
 obtain ⟨sv,hs,sl⟩:=E.slot q
 unfold aM at sl
 obtain ⟨rfl,r⟩:=sl
 exact ⟨hs,r⟩
theorem cn:owns (.dic a kvs::ρ)=a::owns ρ:=rfl
theorem REnv.addDic (E:REnv K Pr H σ ρ) {vs:List (Key×V)} (ha:H a=some (.dK vs)) (hn:a∉owns ρ) (hp:Pr a=none) (r:DR K H vs kvs):REnv K Pr H (some (.ref a)::σ) (.dic a kvs::ρ):=by
 refine ⟨E.sub,?_,fun b hb=>?_,.cons ?_ E.sl⟩
 ·
  rw [cn]
  exact List.nodup_cons.mpr ⟨hn,E.nd⟩
 ·
  rw [cn] at hb
  rcases List.mem_cons.mp hb with rfl|hb
  ·
   exact hp
  ·
   exact E.off b hb
 ·
  unfold aM
  exact ⟨rfl,vs,ha,r⟩
theorem REnv.writeD (E:REnv K Pr H σ (.dic a kvs::ρ)) {vs:List (Key×V)} (r:DR K H vs ks):REnv K Pr (upd H a (.dK vs)) σ (.dic a ks::ρ):=by
 have pa:Pr a=none:=E.off a (by rw [cn];exact List.mem_cons_self)
 have nd:=E.nd
 rw [cn] at nd
 obtain ⟨hn,nd'⟩:=List.nodup_cons.mp nd
 obtain ⟨us,ha,mu⟩:=E.at_own (a:=a) (by rw [cn];exact List.mem_cons_self)
 have p:Pres H (upd H a (.dK vs)):=fun b u pu e=>by
  rw [ax];exact e
  rintro rfl
  rw [ha] at e;cases e;exact mu.no pu
 refine ⟨fun b u e=>?_,nd,fun b hb=>E.off b hb,?_⟩
 ·
  rw [ax];exact E.sub b u e
  rintro rfl
  rw [pa] at e;cases e
 ·
  have sl:=E.sl
  cases sl with
  | cons q t =>
   unfold aM at q
   obtain ⟨e,_⟩:=q
   refine .cons ?_ (Paired.impMem t fun l hl s z=>z.pres p l fun b hbm=>?_)
   ·
    unfold aM
    exact ⟨e,vs,aW,r.pres p⟩
   ·
    rw [ax]
    rintro rfl
    exact hn (dW.mpr ⟨l,hl,hbm⟩)
end
section
variable {X:Cx} {b e:Expr} {pos p:Pos} {tb te:W L} {x:Str}
theorem Inv.dicOk {pins:List (Addr×Obj)} {σ:St} {H:Hp} {s:Shared} {a:Addr} {vs:List (Key×V)} (I:Inv X pins σ H s) (h:H a=some (.dK vs)):vs.length≤sizeLine∧(a == sysModules)=false∧∃us,KV vs us∧s.heap.DictOf (fQ X.prog X.w) a us:=I.hok a _ h
def An (i:Nat) (tb:W L):W L:=fun ρ post=>dicV i ρ fun _ _=>tb ρ fun r ρ1=>toD r fun kd=>Al kd fun key=>dicV i ρ1 fun _ kvs=>∃y,valD kvs key=some y∧post (.d y) ρ1
theorem xY (i:Nat) (hb:PL X b tb) (hs:NoSl b) (hN:X.N[i]?=some x:=by rfl) (hv:Vis X.env.scope x:=by first | exact Or.inl rfl | exact Or.inr (Or.inl rfl) | exact Or.inr (Or.inr rfl)) (hd:(x == ("__debug__" : Str))=false:=by decide)
  (hcd:(x == ("__classdict__" : Str))=false:=by decide):PL X (.Subscript (.Name x p) b pos) (An i tb):=by
 intro pins s σ H Pr ρ post I E h
 obtain ⟨a,kvs0,q0,h⟩:=xX h
 have hσ:=(E.dicAt q0).1
 refine CQ PySem.F.slot_dict_getitem.lookup hs (thn (dB hN hv hd hcd pins s σ H (fun v H'=>v=.ref a∧H=H') I ⟨_,hσ,rfl,rfl⟩) fun u s1 ⟨y,H1,I1,rx,e1,e2⟩=>?_)
 subst e1 e2
 cases rx
 refine thn (hb pins s1 σ H Pr ρ _ I1 E h) fun u2 s2 q=>?_
 obtain ⟨v,H2,kd,ρ2,I2,r2,E2,q2⟩:=EL.frz (post:=fun kd ρ1=>Al kd fun key=>dicV i ρ1 fun _ kvs=>∃y,valD kvs key=some y∧post (.d y) ρ1) q
 obtain ⟨_,e1,p1⟩:=E2.head_d
 cases e1
 obtain ⟨key,rfl,r3,q3⟩:=Am q2 p1 r2
 obtain ⟨a',kvs,qd,y,hy,q4⟩:=xX q3
 obtain ⟨hσ',vs,hl,r⟩:=E2.tail.dicAt qd
 rw [hσ] at hσ'
 cases hσ'
 obtain ⟨_,_,us,rel,dd⟩:=I2.dicOk hl
 rcases r.val (k:=key) with ⟨z,_⟩|⟨d,w,z1,z2,z3⟩
 ·
  rw [hy] at z;cases z
 ·
  rw [hy] at z1
  cases z1
  obtain ⟨w',hw,rw'⟩:=RelO.some_of (v:=w) (o:=valueAt us key) (by rw [← z2];exact rel.val key)
  exact ⟨dd.typeIs,wpAny_getItem_of (CP r3) dd.mapOf hw ⟨w,H2,_,ρ2,I2.tok _,rw',E2.tail.cons_d z3,q4⟩⟩
def wDct (kvs:List (Key×D)):W L:=fun ρ post=>∀a,post (.dic a kvs) ρ
def flatC:D→Bool
 | .int _=>true
 | .str _=>true
 | .bl _=>true
 | .non=>true
 | _=>false
theorem Rep.flatC {K:PySem.W.Frag} {H H':Hp} {v:V} {d:D} (h:L2.flatC d=true) (r:Rep K H v d):Rep K H' v d:=by
 cases r with
 | int i=>exact .int i
 | str i=>exact .str i
 | bl i=>exact .bl i
 | non=>exact .non
 | _=>cases h
inductive DPs (X:Cx):List (Option Expr)→List Expr→List (Key×D)→Prop where
 | nil:DPs X [] [] []
 | int {k v:Expr} {ks:List (Option Expr)} {vs:List Expr} {i:Int} {d:D} {kvs:List (Key×D)} (hk:PL X k (wC (.int i))) (hv:PL X v (wC d)) (hf:flatC d=true) (t:DPs X ks vs kvs):DPs X (some k::ks) (v::vs) ((.inl i,d)::kvs)
 | str {k v:Expr} {ks:List (Option Expr)} {vs:List Expr} {y:Str} {d:D} {kvs:List (Key×D)} (hk:PL X k (wC (.str y))) (hv:PL X v (wC d)) (hf:flatC d=true) (t:DPs X ks vs kvs):DPs X (some k::ks) (v::vs) ((.inr y,d)::kvs)
theorem DPs.run {pos:Pos} {pins:List (Addr×Obj)} {σ:St} {Pr:Hp} {ρ:Ev}:∀{ks:List (Option Expr)} {vs:List Expr} {kvs:List (Key×D)},DPs X ks vs kvs→∀{H:Hp} {s:Shared} {Q:List (Value×Value)→Shared→Prop},Inv X pins σ H s→REnv X.K Pr H σ ρ →
  (∀(H':Hp) (s':Shared) (us:List (Value×Value)) (ps:List (Key×V)) (qs:List (Key×Value)),Inv X pins σ H' s'→REnv X.K Pr H' σ ρ→Carries (fQ X.prog X.w) us qs→KV ps qs→DR X.K H' ps kvs→Q us s') →
  wpAny (model X.prog X.w) X.A (evalPairs (pairTrees ks vs X.env pos)) Q X.xe s
 | _,_,_,.nil,H,s,Q,I,E,h=>pairTrees_nil_walk (h H s [] [] [] I E True.intro .nil .nil)
 | _,_,_,.int (d:=d) hk hv hf t,H,s,Q,I,E,h=>by
  refine pairTrees_cons_walk (thn (hk pins s σ H Pr ρ (fun r ρ'=>r=.d _∧ρ'=ρ) I E ⟨rfl,rfl⟩) fun u s1 ⟨v,H1,r,ρ',I1,rv,E1,e1,e2⟩=>?_)
  subst e1 e2
  refine thn (hv pins s1 σ H1 Pr _ (fun r ρ'=>r=.d d∧ρ'=_) I1 E1.tail ⟨rfl,rfl⟩) fun u2 s2 ⟨v2,H2,r2,ρ2,I2,rv2,E2,e1,e2⟩=>?_
  subst e1 e2
  obtain ⟨_,z1,p1⟩:=E1.head_d
  cases z1
  cases p1
  obtain ⟨_,z2,p2⟩:=E2.head_d
  cases z2
  exact DPs.run t I2 E2.tail fun H' s' us ps qs I3 E3 hc hk3 hd=>h H' s' ((u,u2)::us) ((.inl _,v2)::ps) ((.inl _,u2)::qs) I3 E3 ⟨CP rv,rfl,hc⟩ (.cons ⟨rfl,rv2⟩ hk3) (.cons ⟨rfl,p2.flatC hf⟩ hd)
 | _,_,_,.str (d:=d) hk hv hf t,H,s,Q,I,E,h=>by
  refine pairTrees_cons_walk (thn (hk pins s σ H Pr ρ (fun r ρ'=>r=.d _∧ρ'=ρ) I E ⟨rfl,rfl⟩) fun u s1 ⟨v,H1,r,ρ',I1,rv,E1,e1,e2⟩=>?_)
  subst e1 e2
  refine thn (hv pins s1 σ H1 Pr _ (fun r ρ'=>r=.d d∧ρ'=_) I1 E1.tail ⟨rfl,rfl⟩) fun u2 s2 ⟨v2,H2,r2,ρ2,I2,rv2,E2,e1,e2⟩=>?_
  subst e1 e2
  obtain ⟨_,z1,p1⟩:=E1.head_d
  cases z1
  cases p1
  obtain ⟨_,z2,p2⟩:=E2.head_d
  cases z2
  exact DPs.run t I2 E2.tail fun H' s' us ps qs I3 E3 hc hk3 hd=>h H' s' ((u,u2)::us) ((.inr _,v2)::ps) ((.inr _,u2)::qs) I3 E3 ⟨CP rv,rfl,hc⟩ (.cons ⟨rfl,rv2⟩ hk3) (.cons ⟨rfl,p2.flatC hf⟩ hd)
theorem DPs.len:∀{ks:List (Option Expr)} {vs:List Expr} {kvs:List (Key×D)},DPs X ks vs kvs→ks.all (·.isSome)=true∧ks.length=vs.length∧ks.length=kvs.length
 | _,_,_,.nil=>⟨rfl,rfl,rfl⟩
 | _,_,_,.int _ _ _ t=>by
  obtain ⟨h1,h2,h3⟩:=t.len
  simp [h1,h2,← h3]
 | _,_,_,.str _ _ _ t=>by
  obtain ⟨h1,h2,h3⟩:=t.len
  simp [h1,h2,← h3]
theorem DR.keys {K:PySem.W.Frag} {H:Hp}:∀{vs:List (Key×V)} {kvs:List (Key×D)},DR K H vs kvs→vs.map (·.1)=kvs.map (·.1)
 | _,_,.nil=>rfl
 | _::_,_::_,.cons h t=>by rw [List.map_cons,List.map_cons,DR.keys t,h.1]
theorem CS {ps:List (Key×V)} {qs:List (Key×Value)} (h:KV ps qs):ps.map (·.1)=qs.map (·.1):=by
 unfold KV at h
 induction h with
 | nil=>rfl
 | cons h t ih=>rw [List.map_cons,List.map_cons,ih,h.1]
theorem CT {ks:List (Option Expr)} {vs:List Expr} {kvs:List (Key×D)} (h:DPs X ks vs kvs) (h0:ks≠[]) (h15:ks.length≤15) (hn:(kvs.map (·.1)).Nodup):PL X (.Dict ks vs pos) (wDct kvs):=by
 intro pins s σ H Pr ρ post I E hq
 obtain ⟨l1,l2,l3⟩:=h.len
 have hf:H s.heap.objs.size=none:=I.hok.fresh (Nat.le_refl _)
 have I1:=I.laid (a:=s.heap.objs.size) (o:=.dK []) (h':=s.heap.push { cls:=.type "dict",data:=.dict #[] }) (t':=s.toks) (fun _ _ q=>Heap.get?_push_of_some _ q) (Nat.le_refl _) ⟨Nat.zero_le _,I.past,[],.nil,Heap.DictOf.new s.heap⟩
 have E1:=E.new (o:=.dK []) hf
 refine wpAny_Dict_walk (knd:=fQ X.prog X.w) l1 l2 h0 h15 (DPs.run h I1 E1.wide fun H' s' us ps qs I2 E2 hc hk hd=>?_)
 have hno:s.heap.objs.size∉owns ρ:=fun z=>by
  obtain ⟨o,e,_⟩:=E.at_own z
  rw [hf] at e;cases e
 have ha:H' s.heap.objs.size=some (.dK []):=E2.sub _ _ (by unfold ba;rw [if_neg hno,aW])
 obtain ⟨_,hS,us0,r0,dd⟩:=I2.dicOk ha
 cases r0
 refine ⟨qs,hc,dd,fun h' dd' hs=>?_⟩
 have hq':(qs.map (·.1)).Nodup:=by rw [← CS hk,hd.keys];exact hn
 rw [PySem.merged_nil_of_nodup _ hq'] at dd'
 have he:∃q,h'.get? s.heap.objs.size=some q:=let ⟨q,_,_,hq,_⟩:=dd';⟨q,hq⟩
 have hl:ps.length≤sizeLine:=by
  have:=Paired.length hd
  exact Nat.le_trans (show ps.length≤15 by omega) (by decide)
 have I3:=I2.write (x:=s.heap.objs.size) (e:=s.heap.objs.size) (o:=.dK ps) (t':=s'.toks+us.length) (h':=h') (by rw [ha];exact True.intro) (.inl rfl) (fun b q hb z=>(hs.2 b hb).trans z) he ⟨hl,hS,qs,hk,dd'⟩
 have hp:Pr s.heap.objs.size=none:=by
  cases q:Pr s.heap.objs.size with
  | none=>rfl
  | some u=>rw [E.sub _ u q] at hf;cases hf
 exact ⟨.ref s.heap.objs.size,_,_,ρ,I3,rfl,((E1.narrow E2).addDic ha hno hp .nil).writeD hd,hq _⟩
end
end L2
namespace L2
open PySem PySem.Spec PyProof.Rows
section
variable {X:Cx}
variable {e:Expr} {p apos cpos:Pos} {te:W L} {x:Str}
end
end L2
namespace L2
open PySem PySem.Spec PyProof.Rows PySem.SeqAt
mutual
def xZ:Nat→D→Bool
 | _,.non=>true
 | _,.bl _=>true
 | _,.int _=>true
 | _,.str _=>true
 | n+1,.tup xs=>su n xs
 | n+1,.lst xs=>su n xs
 | n+1,.dct m=>m == 0
 | _,_=>false
def su:Nat→List D→Bool
 | _,[]=>true
 | n,x::xs=>xZ n x && su n xs
end
section
variable {X:Cx} {pins:List (Addr×Obj)} {σ:St} {H:Hp} {s:Shared}
end
end L2
namespace L2
open PySem PySem.Spec PyProof.Rows PySem.SeqAt
mutual
def sgnD:D→Nat
 | .int _=>602
 | .str x=>10*x.length+2
 | .tup xs=>mv xs+3
 | .lst xs=>mv xs+3
 | _=>6
def mv:List D→Nat
 | []=>0
 | x::xs=>sgnD x+2+mv xs
end
mutual
theorem Br:∀d:D,(toP d).leavesShort 601=true→(toP d).shown.length≤sgnD d
 | .non,_=>by decide
 | .bl b,_=>by cases b<;>decide
 | .int i,h=>by
  have e:(PyData.shown (.int i)).length≤601:=by simpa only [toP,PyData.leavesShort,decide_eq_true_eq] using h
  exact Nat.le_succ_of_le e
 | .str x,h=>by
  have hx:∀c∈x.cps.toList,c <16 ^ 8:=by simpa only [toP,PyData.leavesShort,List.all_eq_true,decide_eq_true_eq] using h
  have e:=PySem.StrLaws.reprText_len x hx
  simp only [toP,PyData.shown,sgnD]
  omega
 | .tup xs,h=>by
  have h1:=sx xs (by simpa only [toP,PyData.leavesShort] using h)
  have h2:=tupleText_len_le (PyData.shownAll (toPs xs))
  have h3:=PyData.shownAll_length (toPs xs)
  simp only [toP,PyData.shown,sgnD]
  omega
 | .lst xs,h=>by
  have h1:=sx xs (by simpa only [toP,PyData.leavesShort] using h)
  have h2:=listText_len_le (PyData.shownAll (toPs xs))
  have h3:=PyData.shownAll_length (toPs xs)
  simp only [toP,PyData.shown,sgnD]
  omega
 | .dct _,_=>by simp only [toP,sgnD];decide
 | .exc _ _ _,_=>by simp only [toP,sgnD];decide
theorem sx:∀ds:List D,PyData.leavesShortAll 601 (toPs ds)=true→((PyData.shownAll (toPs ds)).map (·.length)).sum+2*(toPs ds).length≤mv ds
 | [],_=>by simp only [toPs,PyData.shownAll,List.map_nil,List.sum_nil,List.length_nil,mv];omega
 | d::ds,h=>by
  have h':(toP d).leavesShort 601=true∧PyData.leavesShortAll 601 (toPs ds)=true:=by simpa only [toPs,PyData.leavesShortAll,Bool.and_eq_true] using h
  have h1:=Br d h'.1
  have h2:=sx ds h'.2
  simp only [toPs,PyData.shownAll,List.map_cons,List.sum_cons,List.length_cons,mv]
  omega
end
structure qm (d:D):Prop where
 ok:okD 40 d=true
 sh:a9 d=true
 ln:(toP d).shown.length≤sizeLine
theorem qh.l {d:D} (h:qh d):qm d:=⟨h.ok,h.sh,h.len⟩
theorem qm.of {d:D} (h1:okD 40 d=true) (h2:a9 d=true) (h3:sgnD d≤16777216):qm d:=by
 refine ⟨h1,h2,Nat.le_trans (Br d (PyData.leavesShort_of_canLay0 601 _ (gh 40 d h1).1 (lN d h2).1)) ?_⟩
 have e:sizeLine=16777216:=by decide
 rw [e]
 exact h3
section
variable {X:Cx}
def dc:OpN:=fun ds k=>∃d,ds=[d]∧Gb d=true∧qm d∧k (.d (.str (Cy d)))
theorem jE {k:Nat} (hr:Room k X.A):eX X (.builtin "repr") dc:=by
 intro pins s σ H Pr ρ vs us ds post I r E ps ⟨d,e,hq,ho,h⟩
 subst e
 obtain ⟨v,rfl,rd⟩:=m7 ps
 obtain ⟨u,rfl,ru⟩:=pM r
 obtain ⟨as,rr⟩:=gU I d v u ru rd (gh 40 d ho.ok).1
 have hdep:=(gh 40 d ho.ok).2
 have hex:∃a,u=.ref a:=by
  cases rd with
  | tup h1 h2=>cases ru;exact ⟨_,rfl⟩
  | lst h1 h2=>cases ru;exact ⟨_,rfl⟩
  | _=>cases hq
 obtain ⟨a,rfl⟩:=hex
 refine repr_of_reads' rr (lN d ho.sh).2 (PyData.noDict_hsm (PyData.hasDict_of_canLay _ (gh 40 d ho.ok).1)) hr.gd (by have:=hr.units;omega) (fun _ _ e=>e) (fun h' t tk hk=>?_) ho.ln
 exact ⟨.str _,H,_,I.kept (h':=h') (t':=tk) hk,⟨t,rfl⟩,E.cons_d (.str _),h⟩
end
end L2
namespace L2
open PySem PySem.Spec PyProof.Rows
section
variable {X:Cx} {b:Expr} {pos p:Pos} {tb:W L} {x:Str}
def oq (i:Nat) (tb:W L):W L:=fun ρ post=>ownV i ρ fun _ _=>tb ρ fun r ρ1=>match r with
 | .own _ ys=>ownV i ρ1 fun _ xs=>xs.length+ys.length≤sizeLine∧∀q,post (.own q (xs++ys)) ρ1
 | _=>False
theorem ya (i:Nat) (hb:PL X b tb) (hN:X.N[i]?=some x:=by rfl) (hv:Vis X.env.scope x:=by first | exact Or.inl rfl | exact Or.inr (Or.inl rfl) | exact Or.inr (Or.inr rfl)) (hd:(x == ("__debug__" : Str))=false:=by decide)
  (hcd:(x == ("__classdict__" : Str))=false:=by decide):PL X (.BinOp (.Name x p) .Add b pos) (oq i tb):=by
 refine PL.of (FT xh (dB hN hv hd hcd) hb.pe) fun σ H Pr ρ post E h=>?_
 obtain ⟨l,xs0,q0,h⟩:=eY h
 obtain ⟨hσ,vs0,hl0,_⟩:=E.ownAt q0
 refine ⟨.ref l,hσ,Pr,ρ,_,E,h,fun v H' r ρ' E' pp=>?_⟩
 split at pp
 rotate_left
 ·
  exact pp.elim
 rename_i l2 ys
 obtain ⟨l',xs,q,hz,pp⟩:=eY pp
 obtain ⟨hσ',vs,hl,r1⟩:=E'.tail.ownAt q
 rw [hσ] at hσ'
 cases hσ'
 obtain ⟨hs,ws,hl2,r2⟩:=E'.ownAt (i:=0) rfl
 have ev:v=.ref l2:=by simpa using hs
 subst ev
 exact ⟨l,l2,vs,ws,rfl,rfl,SqL.of hl,SqL.of hl2,by rw [r1.length,r2.length];exact hz,fun p hp=>⟨_,ρ',E'.tail.cons_own hp (r1.append r2),pp p⟩⟩
end
end L2
namespace L2
open PySem PySem.Spec PyProof.Rows PySem.W
section
variable {prog:Program} {w:World} {A:Around} {E:Value→Shared→Prop} {s:Shared} {r:Addr}
end
section
variable {prog:Program} {w:World} {A:Around} {s:Shared} {R:Result→Shared→Prop}
variable {I:Addr} {fp wr:List Addr} {G:Array GenState→Array GenState→Prop} {n:Nat} {P:Nat→Value→Prop} {St:Nat→Shared→Prop}
end
section
variable {prog:Program} {w:World} {A:Around} {E:Value→Shared→Prop} {s:Shared}
variable {I:Addr} {fp wr:List Addr} {G:Array GenState→Array GenState→Prop} {n:Nat} {P:Nat→Value→Prop} {St:Nat→Shared→Prop}
end
section
variable {X:Cx} {a:Expr} {p p0 pos pos0:Pos} {t:W L}
end
end L2
namespace L2
open PySem PySem.Spec PyProof.Rows
section
variable {X:Cx} {e:Expr} {p apos cpos:Pos} {te:W L} {x:Str}
theorem Reps.eraseIdx {K:PySem.W.Frag} {H:Hp}:∀{vs:List V} {ds:List D} (j:Nat),Reps K H vs ds→Reps K H (vs.eraseIdx j) (ds.eraseIdx j)
 | _,_,_,.nil=>by simpa using Reps.nil
 | _,_,0,.cons r t=>t
 | _,_,j+1,.cons r t=>.cons r (Reps.eraseIdx j t)
end
end L2
namespace L2
open PySem PySem.Spec PyProof.Rows
section
variable {X:Cx} {p apos cpos:Pos} {x:Str}
end
end L2
namespace L2
open PySem
theorem gX {g:Tg} {b:W Fl} {post:Fl→Ev→Prop}:∀(xs:List D) (I:Nat→Ev→Prop) (ρ:Ev),I 0 ρ →
  (∀j x ρ,xs[j]?=some x→I j ρ→∀Q:Fl→Ev→Prop,(∀ρ',I (j+1) ρ'→Q .nx ρ')→(∀ρ',I (j+1) ρ'→Q .ct ρ')→(∀ρ',post .nx ρ'→Q .bk ρ')→(∀r ρ',post (.rt r) ρ'→Q (.rt r) ρ')→g x ρ fun ρ1=>b ρ1 Q) →
  (∀ρ,I xs.length ρ→post .nx ρ)→cB g b xs ρ post
 | [],I,ρ,h0,_,fin=>fin ρ h0
 | x::xs,I,ρ,h0,step,fin=>by
  unfold cB
  refine step 0 x ρ rfl h0 _ (fun ρ' h=>?_) (fun ρ' h=>?_) (fun ρ' h=>h) (fun r ρ' h=>h)
  ·
   exact gX xs (fun j=>I (j+1)) ρ' h (fun j y ρ e hi=>step (j+1) y ρ e hi) fin
  ·
   exact gX xs (fun j=>I (j+1)) ρ' h (fun j y ρ e hi=>step (j+1) y ρ e hi) fin
theorem Ao {α:Type} {enc:α→D} {g:Tg} {b:W Fl} {post:Fl→Ev→Prop} (as:List α) (I:List α→Ev→Prop) (ρ:Ev) (h0:I [] ρ)
  (step:∀pre a suf ρ,as=pre++a::suf→I pre ρ→∀Q:Fl→Ev→Prop,(∀ρ',I (pre++[a]) ρ'→Q .nx ρ')→(∀ρ',I (pre++[a]) ρ'→Q .ct ρ')→(∀ρ',post .nx ρ'→Q .bk ρ')→(∀r ρ',post (.rt r) ρ'→Q (.rt r) ρ')→g (enc a) ρ fun ρ1=>b ρ1 Q)
  (fin:∀ρ,I as ρ→post .nx ρ):cB g b (as.map enc) ρ post:=by
 refine gX _ (fun j ρ=>I (as.take j) ρ) ρ h0 (fun j x ρ e hi Q h1 h2 h3 h4=>?_) fun ρ h=>fin ρ (by simpa using h)
 rw [List.getElem?_map] at e
 cases ea:as[j]? with
 | none=>rw [ea] at e;cases e
 | some a =>
  rw [ea] at e
  cases e
  obtain ⟨hj,ea'⟩:=List.getElem?_eq_some_iff.mp ea
  have es:as.take (j+1)=as.take j++[a]:=by rw [List.take_succ,ea];rfl
  have ed:as=as.take j++a::as.drop (j+1):=by
   have:=(List.take_append_drop j as).symm
   rw [List.drop_eq_getElem_cons hj,ea'] at this
   exact this
  rw [es] at h1 h2
  exact step _ a _ ρ ed hi Q h1 h2 h3 h4
theorem uH {g:Tg} {ti:W Bool} {te:W L} {k:List D→Ev→Prop}:∀(xs:List D) (I:Nat→Ev→List D→Prop) (ρ:Ev) (acc:List D),I 0 ρ acc →
  (∀j x ρ acc,xs[j]?=some x→I j ρ acc→∀Q:Ev→List D→Prop,(∀ρ' acc',I (j+1) ρ' acc'→Q ρ' acc')→g x ρ fun ρ1=>ti ρ1 fun b ρ2=>if b=true then te ρ2 fun r ρ3=>toD r fun y=>Q ρ3 (acc++[y]) else Q ρ2 acc) →
  (∀ρ acc,I xs.length ρ acc→k acc ρ)→gb g ti te xs ρ acc k
 | [],I,ρ,acc,h0,_,fin=>fin ρ acc h0
 | x::xs,I,ρ,acc,h0,step,fin=>by
  unfold gb
  exact step 0 x ρ acc rfl h0 (fun ρ acc=>gb g ti te xs ρ acc k) fun ρ' acc' h=>uH xs (fun j=>I (j+1)) ρ' acc' h (fun j y ρ acc e hi=>step (j+1) y ρ acc e hi) fin
theorem jF {α:Type} {enc:α→D} {h:α→Option D} {caps:Ev} {ti:W Bool} {te:W L} {k:List D→Ev→Prop}:∀(as:List α) (acc:List D) (l:L),
  (∀a∈as,∀Q:Ev→Option D→Prop,Q (.d (enc a)::caps) (h a)→ti (.d (enc a)::caps) fun b ρ2=>if b=true then te ρ2 fun r ρ3=>toD r fun y=>Q ρ3 (some y) else Q ρ2 none) →
  (∀l',k (acc++as.filterMap h) (l'::caps))→gb (cj 0) ti te (as.map enc) (l::caps) acc k
 | [],acc,l,_,fin=>by have:=fin l;simpa [gb] using this
 | a::as,acc,l,step,fin=>by
  show gb (cj 0) ti te (enc a::as.map enc) (l::caps) acc k
  unfold gb
  show ti (.d (enc a)::caps) _
  refine step a List.mem_cons_self (fun ρ o=>match o with|some y=>gb (cj 0) ti te (as.map enc) ρ (acc++[y]) k|none=>gb (cj 0) ti te (as.map enc) ρ acc k) ?_
  cases e:h a with
  | none=>exact jF as acc _ (fun b hb=>step b (List.mem_cons_of_mem _ hb)) (by simpa [List.filterMap_cons,e] using fin)
  | some y=>exact jF as (acc++[y]) _ (fun b hb=>step b (List.mem_cons_of_mem _ hb)) (by simpa [List.filterMap_cons,e] using fin)
theorem lQ {α:Type} {enc:α→D} {h:α→D} {caps:Ev} {te:W L} {k:List D→Ev→Prop} (as:List α) (acc:List D) (l:L)
  (step:∀a∈as,∀Q:Ev→D→Prop,Q (.d (enc a)::caps) (h a)→te (.d (enc a)::caps) fun r ρ3=>toD r fun y=>Q ρ3 y)
  (fin:∀l',k (acc++as.map h) (l'::caps)):gb (cj 0) oe te (as.map enc) (l::caps) acc k:=by
 refine jF (h:=fun a=>some (h a)) as acc l (fun a ha Q q=>?_) (by simpa using fin)
 simp only [oe,if_true]
 exact step a ha (fun ρ y=>Q ρ (some y)) q
theorem ou {α:Type} {x:α} {xs:List α}:atI (x::xs) 0=some x:=iI (j:=0) rfl
theorem nc {α:Type} {x y:α} {xs:List α}:atI (x::y::xs) 1=some y:=iI (j:=1) rfl
theorem Ap {α:Type} {x y z:α} {xs:List α}:atI (x::y::z::xs) 2=some z:=iI (j:=2) rfl
theorem EV {α:Type} {x y z w:α} {xs:List α}:atI (x::y::z::w::xs) 3=some w:=iI (j:=3) rfl
theorem Gm {α:Type} {x y z w v:α} {xs:List α}:atI (x::y::z::w::v::xs) 4=some v:=iI (j:=4) rfl
theorem yb {α:Type} {xs:List α} {i:Int} {x:α} (h0:0≤i) (h:xs[i.toNat]?=some x):atI xs i=some x:=by
 have:=iI h
 rwa [Int.toNat_of_nonneg h0] at this
theorem bK {α:Type} {f:α→D} {xs:List α} {k:Nat} (h:k <xs.length):atI (xs.map f) (k:Int)=some (f xs[k]):=iI (by rw [List.getElem?_map,List.getElem?_eq_getElem h];rfl)
theorem ix30:ixN 3 0=some 0:=by decide
theorem ix31:ixN 3 1=some 1:=by decide
theorem ix32:ixN 3 2=some 2:=by decide
theorem yc {α:Type} {x y:α} (c:Prop) [Decidable c]:atI [x,y] (if c then 1 else 0)=some (if c then y else x):=by
 by_cases h:c
 ·
  simp only [if_pos h,nc]
 ·
  simp only [if_neg h,ou]
theorem jG (n:Nat):rngD 0 n=(List.range n).map fun (i:Nat)=>D.int (i:Int):=by
 unfold rngD
 simp
theorem Aq {g:Tg} {b:W Fl} {post:Fl→Ev→Prop} (lo:Int) (n:Nat) (I:Nat→Ev→Prop) (ρ:Ev) (h0:I 0 ρ)
  (step:∀j ρ,j <n→I j ρ→∀Q:Fl→Ev→Prop,(∀ρ',I (j+1) ρ'→Q .nx ρ')→(∀ρ',I (j+1) ρ'→Q .ct ρ')→(∀ρ',post .nx ρ'→Q .bk ρ')→(∀r ρ',post (.rt r) ρ'→Q (.rt r) ρ')→g (.int (lo+(j:Int))) ρ fun ρ1=>b ρ1 Q)
  (fin:∀ρ,I n ρ→post .nx ρ):cB g b (rngD lo n) ρ post:=by
 have hl:(rngD lo n).length=n:=by simp [rngD]
 refine gX _ I ρ h0 (fun j x ρ hj hi Q h1 h2 h3 h4=>?_) fun ρ h=>fin ρ (by rwa [hl] at h)
 have hj':j <n:=by rw [← hl];exact (List.getElem?_eq_some_iff.mp hj).1
 have e:x=.int (lo+(j:Int)):=by
  unfold rngD at hj
  rw [List.getElem?_map,List.getElem?_range hj'] at hj
  exact (Option.some.inj hj).symm
 subst e
 exact step j ρ hj' hi Q h1 h2 h3 h4
theorem a5 {i:Int} (h:i.natAbs <2 ^ 200):bZ i:=Nat.lt_of_lt_of_le h (Nat.pow_le_pow_right (by decide) (by decide))
theorem dZ (x:Int) {m:Int} (h:0 <m):0≤x.fmod m∧x.fmod m <m:=by
 rw [Int.fmod_eq_emod_of_nonneg _ (by omega)]
 exact ⟨Int.emod_nonneg _ (by omega),Int.emod_lt_of_pos _ h⟩
theorem sy {i:Int} {n:Nat} (h0:0≤i) (h:i <2 ^ n) (hn:n≤1000000):bZ i:=by
 have:i.natAbs <2 ^ n:=by
  have e:((2 ^ n:Nat):Int)=(2:Int) ^ n:=by simp
  omega
 exact Nat.lt_of_lt_of_le this (Nat.pow_le_pow_right (by decide) hn)
theorem Gn:(10:Int) ^ 60 <2 ^ 200:=by decide
theorem qo {i:Int} (h0:0≤i) (h:i≤10 ^ 60):i.natAbs <2 ^ 9000:=by
 have:i.natAbs <2 ^ 200:=by
  have:=Gn
  have e:((2 ^ 200:Nat):Int)=(2:Int) ^ 200:=by decide
  omega
 exact Nat.lt_of_lt_of_le this (Nat.pow_le_pow_right (by decide) (by decide))
theorem RB.sub {m n:Nat} {p q:Rat} (hp:RB m p) (hq:RB n q):RB (m+n+1) (p - q):=by
 rw [Rat.sub_eq_add_neg]
 exact hp.add hq.neg
theorem RB.of_divInt {t b:Int} {n:Nat} (h:b≠0) (ht:t.natAbs <2 ^ n) (hb:b.natAbs <2 ^ n):RB n (Rat.divInt t b):=⟨Nat.lt_of_le_of_lt (Bn h) ht,Nat.lt_of_le_of_lt (Bm h) hb⟩
theorem oy (p q:Rat):((p.den:Int)*(q.den:Int))≠0:=by
 have dp:=den_pos p
 have dq:=den_pos q
 exact Int.mul_ne_zero (by omega) (by omega)
theorem lR (p q:Rat):((p.den:Int)*(q.den:Int)).natAbs=p.den*q.den:=by rw [Int.natAbs_mul,Int.natAbs_natCast,Int.natAbs_natCast]
theorem sD (q:Rat):(q.den:Int)≠0:=by have:=den_pos q;omega
theorem RB.zero:RB 1 0:=⟨by decide,by decide⟩
theorem EW (p q:Rat):decide (p.num*(q.den:Int) <q.num*(p.den:Int))=decide (p <q):=by
 rw [decide_eq_decide,Rat.lt_iff]
structure Ask where
 nm:Str
 one:Nat
 other:Nat
 size:Rat
structure Ring where
 rooms:List Rat
 asks:List Ask
def Ring.n (R:Ring):Nat:=R.rooms.length
def askD (a:Ask):D:=.tup [.str a.nm,.int a.one,.int a.other,frD a.size]
def aH (R:Ring):D:=.tup [.lst (R.rooms.map frD),.lst (R.asks.map askD)]
theorem Bs (q:Rat):(q.num:Rat)=q*(q.den:Rat):=by
 have h:=Rat.num_divInt_den q
 have hd:(q.den:Rat)≠0:=fun w=>by
  have:=Rat.natCast_pos.mpr q.den_pos
  rw [w] at this
  exact absurd this (by decide)
 rw [Rat.divInt_eq_div] at h
 have e:(((q.den:Nat):Int):Rat)=(q.den:Rat):=rfl
 rw [e] at h
 have e2:q*(q.den:Rat)=(q.num:Rat) / (q.den:Rat)*(q.den:Rat):=by rw [h]
 rw [e2,Rat.div_mul_cancel hd]
theorem qp {q:Rat} {V:Nat} (h0:0≤q) (hv:q <(V:Rat)):q.num.natAbs <V*q.den:=by
 have hd:(0:Rat) <(q.den:Rat):=Rat.natCast_pos.mpr q.den_pos
 have h1:q*(q.den:Rat) <(V:Rat)*(q.den:Rat):=Rat.mul_lt_mul_of_pos_right hv hd
 rw [← Bs] at h1
 have h2:((q.num:Int):Rat) <(((V*q.den:Nat):Int):Rat):=by
  have e:(((V*q.den:Nat):Int):Rat)=(V:Rat)*(q.den:Rat):=by
   push_cast
   rfl
  rw [e];exact h1
 have h3:q.num <((V*q.den:Nat):Int):=Rat.intCast_lt_intCast.mp h2
 have h4:0≤q.num:=Rat.num_nonneg.mpr h0
 omega
theorem RB.of_val {q:Rat} {d v:Nat} (h0:0≤q) (hd:q.den <2 ^ d) (hv:q <((2 ^ v:Nat):Rat)):RB (v+d) q:=by
 refine ⟨Nat.lt_of_lt_of_le (qp h0 hv) ?_,Nat.lt_of_lt_of_le hd (Nat.pow_le_pow_right (by decide) (by omega))⟩
 rw [Nat.pow_add]
 exact Nat.mul_le_mul_left _ (Nat.le_of_lt hd)
structure en (n:Nat) (a:Ask):Prop where
 one:a.one <n
 other:a.other <n
 ne:a.one≠a.other
 size:0≤a.size
 lt:a.size <((2 ^ 300:Nat):Rat)
 nm:PyData.strOk a.nm=true
structure Ring.Ok (R:Ring):Prop where
 lo:2≤R.n
 hi:R.n≤12
 few:R.asks.length≤20
 room:∀q∈R.rooms,0 <q∧RB 60 q
 ask:∀a∈R.asks,en R.n a
 cd:∃D:Nat,0 <D∧D <2 ^ 1240∧∀a∈R.asks,a.size.den∣D
theorem Ring.Ok.rb {R:Ring} (h:R.Ok) {a:Ask} (ha:a∈R.asks):RB 1540 a.size:=by
 obtain ⟨D,d0,d1,hd⟩:=h.cd
 exact RB.of_val (v:=300) (d:=1240) (h.ask a ha).size (Nat.lt_of_le_of_lt (Nat.le_of_dvd d0 (hd a ha)) d1) (h.ask a ha).lt
theorem d5 {α:Type} {n:Nat} {f:α→D}:∀xs:List α,(∀x∈xs,okD n (f x)=true)→okDs n (xs.map f)=true
 | [],_=>rfl
 | x::xs,h=>by simp [okDs,h x List.mem_cons_self,d5 xs fun y hy=>h y (List.mem_cons_of_mem _ hy)]
theorem nM (n:Nat) (q:Rat):okD (n+1) (frD q)=true:=by cases n<;>simp [frD,okD,okDs]
theorem CU {n:Nat} {a:Ask} (h:en n a):okD 2 (askD a)=true:=by simp [askD,okD,okDs,h.nm,nM]
theorem Ar {R:Ring} (h:R.Ok):okD 4 (aH R)=true:=by
 simp only [aH,okD,okDs,Bool.and_true,Bool.and_eq_true]
 exact ⟨d5 _ fun q _=>nM 1 q,d5 _ fun a ha=>CU (h.ask a ha)⟩
theorem nN (ns:List Int):di (.lst (ns.map .int)):=cm (n:=1) (by simp only [okD];exact d5 _ fun _ _=>rfl) (by decide)
theorem qq:∀(as bs:List Int),PyData.eqvAll (toPs (as.map .int)) (toPs (bs.map .int))=decide (as=bs)
 | [],[]=>by simp [jz]
 | [],b::bs=>by simp [toPs,PyData.eqvAll]
 | a::as,[]=>by simp [toPs,PyData.eqvAll]
 | a::as,b::bs=>by
  rw [List.map_cons,List.map_cons,cV,qq as bs,gf]
  simp
theorem As (as bs:List Int):eqD (.lst (as.map .int)) (.lst (bs.map .int))=decide (as=bs):=by rw [xA,qq]
theorem uI:∀(as bs:List Rat),PyData.eqvAll (toPs (as.map frD)) (toPs (bs.map frD))=decide (as=bs)
 | [],[]=>by simp [jz]
 | [],b::bs=>by simp [toPs,PyData.eqvAll]
 | a::as,[]=>by simp [toPs,PyData.eqvAll]
 | a::as,b::bs=>by
  rw [List.map_cons,List.map_cons,cV,uI as bs,xB]
  simp
theorem yd (as bs:List Rat):eqD (.lst (as.map frD)) (.lst (bs.map frD))=decide (as=bs):=by rw [xA,uI]
theorem jH (qs:List Rat):di (.lst (qs.map frD)):=cm (n:=2) (by simp only [okD];exact d5 _ fun q _=>nM 0 q) (by decide)
def StOk (xs:List D):Prop:=∃(c sd:Int) (t:Bool),xs=[.int c,.int sd,.bl t]∧0≤sd∧sd <2147483647
theorem uJ {t b g:Int} (h:b≠0) (e:g=bX t b):D.tup [.int (t.fdiv g),.int (b.fdiv g)]=frD (Rat.divInt t b):=by
 subst e
 rw [xx h,Ci h]
 rfl
def denP (qs:List Rat):Nat:=(qs.map (·.den)).foldr (·*·) 1
theorem oz:∀qs:List Rat,0 <denP qs
 | []=>Nat.one_pos
 | a::t=>Nat.mul_pos (den_pos a) (oz t)
def sumQ (qs:List Rat):Rat:=qs.foldl (·+·) 0
theorem ye (qs:List Rat):∀acc:Rat,qs.foldl (·+·) acc=acc+sumQ qs:=by
 unfold sumQ
 induction qs with
 | nil=>intro acc;simp [Rat.add_zero]
 | cons q qs ih=>intro acc;rw [List.foldl_cons,List.foldl_cons,ih,ih (0+q),Rat.zero_add,Rat.add_assoc]
theorem mw (q:Rat) (qs:List Rat):sumQ (q::qs)=q+sumQ qs:=by
 show (q::qs).foldl (·+·) 0=_
 rw [List.foldl_cons,ye,Rat.zero_add]
theorem Au {xs:List D} {i:Int} {k:L→Prop}:opIx (.lst xs) (.int i) k=∃v,atI xs i=some v∧k (.d v):=rfl
theorem Av {xs:List D} {i:Int} {k:L→Prop}:opIx (.tup xs) (.int i) k=∃v,atI xs i=some v∧k (.d v):=rfl
theorem Aw {z:Str} {i:Int} {k:L→Prop}:opIx (.str z) (.int i) k=(z.length≤sizeLine∧∃c,atI z.cps.toList i=some c∧k (.d (.str ⟨#[c]⟩))):=rfl
theorem Ax {R:Ring} {k:L→Prop}:opIx (aH R) (.int 0) k=k (.d (.lst (R.rooms.map frD))):=by
 show (∃v,atI _ _=some v∧_)=_
 simp only [ou,Option.some.injEq,exists_eq_left']
theorem Ay {R:Ring} {k:L→Prop}:opIx (aH R) (.int 1) k=k (.d (.lst (R.asks.map askD))):=by
 show (∃v,atI _ _=some v∧_)=_
 simp only [nc,Option.some.injEq,exists_eq_left']
theorem CV {a:Ask} {k:L→Prop}:opIx (askD a) (.int 0) k=k (.d (.str a.nm)):=by
 show (∃v,atI _ _=some v∧_)=_
 simp only [ou,Option.some.injEq,exists_eq_left']
theorem CW {a:Ask} {k:L→Prop}:opIx (askD a) (.int 1) k=k (.d (.int a.one)):=by
 show (∃v,atI _ _=some v∧_)=_
 simp only [nc,Option.some.injEq,exists_eq_left']
theorem CY {a:Ask} {k:L→Prop}:opIx (askD a) (.int 2) k=k (.d (.int a.other)):=by
 show (∃v,atI _ _=some v∧_)=_
 simp only [Ap,Option.some.injEq,exists_eq_left']
theorem CZ {a:Ask} {k:L→Prop}:opIx (askD a) (.int 3) k=k (.d (frD a.size)):=by
 show (∃v,atI _ _=some v∧_)=_
 simp only [EV,Option.some.injEq,exists_eq_left']
theorem EX {q:Rat} {k:L→Prop}:opIx (frD q) (.int 0) k=k (.d (.int q.num)):=by
 show (∃v,atI _ _=some v∧_)=_
 simp only [ou,Option.some.injEq,exists_eq_left']
theorem EY {q:Rat} {k:L→Prop}:opIx (frD q) (.int 1) k=k (.d (.int (q.den:Int))):=by
 show (∃v,atI _ _=some v∧_)=_
 simp only [nc,Option.some.injEq,exists_eq_left']
theorem yf (q:Rat):noL (frD q)=true:=by simp [frD,noL,noLs]
theorem lS {α:Type} {f:α→D}:∀(xs:List α),(∀x∈xs,noL (f x)=true)→noLs (xs.map f)=true
 | [],_=>rfl
 | x::xs,h=>by simp [noLs,h x List.mem_cons_self,lS xs fun y hy=>h y (List.mem_cons_of_mem _ hy)]
theorem uK (qs:List Rat):noLs (qs.map frD)=true:=lS _ fun q _=>yf q
theorem yg {α:Type} (f:α→Int) (xs:List α):noLs (xs.map fun x=>D.int (f x))=true:=lS _ fun _ _=>rfl
theorem yh (R:Ring):R.rooms.length=R.n:=rfl
def wayS (w:Bool):Str:=if w then "on" else "back"
theorem uL:di (.str "on"):=cm (n:=0) (by decide +kernel) (by decide)
theorem nO:di (.str "back"):=cm (n:=0) (by decide +kernel) (by decide)
theorem yi (w:Bool):di (.str (wayS w)):=by
 cases w
 ·
  exact nO
 ·
  exact uL
theorem Fb (w:Bool):(wayS w="on")=(w=true):=by cases w <;> simp [wayS] <;> decide
theorem Az (w:Bool):(wayS w="back")=(w=false):=by cases w <;> simp [wayS] <;> decide
theorem yj {is:List Nat} {xs:List D} {ρ:Ev} {k:Ev→Prop}:lA is (.tup xs) ρ k=fY is xs ρ k:=rfl
theorem yk {is:List Nat} {a:Ask} {ρ:Ev} {k:Ev→Prop}:lA is (askD a) ρ k=fY is [.str a.nm,.int a.one,.int a.other,frD a.size] ρ k:=rfl
theorem AA {is:List Nat} {q:Rat} {ρ:Ev} {k:Ev→Prop}:lA is (frD q) ρ k=fY is [.int q.num,.int (q.den:Int)] ρ k:=rfl
theorem sE {xs:List D} {k:List D→Prop}:fZ (.lst xs) k=k xs:=rfl
theorem sF {xs:List D} {k:List D→Prop}:fZ (.tup xs) k=k xs:=rfl
theorem vR {q:Rat} {k:List D→Prop}:fZ (frD q) k=k [.int q.num,.int (q.den:Int)]:=rfl
theorem yl {xs:List D} {k:L→Prop}:cz [.lst xs] k=k (.d (.int xs.length)):=rfl
theorem ym {xs:List D} {k:L→Prop}:cz [.tup xs] k=k (.d (.int xs.length)):=rfl
theorem yn {x:Str} {k:L→Prop}:cz [.str x] k=(x.length≤sizeLine∧k (.d (.int x.length))):=rfl
theorem AB {q:Rat} {k:L→Prop}:cz [frD q] k=k (.d (.int 2)):=rfl
theorem vS {R:Ring} {k:L→Prop}:cz [aH R] k=k (.d (.int 2)):=rfl
theorem yo {a:Ask} {k:L→Prop}:cz [askD a] k=k (.d (.int 4)):=rfl
theorem sG (q:Rat):isTy "tuple" (frD q)=true:=rfl
theorem sH (q:Rat):isTy "list" (frD q)=false:=rfl
theorem sI (q:Rat):isTy "int" (frD q)=false:=rfl
theorem qr (q:Rat):isTy "bool" (frD q)=false:=rfl
theorem sJ (q:Rat):isTy "str" (frD q)=false:=rfl
theorem oA (R:Ring):isTy "tuple" (aH R)=true:=rfl
def frL (n:Nat) (f:Nat→Rat):List D:=(List.range n).map fun (t:Nat)=>frD (f t)
theorem C0 (n:Nat) (f:Nat→Rat):(frL n f).length=n:=by simp [frL]
theorem C1 (n:Nat) (f:Nat→Rat):frL n f=((List.range n).map f).map frD:=by
 unfold frL
 rw [List.map_map]
 rfl
theorem AC (n:Nat) (f:Nat→Rat):noLs (frL n f)=true:=by rw [C1];exact uK _
def cutP (c:Nat×Nat):D:=.tup [.int (c.1:Int),.int (c.2:Int)]
theorem C2 {c:Nat×Nat} {k:L→Prop}:opIx (cutP c) (.int 0) k=k (.d (.int c.1)):=by
 show (∃v,atI _ _=some v∧_)=_
 simp only [ou,Option.some.injEq,exists_eq_left']
theorem C3 {c:Nat×Nat} {k:L→Prop}:opIx (cutP c) (.int 1) k=k (.d (.int c.2)):=by
 show (∃v,atI _ _=some v∧_)=_
 simp only [nc,Option.some.injEq,exists_eq_left']
theorem C4 (n:Nat) (c:Nat×Nat):okD (n+1) (cutP c)=true:=by cases n<;>simp [cutP,okD,okDs]
theorem yp (c:Nat×Nat):noL (cutP c)=true:=by simp [cutP,noL,noLs]
theorem yq (c:Nat×Nat):di (cutP c):=cm (C4 0 c) (by decide)
theorem C5 (c d:Nat×Nat):eqD (cutP c) (cutP d)=decide (c=d):=by
 unfold cutP
 rw [sf,cV,cV,jz,gf,gf,Bool.and_true,← Bool.decide_and,decide_eq_decide]
 constructor
 ·
  rintro ⟨h1,h2⟩
  exact Prod.ext (by omega) (by omega)
 ·
  rintro rfl;exact ⟨rfl,rfl⟩
def gP (g:Rat×(Nat×Nat)):D:=.tup [frD g.1,cutP g.2]
theorem Gp {g:Rat×(Nat×Nat)} {k:L→Prop}:opIx (gP g) (.int 0) k=k (.d (frD g.1)):=by
 show (∃v,atI _ _=some v∧_)=_
 simp only [ou,Option.some.injEq,exists_eq_left']
theorem Gq {g:Rat×(Nat×Nat)} {k:L→Prop}:opIx (gP g) (.int 1) k=k (.d (cutP g.2)):=by
 show (∃v,atI _ _=some v∧_)=_
 simp only [nc,Option.some.injEq,exists_eq_left']
theorem AD (T:String):isTy T .non=(T == "NoneType"):=rfl
theorem C6 (T:String) (b:Bool):isTy T (.bl b)=(T == "bool" || T == "int"):=rfl
theorem AE (T:String) (i:Int):isTy T (.int i)=(T == "int"):=rfl
theorem AF (T:String) (x:Str):isTy T (.str x)=(T == "str"):=rfl
theorem AG (T:String) (xs:List D):isTy T (.tup xs)=(T == "tuple"):=rfl
theorem AH (T:String) (xs:List D):isTy T (.lst xs)=(T == "list"):=rfl
theorem vT (g:Rat×(Nat×Nat)):isTy "tuple" (gP g)=true:=rfl
theorem qt (c:Nat×Nat):isTy "tuple" (cutP c)=true:=rfl
theorem qu (a:Ask):isTy "tuple" (askD a)=true:=rfl
theorem yr {c:Nat×Nat} {k:L→Prop}:cz [cutP c] k=k (.d (.int 2)):=rfl
theorem C7 {c:Rat×(Nat×Nat)} {k:L→Prop}:cz [gP c] k=k (.d (.int 2)):=rfl
theorem yt (cs:List (Nat×Nat)):noLs (cs.map cutP)=true:=lS _ fun c _=>yp c
theorem StOk.noL {xs:List D} (h:StOk xs):noLs xs=true:=by
 obtain ⟨c,sd,t,rfl,_,_⟩:=h
 rfl
end L2
namespace L2
open PySem PySem.Builtin.Str
theorem C8 {x y:Str} (h:x.cps.toList=y.cps.toList):x=y:=by
 cases x;cases y
 exact congrArg Str.mk (Array.toList_inj.mp h)
theorem AI {x:Str} {j:Int} (h0:0≤j) (h2:j≤x.length):(Txt.slice x none (some j)).cps.toList=x.cps.toList.take j.toNat:=by
 have:=eq_of_beq (PyProof.Rows.slice_closes_toL h0 h2)
 rw [this]
 simp
theorem vU {x:Str} {i:Int} (h0:0≤i) (h2:i≤x.length):(Txt.slice x (some i) none).cps.toList=x.cps.toList.drop i.toNat:=by
 rw [PyProof.Rows.slice_from_eq h0 h2 rfl]
 have e:x.cps.toList.length=x.length:=by simp [Str.length]
 rw [List.take_of_length_le]
 rw [List.length_drop,e]
 omega
theorem jI (x y:Str):(x++y).cps.toList=x.cps.toList++y.cps.toList:=by
 show (x.cps++y.cps).toList=_
 simp
theorem gY (x:Str):x.length=x.cps.toList.length:=by simp [Str.length]
def mx (c:Nat):Prop:=97≤c∧c≤122
structure NmOk (z:Str):Prop where
 lo:1≤z.cps.toList.length
 hi:z.cps.toList.length≤8
 let_:∀c∈z.cps.toList,mx c
theorem NmOk.ok {z:Str} (h:NmOk z):PyData.strOk z=true:=by
 unfold PyData.strOk
 rw [← Array.all_toList,List.all_eq_true]
 intro c hc
 have:=h.let_ c hc
 unfold mx at this
 simp
 omega
def oB:Str:="abcdefghijklmnopqrstuvwxyz"
theorem qv:oB.cps.toList=(List.range 26).map (·+97):=by decide
theorem nP {i:Int} (h0:0≤i) (h1:i <26):atI oB.cps.toList i=some (i.toNat+97):=by
 refine yb h0 ?_
 rw [qv,List.getElem?_map,List.getElem?_range (by omega)]
 rfl
theorem nQ:∀ (zs:List Str),(Str.join "" zs).cps.toList=(zs.map fun z=>z.cps.toList).flatten
 | []=>rfl
 | [x]=>by simp [Str.join]
 | x::y::r=>by
  have ih:=nQ (y::r)
  show (x++("" : Str)++Str.join "" (y::r)).cps.toList=_
  rw [jI,jI,ih]
  show x.cps.toList++[]++_=_
  simp
theorem AJ (zs:List Str):(Txt.join "" zs).cps.toList=(zs.map fun z=>z.cps.toList).flatten:=by
 rw [eq_of_beq (PyProof.Rows.join_closes (sep:="") (sep':="") (ys:=zs) rfl),nQ]
theorem qw:∀cs:List Nat,(cs.map fun c=>[c]).flatten=cs
 | []=>rfl
 | c::cs=>by rw [List.map_cons,List.flatten_cons,qw cs];rfl
theorem ki (cs:List Nat):(Txt.join "" (cs.map fun c=>(⟨#[c]⟩:Str))).cps.toList=cs:=by
 rw [AJ,List.map_map]
 exact qw cs
theorem uM:∀cs:List Nat,((cs.map fun c=>(⟨#[c]⟩:Str)).map (·.length)).sum=cs.length
 | []=>rfl
 | c::cs=>by
  rw [List.map_cons,List.map_cons,List.sum_cons,uM cs,List.length_cons]
  show 1+_=_
  omega
def nameAt (b:Str) (p t k:Nat):Str:=⟨(b.cps.toList.take p++[(t+k) % 26+97]++b.cps.toList.drop (p+1)).toArray⟩
theorem yu {b:Str} {p t k:Nat} (h:NmOk b) (hp:p <b.cps.toList.length):NmOk (nameAt b p t k):=by
 have e:(nameAt b p t k).cps.toList=b.cps.toList.take p++[(t+k) % 26+97]++b.cps.toList.drop (p+1):=by simp [nameAt]
 have l:(b.cps.toList.take p++[(t+k) % 26+97]++b.cps.toList.drop (p+1)).length=b.cps.toList.length:=by
  rw [List.length_append,List.length_append,List.length_take,List.length_drop,List.length_singleton]
  omega
 refine ⟨by rw [e,l];exact h.lo,by rw [e,l];exact h.hi,fun c hc=>?_⟩
 rw [e] at hc
 rcases List.mem_append.mp hc with hc|hc
 ·
  rcases List.mem_append.mp hc with hc|hc
  ·
   exact h.let_ c (List.mem_of_mem_take hc)
  ·
   rw [List.mem_singleton.mp hc]
   unfold mx
   have:=Nat.mod_lt (t+k) (y:=26) (by decide)
   omega
 ·
  exact h.let_ c (List.mem_of_mem_drop hc)
theorem vV {b:Str} {p t j k:Nat} (hp:p <b.cps.toList.length) (hj:j <26) (hk:k <26) (h:nameAt b p t j=nameAt b p t k):j=k:=by
 have e:b.cps.toList.take p++[(t+j) % 26+97]++b.cps.toList.drop (p+1)=b.cps.toList.take p++[(t+k) % 26+97]++b.cps.toList.drop (p+1):=by
  have:=congrArg (fun z:Str=>z.cps.toList) h
  simpa [nameAt] using this
 rw [List.append_assoc,List.append_assoc] at e
 have e2:=List.append_cancel_left e
 have e3:=(List.cons.inj e2).1
 omega
theorem qx {α β:Type} {f:α→β}:∀{xs:List α},xs.Nodup→(∀x∈xs,∀y∈xs,f x=f y→x=y)→(xs.map f).Nodup
 | [],_,_=>List.nodup_nil
 | x::xs,hn,h=>by
  rw [List.map_cons,List.nodup_cons]
  obtain ⟨h1,h2⟩:=List.nodup_cons.mp hn
  refine ⟨fun hm=>?_,qx h2 fun a ha b hb=>h a (List.mem_cons_of_mem _ ha) b (List.mem_cons_of_mem _ hb)⟩
  obtain ⟨y,hy,e⟩:=List.mem_map.mp hm
  have:=h y (List.mem_cons_of_mem _ hy) x List.mem_cons_self e
  rw [this] at hy
  exact h1 hy
theorem AK {q:Rat} (h:RB 60 q):q <((2 ^ 300:Nat):Rat):=by
 have h1:=Bs q
 have hd:(1:Rat)≤(q.den:Rat):=by
  have:=q.den_pos
  exact_mod_cast this
 have h2:(q.num:Rat) <((2 ^ 300:Nat):Rat):=by
  have h3:q.num <((2 ^ 300:Nat):Int):=by
   have:=Nat.lt_of_lt_of_le h.1 (Nat.pow_le_pow_right (show 0 <2 by decide) (show 60≤300 by decide))
   omega
  exact Rat.intCast_lt_intCast.mpr h3
 have hV:(0:Rat) <((2 ^ 300:Nat):Rat):=Rat.natCast_pos.mpr (Nat.pow_pos (by decide))
 generalize ((2 ^ 300:Nat):Rat)=V at *
 refine Rat.not_le.mp fun hq=>?_
 have h4:V*1≤q*(q.den:Rat):=Rat.le_trans (Rat.mul_le_mul_of_nonneg_left hd (Rat.le_of_lt hV)) (Rat.mul_le_mul_of_nonneg_right hq (by grind))
 rw [← h1] at h4
 grind
def denL:List Ask→Nat
 | []=>1
 | a::as=>a.size.den*denL as
theorem oC:∀as,0 <denL as
 | []=>Nat.one_pos
 | a::as=>Nat.mul_pos a.size.den_pos (oC as)
theorem sL:∀{as:List Ask},(∀a∈as,RB 60 a.size)→denL as≤2 ^ (60*as.length)
 | [],_=>Nat.le_refl 1
 | a::as,h=>by
  have h1:=(h a List.mem_cons_self).2
  have h2:=sL (as:=as) fun p hp=>h p (List.mem_cons_of_mem _ hp)
  show a.size.den*denL as≤2 ^ (60*(as.length+1))
  rw [Nat.mul_add,Nat.mul_one,Nat.pow_add,Nat.mul_comm (2 ^ _)]
  exact Nat.mul_le_mul (Nat.le_of_lt h1) h2
theorem lT:∀{as:List Ask} {a:Ask},a∈as→a.size.den∣denL as
 | b::as,a,h=>by
  rcases List.mem_cons.mp h with rfl|h
  ·
   exact Nat.dvd_mul_right _ _
  ·
   exact Nat.dvd_trans (lT h) (Nat.dvd_mul_left _ _)
theorem Gr {as:List Ask} (h:∀a∈as,RB 60 a.size) (hl:as.length≤20):∃D:Nat,0 <D∧D <2 ^ 1240∧∀a∈as,a.size.den∣D:=by
 refine ⟨denL as,oC as,Nat.lt_of_le_of_lt (sL h) (Nat.pow_lt_pow_right (by decide) (by omega)),fun a ha=>lT ha⟩
end L2
namespace L2
open PySem
def onL (n i j:Nat):List Nat:=(List.range ((j+n - i) % n)).map fun s=>(i+s) % n
def my (n i j:Nat):List Nat:=(List.range ((i+n - j) % n)).map fun s=>(i+n - 1 - s) % n
def wayL (n:Nat) (a:Ask) (w:Bool):List Nat:=if w then onL n a.one a.other else my n a.one a.other
theorem yv {n i j:Nat} (hi:i <n) (hj:j <n):(((j:Int) - i).fmod n)=(((j+n - i) % n:Nat):Int):=by
 rw [Int.fmod_eq_emod_of_nonneg _ (by omega)]
 have e:((j:Int) - i) % n=((j:Int) - i+n) % n:=(Int.add_emod_right _ _).symm
 rw [e]
 have:(j:Int) - i+n=((j+n - i:Nat):Int):=by omega
 rw [this]
 exact (Int.natCast_emod _ _).symm
theorem uN {n i s:Nat}:(((i:Int)+s).fmod n)=(((i+s) % n:Nat):Int):=by
 rw [Int.fmod_eq_emod_of_nonneg _ (by omega),Int.natCast_emod,Int.natCast_add]
theorem AL {n i s:Nat} (hn:0 <n) (hs:s <n):(((i:Int) - 1 - s).fmod n)=(((i+n - 1 - s) % n:Nat):Int):=by
 rw [Int.fmod_eq_emod_of_nonneg _ (by omega)]
 have e:((i:Int) - 1 - s) % n=((i:Int) - 1 - s+n) % n:=(Int.add_emod_right _ _).symm
 rw [e]
 have:(i:Int) - 1 - s+n=((i+n - 1 - s:Nat):Int):=by omega
 rw [this]
 exact (Int.natCast_emod _ _).symm
def far (n i j:Nat):Nat:=(j+n - i) % n
theorem jJ {x n:Nat} (h:x <2*n):x % n=if x <n then x else x - n:=by
 by_cases hx:x <n
 ·
  rw [if_pos hx,Nat.mod_eq_of_lt hx]
 ·
  rw [if_neg hx,Nat.mod_eq_sub_mod (by omega),Nat.mod_eq_of_lt (by omega)]
theorem kY {n i j:Nat} (hi:i <n) (hj:j <n):far n i j=if i≤j then j - i else j+n - i:=by
 unfold far
 rw [jJ (by omega)]
 split<;>split<;>omega
theorem nR (n i j:Nat):(onL n i j).length=far n i j:=by simp [onL,far]
theorem uO (n i j:Nat):(my n i j).length=far n j i:=by simp [my,far]
theorem C9 {n:Nat} {a:Ask} (h:en n a) (w:Bool):(wayL n a w).length <n:=by
 have h1:=h.one
 have h2:=h.other
 cases w
 ·
  show (my n a.one a.other).length <n
  rw [uO];exact Nat.mod_lt _ (by omega)
 ·
  show (onL n a.one a.other).length <n
  rw [nR];exact Nat.mod_lt _ (by omega)
theorem qy {n i j:Nat} (hn:0 <n):far n i j <n:=Nat.mod_lt _ hn
theorem uP {n i s:Nat} (hi:i <n) (hs:s <n):far n i ((i+s) % n)=s:=by
 have h1:=Nat.mod_lt (i+s) (y:=n) (by omega)
 rw [kY hi h1,jJ (by omega)]
 split<;>split<;>omega
theorem oE {n i t:Nat} (hi:i <n) (ht:t <n):(i+far n i t) % n=t:=by
 have h1:=qy (n:=n) (i:=i) (j:=t) (by omega)
 rw [jJ (by omega),kY hi ht]
 split<;>split<;>omega
theorem yw {n i j:Nat} (hi:i <n) (hj:j <n) (h:i≠j):far n i j+far n j i=n:=by
 rw [kY hi hj,kY hj hi]
 split<;>split<;>omega
theorem Da {n i j:Nat} (hi:i <n) (hj:j <n) (h:i≠j):0 <far n i j:=by
 rw [kY hi hj]
 split<;>omega
theorem Bt {n i j t:Nat} (hi:i <n):t∈onL n i j↔t <n∧far n i t <far n i j:=by
 constructor
 ·
  intro h
  obtain ⟨s,hs,rfl⟩:=List.mem_map.mp h
  have hs:s <far n i j:=List.mem_range.mp hs
  have:=qy (n:=n) (i:=i) (j:=j) (by omega)
  exact ⟨Nat.mod_lt _ (by omega),by rw [uP hi (by omega)];exact hs⟩
 ·
  rintro ⟨ht,h⟩
  exact List.mem_map.mpr ⟨far n i t,List.mem_range.mpr h,oE hi ht⟩
theorem yx {n i s:Nat} (hi:i <n) (hs:s <n):(i+n - 1 - s) % n=(i+(n - 1 - s)) % n:=by
 congr 1
 omega
theorem uR {n i j t:Nat} (hi:i <n) (hj:j <n) (hij:i≠j):t∈my n i j↔t <n∧¬far n i t <far n i j:=by
 have hsum:=yw hi hj hij
 constructor
 ·
  intro h
  obtain ⟨s,hs,rfl⟩:=List.mem_map.mp h
  have hs:s <far n j i:=List.mem_range.mp hs
  refine ⟨Nat.mod_lt _ (by omega),?_⟩
  rw [yx hi (by omega),uP hi (by omega)]
  omega
 ·
  rintro ⟨ht,h⟩
  have:=qy (n:=n) (i:=i) (j:=t) (by omega)
  refine List.mem_map.mpr ⟨n - 1 - far n i t,List.mem_range.mpr (show _ <far n j i by omega),?_⟩
  rw [yx hi (by omega)]
  have e:n - 1 - (n - 1 - far n i t)=far n i t:=by omega
  rw [e,oE hi ht]
def isOn (n:Nat) (a:Ask) (t:Nat):Bool:=decide (far n a.one t <far n a.one a.other)
theorem oF {n:Nat} {a:Ask} (h:en n a) (w:Bool) {t:Nat} (ht:t <n):t∈wayL n a w↔(isOn n a t == w)=true:=by
 have h1:=h.one
 have h2:=h.other
 cases w
 ·
  show t∈my n a.one a.other↔_
  rw [uR h1 h2 h.ne]
  simp [isOn,ht]
 ·
  show t∈onL n a.one a.other↔_
  rw [Bt h1]
  simp [isOn,ht]
theorem Bu {n i j:Nat} (hi:i <n) (hj:j <n) (hij:i≠j):onL n j i=(my n i j).reverse:=by
 have hsum:=yw hi hj hij
 refine List.ext_getElem (by rw [List.length_reverse,nR,uO]) fun s h1 h2=>?_
 rw [nR] at h1
 have hp:=Da hi hj hij
 rw [List.getElem_reverse]
 simp only [onL,my,List.getElem_map,List.getElem_range,List.length_map,List.length_range]
 have e:(i+n - j) % n=far n j i:=rfl
 rw [e]
 have e2:j=(i+far n i j) % n:=(oE hi hj).symm
 have e3:i+n - 1 - (far n j i - 1 - s)=i+far n i j+s:=by omega
 rw [e3]
 conv=>lhs;rw [e2]
 rw [Nat.mod_add_mod]
theorem AM {n i j:Nat} (hi:i <n) (hj:j <n) (hij:i≠j):my n j i=(onL n i j).reverse:=by
 rw [Bu hj hi (Ne.symm hij),List.reverse_reverse]
def yy (a:Ask):Ask:=⟨a.nm,a.other,a.one,a.size⟩
theorem AN {n:Nat} {a:Ask} (h:en n a):en n (yy a):=⟨h.other,h.one,Ne.symm h.ne,h.size,h.lt,h.nm⟩
theorem lU {n:Nat} {a:Ask} (h:en n a) (w:Bool):wayL n (yy a) w=(wayL n a !w).reverse:=by
 cases w
 ·
  exact AM h.one h.other h.ne
 ·
  exact Bu h.one h.other h.ne
theorem yz {n:Nat} {a:Ask} (h:en n a) {t:Nat} (ht:t <n):isOn n (yy a) t=!isOn n a t:=by
 have e1:=oF (AN h) true ht
 have e2:=oF h false ht
 rw [lU h true,List.mem_reverse] at e1
 have e3:=e1.symm.trans e2
 revert e3
 cases isOn n (yy a) t<;>cases isOn n a t<;>simp
theorem oG (t:Nat):∀(T:List Nat),inF (.int (t:Int)) (T.map fun (s:Nat)=>D.int (s:Int))=decide (t∈T)
 | []=>rfl
 | s::T=>by
  have ih:=oG t T
  unfold inF at ih ⊢
  rw [List.map_cons,List.any_cons,ih]
  show (eqF (.int (s:Int)) (.int (t:Int)) || _)=_
  have e:eqF (.int (s:Int)) (.int (t:Int))=decide (t=s):=by
   show decide ((s:Int)=(t:Int))=_
   rw [decide_eq_decide];omega
  rw [e]
  simp [Bool.decide_or]
end L2
namespace L2
open PySem
def sent (n:Nat) (a:Ask) (p:Rat) (t:Nat):Rat:=if isOn n a t then p else a.size - p
def Fc (n:Nat) (as:List Ask) (ps:List Rat) (t:Nat):Rat:=sumQ ((as.zip ps).map fun x=>sent n x.1 x.2 t)
structure Dc (R:Ring) (ps:List Rat) (c:Nat):Prop where
 len:ps.length=R.asks.length
 lo:∀x∈R.asks.zip ps,0≤x.2∧x.2≤x.1.size
 rb:∀p∈ps,RB c p
end L2
namespace L2
open PySem
end L2
namespace L2
open PySem
def t7 (c:Nat×Nat) (p:Nat):Bool:=decide (c.1 <p∧p≤c.2)
def apart (c:Nat×Nat) (i j:Nat):Bool:=t7 c i != t7 c j
def oH (as:List Ask) (c:Nat×Nat):Rat:=sumQ ((as.filter fun a=>apart c a.one a.other).map (·.size))
def Ring.room (R:Ring) (t:Nat):Rat:=R.rooms.getD t 0
def qz (R:Ring) (c:Nat×Nat):Rat:=R.room c.1+R.room c.2
def yA (R:Ring) (c:Nat×Nat):Rat:=oH R.asks c / qz R c
def sM (n:Nat) (c:Nat×Nat):Prop:=c.1≤c.2∧c.2 <n
theorem yB {R:Ring} (hR:R.Ok) {t:Nat} (h:t <R.n):0 <R.room t∧RB 60 (R.room t):=by
 have h':t <R.rooms.length:=h
 unfold Ring.room
 rw [List.getD_eq_getElem?_getD,List.getElem?_eq_getElem h']
 exact hR.room _ (List.getElem_mem h')
theorem yC {R:Ring} (hR:R.Ok) {c:Nat×Nat} (h:sM R.n c):0 <qz R c∧RB 121 (qz R c):=by
 have a:=yB hR (t:=c.1) (by have:=h.1;have:=h.2;omega)
 have b:=yB hR (t:=c.2) h.2
 unfold qz
 exact ⟨by have:=a.1;have:=b.1;grind,a.2.add b.2⟩
def Gs (qs:List Rat):Prop:=denP qs <2 ^ 9000∨∃D:Nat,0 <D∧D <2 ^ 4400∧∀q∈qs,q.den∣D
end L2
namespace L2
open PySem
theorem kj {n : Nat} {a : Ask} (h : en n a) {t : Nat} (ht : t <n) : isOn n a t = ((decide (a.one ≤ t) != decide (a.other ≤ t)) != decide (a.other <a.one)) := by
  have h1 := h.one
  have h2 := h.other
  have hne := h.ne
  unfold isOn
  rw [kY h1 ht, kY h1 h2]
  by_cases a1 : a.one ≤ t<;>by_cases a2 : a.other ≤ t<;>by_cases a3 : a.other <a.one<;>by_cases a4 : a.one ≤ a.other
  all_goals
    simp only [a1, a2, a3, a4, if_true, if_false, decide_true, decide_false]
  all_goals first
    | omega
    | (first
        | (rw [decide_eq_true (by omega)];rfl)
        | (rw [decide_eq_false (by omega)];rfl))
theorem yD {n:Nat} {a:Ask} (h:en n a) {c:Nat×Nat} (hc:sM n c):apart c a.one a.other=(isOn n a c.1 != isOn n a c.2):=by
 have h1:=hc.1
 have h2:=hc.2
 rw [kj h (by omega),kj h h2]
 unfold apart t7
 have e:∀p:Nat,decide (c.1 <p∧p≤c.2)=(decide (p≤c.1) != decide (p≤c.2)):=fun p=>by
  by_cases q1:p≤c.1<;>by_cases q2:p≤c.2
  ·
   rw [decide_eq_false (by omega)];simp [q1,q2]
  ·
   omega
  ·
   rw [decide_eq_true (by omega)];simp [q1,q2]
  ·
   rw [decide_eq_false (by omega)];simp [q1,q2]
 rw [e,e]
 cases decide (a.one≤c.1)<;>cases decide (a.one≤c.2)<;>cases decide (a.other≤c.1)<;>cases decide (a.other≤c.2)<;>cases decide (a.other <a.one)<;>rfl
theorem sN {a b c:Rat} (hb:0 <b):a / b≤c↔a≤c*b:=by
 rw [← Rat.not_lt,← Rat.not_lt,Rat.lt_div_iff hb]
end L2
namespace L2
open PySem
def Ring.sz (R:Ring) (k:Nat):Rat:=(R.asks.map (·.size)).getD k 0
theorem Gu {R:Ring} {k:Nat} (h:k <R.asks.length):R.sz k=R.asks[k].size:=by
 unfold Ring.sz
 rw [List.getD_eq_getElem?_getD,List.getElem?_map,List.getElem?_eq_getElem h]
 rfl
theorem Dd {qs:List Rat} {k:Nat} (h:k <qs.length):qs.getD k 0=qs[k]:=by
 rw [List.getD_eq_getElem?_getD,List.getElem?_eq_getElem h]
 rfl
end L2
namespace My
open PySem L2
end My
namespace My
open PySem L2
def cq (R:Ring) (j:Nat):Ask:=(R.asks[j]?).getD ⟨"",0,0,0⟩
def onA (R:Ring) (j t:Nat):Bool:=isOn R.n (cq R j) t
def dI (R:Ring) (w:Nat→Int) (k g h:Nat):Int:=((List.range (R.asks.length - k)).map fun i=>if onA R (k+i) g != onA R (k+i) h then w (k+i) else 0).sum
theorem gZ {R:Ring} (hR:R.Ok) {j:Nat} (h:j <R.asks.length):en R.n (cq R j):=by
 unfold cq
 rw [List.getElem?_eq_getElem h]
 exact hR.ask _ (List.getElem_mem h)
theorem uS {R:Ring} {j:Nat} (h:j <R.asks.length):cq R j=R.asks[j]:=by
 unfold cq
 rw [List.getElem?_eq_getElem h]
 rfl
theorem km (R:Ring) (w:Nat→Int) (k g h:Nat):dI R w k g h=dI R w k h g:=by
 unfold dI
 congr 1
 refine List.map_congr_left fun i _=>?_
 cases onA R (k+i) g<;>cases onA R (k+i) h<;>rfl
theorem ko (R:Ring) (w:Nat→Int) {k:Nat} (hk:k <R.asks.length) (g h:Nat):dI R w k g h=(if onA R k g != onA R k h then w k else 0)+dI R w (k+1) g h:=by
 unfold dI
 have e:R.asks.length - k=(R.asks.length - (k+1))+1:=by omega
 rw [e,List.range_succ_eq_map,List.map_cons,List.sum_cons,List.map_map]
 congr 2
 refine List.map_congr_left fun i _=>?_
 show (if onA R (k+(i+1)) g != onA R (k+(i+1)) h then w (k+(i+1)) else 0)=_
 rw [show k+(i+1)=k+1+i by omega]
theorem oI {α:Type} (f1 f2 g1 g2:α→Int):∀(xs:List α),(∀x∈xs,f1 x+f2 x≤g1 x+g2 x)→(xs.map f1).sum+(xs.map f2).sum≤(xs.map g1).sum+(xs.map g2).sum
 | [],_=>by simp
 | x::xs,h=>by
  have h1:=h x List.mem_cons_self
  have h2:=oI f1 f2 g1 g2 xs fun y hy=>h y (List.mem_cons_of_mem _ hy)
  simp only [List.map_cons,List.sum_cons]
  omega
theorem yE:∀(u1 u2 u3 u4 v1 v2 v3 v4 c:Bool),(u1→u2)→(u2→u3)→(u3→u4)→(v1→v2)→(v2→v3)→(v3→v4) →
  ((((u1 != v1) != c) != ((u2 != v2) != c)).toNat+(((u3 != v3) != c) != ((u4 != v4) != c)).toNat≤(((u1 != v1) != c) != ((u3 != v3) != c)).toNat+(((u2 != v2) != c) != ((u4 != v4) != c)).toNat) ∧
  ((((u1 != v1) != c) != ((u4 != v4) != c)).toNat+(((u2 != v2) != c) != ((u3 != v3) != c)).toNat≤(((u1 != v1) != c) != ((u3 != v3) != c)).toNat+(((u2 != v2) != c) != ((u4 != v4) != c)).toNat) ∧
  (((u1 != v1) != c)=((u3 != v3) != c)→((u2 != v2) != c)=((u4 != v4) != c)→((u1 != v1) != c)=((u2 != v2) != c)):=by decide
theorem yF {w:Int} (hw:0≤w) {b1 b2 b3 b4:Bool} (h:b1.toNat+b2.toNat≤b3.toNat+b4.toNat):(if b1 then w else 0)+(if b2 then w else 0)≤(if b3 then w else 0)+(if b4 then w else 0):=by
 cases b1<;>cases b2<;>cases b3<;>cases b4<;>simp at h⊢<;> omega
theorem sO {R:Ring} (hR:R.Ok) {j:Nat} (hj:j <R.asks.length) {p1 p2 p3 p4:Nat} (h12:p1≤p2) (h23:p2≤p3) (h34:p3≤p4) (h4:p4 <R.n) :
  ((onA R j p1 != onA R j p2).toNat+(onA R j p3 != onA R j p4).toNat≤(onA R j p1 != onA R j p3).toNat+(onA R j p2 != onA R j p4).toNat) ∧
  ((onA R j p1 != onA R j p4).toNat+(onA R j p2 != onA R j p3).toNat≤(onA R j p1 != onA R j p3).toNat+(onA R j p2 != onA R j p4).toNat) ∧
  (onA R j p1=onA R j p3→onA R j p2=onA R j p4→onA R j p1=onA R j p2):=by
 have ha:=gZ hR hj
 unfold onA
 rw [kj ha (show p1 <R.n by omega),kj ha (show p2 <R.n by omega),kj ha (show p3 <R.n by omega),kj ha h4]
 exact yE _ _ _ _ _ _ _ _ _ (by simp only [decide_eq_true_eq];omega) (by simp only [decide_eq_true_eq];omega) (by simp only [decide_eq_true_eq];omega) (by simp only [decide_eq_true_eq];omega) (by simp only [decide_eq_true_eq];omega) (by simp only [decide_eq_true_eq];omega)
theorem lV {R:Ring} (hR:R.Ok) {w:Nat→Int} (hw:∀j,j <R.asks.length→0≤w j) (k:Nat) {p1 p2 p3 p4:Nat} (h12:p1≤p2) (h23:p2≤p3) (h34:p3≤p4) (h4:p4 <R.n) :
  dI R w k p1 p2+dI R w k p3 p4≤dI R w k p1 p3+dI R w k p2 p4∧dI R w k p1 p4+dI R w k p2 p3≤dI R w k p1 p3+dI R w k p2 p4:=by
 unfold dI
 refine ⟨oI _ _ _ _ _ fun i hi=>?_,oI _ _ _ _ _ fun i hi=>?_⟩
 all_goals
  have hj:k+i <R.asks.length:=by have:=List.mem_range.mp hi;omega
  have h:=sO hR hj h12 h23 h34 h4
 ·
  exact yF (hw _ hj) h.1
 ·
  exact yF (hw _ hj) h.2.1
def qC (R:Ring) (w f:Nat→Int) (k:Nat):Prop:=∀g h,g <R.n→h <R.n→dI R w k g h≤f g+f h∧(f g+f h - dI R w k g h) % 2=0
def qD (R:Ring) (w f:Nat→Int) (k:Nat) (p:Int) (t:Nat):Int:=f t - if onA R k t then p else w k - p
theorem AO {R:Ring} (hR:R.Ok) {w f:Nat→Int} (hw:∀j,j <R.asks.length→0≤w j) {k:Nat} (hk:k <R.asks.length) (hc:qC R w f k) {p:Int}
  (hp:∀g h,g <R.n→h <R.n→onA R k g=true→onA R k h=true→g≤h→2*p≤f g+f h - dI R w (k+1) g h)
  (hq:p=w k∨∃a b,a <R.n∧b <R.n∧onA R k a=true∧onA R k b=true∧a≤b∧2*p=f a+f b - dI R w (k+1) a b):qC R w (qD R w f k p) (k+1):=by
 have main:∀g h,g <R.n→h <R.n→g≤h→dI R w (k+1) g h≤qD R w f k p g+qD R w f k p h∧(qD R w f k p g+qD R w f k p h - dI R w (k+1) g h) % 2=0:=by
  intro g h hg hh hgh
  obtain ⟨c1,c2⟩:=hc g h hg hh
  have st:=ko R w hk g h
  unfold qD
  cases eg:onA R k g<;>cases eh:onA R k h<;>rw [eg,eh] at st
  ·
   simp only [bne_self_eq_false,Bool.false_eq_true,if_false] at st ⊢
   refine ⟨?_,by omega⟩
   rcases hq with hq|⟨a,b,ha,hb,ea,eb,hab,e2⟩
   ·
    omega
   ·
    have sag:dI R w k a g=w k+dI R w (k+1) a g:=by rw [ko R w hk,ea,eg];rfl
    have sbh:dI R w k b h=w k+dI R w (k+1) b h:=by rw [ko R w hk,eb,eh];rfl
    have sah:dI R w k a h=w k+dI R w (k+1) a h:=by rw [ko R w hk,ea,eh];rfl
    have sbg:dI R w k b g=w k+dI R w (k+1) b g:=by rw [ko R w hk,eb,eg];rfl
    have cag:=(hc a g ha hg).1
    have cbh:=(hc b h hb hh).1
    have cah:=(hc a h ha hh).1
    have cbg:=(hc b g hb hg).1
    by_cases o1:b≤g
    ·
     have:=(lV hR hw (k+1) hab o1 hgh hh).1
     omega
    ·
     by_cases o2:h≤a
     ·
      have:=(lV hR hw (k+1) hgh o2 hab hb).1
      rw [km R w (k+1) g a,km R w (k+1) h b] at this
      omega
     ·
      by_cases o3:g≤a
      ·
       by_cases o4:b≤h
       ·
        have:=(lV hR hw (k+1) o3 hab o4 hh).2
        rw [km R w (k+1) g b] at this
        omega
       ·
        exfalso
        have:=(sO hR hk o3 (show a≤h by omega) (show h≤b by omega) hb).2.2
        rw [eg,ea,eh,eb] at this
        exact absurd (this rfl rfl) (by decide)
      ·
       by_cases o4:h≤b
       ·
        have:=(lV hR hw (k+1) (show a≤g by omega) hgh o4 hb).2
        rw [km R w (k+1) g b] at this
        omega
       ·
        exfalso
        have:=(sO hR hk (show a≤g by omega) (show g≤b by omega) (show b≤h by omega) hh).2.2
        rw [eg,ea,eh,eb] at this
        exact absurd (this rfl rfl) (by decide)
  ·
   simp only [Bool.false_bne,if_true,if_false,Bool.false_eq_true] at st ⊢
   exact ⟨by omega,by omega⟩
  ·
   simp only [Bool.bne_false,if_true,if_false,Bool.false_eq_true] at st ⊢
   exact ⟨by omega,by omega⟩
  ·
   simp only [bne_self_eq_false,Bool.false_eq_true,if_false,if_true] at st ⊢
   have:=hp g h hg hh eg eh hgh
   exact ⟨by omega,by omega⟩
 intro g h hg hh
 by_cases hgh:g≤h
 ·
  exact main g h hg hh hgh
 ·
  have:=main h g hh hg (by omega)
  rw [km R w (k+1) h g] at this
  exact ⟨by omega,by omega⟩
end My
namespace My
open PySem L2
def mnI (i j:Int):Int:=if j <i then j else i
theorem yG {α:Type} (c:α→Bool) (v:α→Int):∀(xs:List α) (acc r:Int),xs.foldl (fun t x=>if c x then mnI t (v x) else t) acc=r →
  r≤acc∧(∀x∈xs,c x=true→r≤v x)∧(r=acc∨∃x∈xs,c x=true∧r=v x)
 | [],acc,r,e=>by
  rw [List.foldl_nil] at e
  subst e
  exact ⟨Int.le_refl _,fun x hx=>by simp at hx,.inl rfl⟩
 | x::xs,acc,r,e=>by
  rw [List.foldl_cons] at e
  obtain ⟨h1,h2,h3⟩:=yG c v xs _ r e
  unfold mnI at h1 h3
  by_cases hc:c x=true
  ·
   rw [if_pos hc] at h1 h3
   by_cases hl:v x <acc
   ·
    rw [if_pos hl] at h1 h3
    refine ⟨by omega,fun y hy hy'=>?_,?_⟩
    ·
     rcases List.mem_cons.mp hy with rfl|hy
     ·
      exact h1
     ·
      exact h2 y hy hy'
    ·
     rcases h3 with h3|⟨y,hy,hc',e⟩
     ·
      exact .inr ⟨x,List.mem_cons_self,hc,h3⟩
     ·
      exact .inr ⟨y,List.mem_cons_of_mem _ hy,hc',e⟩
   ·
    rw [if_neg hl] at h1 h3
    refine ⟨by omega,fun y hy hy'=>?_,?_⟩
    ·
     rcases List.mem_cons.mp hy with rfl|hy
     ·
      omega
     ·
      exact h2 y hy hy'
    ·
     rcases h3 with h3|⟨y,hy,hc',e⟩
     ·
      exact .inl h3
     ·
      exact .inr ⟨y,List.mem_cons_of_mem _ hy,hc',e⟩
  ·
   rw [if_neg hc] at h1 h3
   refine ⟨h1,fun y hy hy'=>?_,?_⟩
   ·
    rcases List.mem_cons.mp hy with rfl|hy
    ·
     exact absurd hy' hc
    ·
     exact h2 y hy hy'
   ·
    rcases h3 with h3|⟨y,hy,hc',e⟩
    ·
     exact .inl h3
    ·
     exact .inr ⟨y,List.mem_cons_of_mem _ hy,hc',e⟩
def onT (R:Ring) (k:Nat):List Nat:=(PySem.W.sortI ((wayL R.n (cq R k) true).map fun (t:Nat)=>(t:Int))).map Int.toNat
theorem De {R:Ring} {k t:Nat}:t∈onT R k↔t∈wayL R.n (cq R k) true:=by
 unfold onT
 constructor
 ·
  intro h
  obtain ⟨x,hx,rfl⟩:=List.mem_map.mp h
  obtain ⟨s,hs,rfl⟩:=List.mem_map.mp ((PySem.W.sortI_perm _).mem_iff.mp hx)
  exact hs
 ·
  intro h
  exact List.mem_map.mpr ⟨(t:Int),(PySem.W.sortI_perm _).mem_iff.mpr (List.mem_map.mpr ⟨t,h,rfl⟩),rfl⟩
theorem Fd {n:Nat} {a:Ask} (h:en n a) {t:Nat} (ht:t∈wayL n a true):t <n:=by
 have h1:=h.one
 unfold wayL onL at ht
 simp only [if_true] at ht
 obtain ⟨s,_,rfl⟩:=List.mem_map.mp ht
 exact Nat.mod_lt _ (by omega)
theorem kq {R:Ring} (hR:R.Ok) {k:Nat} (hk:k <R.asks.length) {t:Nat}:t∈onT R k↔t <R.n∧onA R k t=true:=by
 have ha:=gZ hR hk
 rw [De]
 constructor
 ·
  intro h
  have ht:=Fd ha h
  have:=(oF ha true ht).mp h
  exact ⟨ht,by unfold onA;simpa using this⟩
 ·
  rintro ⟨ht,h⟩
  refine (oF ha true ht).mpr ?_
  unfold onA at h
  rw [h];rfl
def valI (R:Ring) (w f:Nat→Int) (k g h:Nat):Int:=f g+f h - dI R w (k+1) g h
def qE (R:Ring) (w f:Nat→Int) (k:Nat) (acc:Int) (g:Nat) (hs:List Nat):Int:=hs.foldl (fun t h=>if decide (g≤h) then mnI t (valI R w f k g h) else t) acc
def Bv (R:Ring) (w f:Nat→Int) (k:Nat) (gs:List Nat):Int:=gs.foldl (fun t g=>qE R w f k t g (onT R k)) (2*w k)
def vW (R:Ring) (w f:Nat→Int) (k:Nat):Int:=(Bv R w f k (onT R k)).fdiv 2
theorem uT (R:Ring) (w f:Nat→Int) (k:Nat):∀(gs:List Nat) (acc r:Int),gs.foldl (fun t g=>qE R w f k t g (onT R k)) acc=r →
  r≤acc∧(∀g∈gs,∀h∈onT R k,g≤h→r≤valI R w f k g h)∧(r=acc∨∃g∈gs,∃h∈onT R k,g≤h∧r=valI R w f k g h)
 | [],acc,r,e=>by
  rw [List.foldl_nil] at e
  subst e
  exact ⟨Int.le_refl _,fun x hx=>by simp at hx,.inl rfl⟩
 | g::gs,acc,r,e=>by
  rw [List.foldl_cons] at e
  obtain ⟨i1,i2,i3⟩:=yG (fun h=>decide (g≤h)) (valI R w f k g) (onT R k) acc _ rfl
  obtain ⟨h1,h2,h3⟩:=uT R w f k gs _ r e
  unfold qE at h1 h3
  generalize (onT R k).foldl (fun t h=>if decide (g≤h) then mnI t (valI R w f k g h) else t) acc=z at *
  refine ⟨by omega,fun y hy h hh hyh=>?_,?_⟩
  ·
   rcases List.mem_cons.mp hy with rfl|hy
   ·
    have:=i2 h hh (decide_eq_true hyh)
    omega
   ·
    exact h2 y hy h hh hyh
  ·
   rcases h3 with h3|⟨y,hy,h,hh,c,e⟩
   ·
    rcases i3 with i3|⟨h,hh,c,e⟩
    ·
     exact .inl (h3.trans i3)
    ·
     exact .inr ⟨g,List.mem_cons_self,h,hh,of_decide_eq_true c,h3.trans e⟩
   ·
    exact .inr ⟨y,List.mem_cons_of_mem _ hy,h,hh,c,e⟩
theorem yH {R:Ring} (hR:R.Ok) {w f:Nat→Int} (hw:∀j,j <R.asks.length→0≤w j) {k:Nat} (hk:k <R.asks.length) (hc:qC R w f k) :
  0≤vW R w f k∧vW R w f k≤w k∧qC R w (qD R w f k (vW R w f k)) (k+1):=by
 obtain ⟨h1,h2,h3⟩:=uT R w f k (onT R k) (2*w k) _ rfl
 have e:Bv R w f k (onT R k)=(onT R k).foldl (fun t g=>qE R w f k t g (onT R k)) (2*w k):=rfl
 have hwk:=hw k hk
 have hv:∀g h,g∈onT R k→h∈onT R k→0≤valI R w f k g h∧valI R w f k g h % 2=0:=fun g h hg hh=>by
  obtain ⟨g1,g2⟩:=(kq hR hk).mp hg
  obtain ⟨k1,k2⟩:=(kq hR hk).mp hh
  obtain ⟨c1,c2⟩:=hc g h g1 k1
  have st:=ko R w hk g h
  rw [g2,k2] at st
  simp only [bne_self_eq_false,Bool.false_eq_true,if_false] at st
  unfold valI
  exact ⟨by omega,by omega⟩
 unfold vW
 rw [e,Int.fdiv_eq_ediv_of_nonneg _ (by decide)]
 generalize (onT R k).foldl (fun t g=>qE R w f k t g (onT R k)) (2*w k)=r at *
 have hr:0≤r∧r % 2=0:=by
  rcases h3 with rfl|⟨g,hg,h,hh,_,rfl⟩
  ·
   omega
  ·
   exact hv g h hg hh
 have hp:2*(r / 2)=r:=by omega
 refine ⟨by omega,by omega,AO hR hw hk hc (fun g h hg hh eg eh hgh=>?_) ?_⟩
 ·
  rw [hp]
  exact h2 g ((kq hR hk).mpr ⟨hg,eg⟩) h ((kq hR hk).mpr ⟨hh,eh⟩) hgh
 ·
  rcases h3 with h3|⟨g,hg,h,hh,hgh,h3⟩
  ·
   exact .inl (by omega)
  ·
   obtain ⟨g1,g2⟩:=(kq hR hk).mp hg
   obtain ⟨k1,k2⟩:=(kq hR hk).mp hh
   exact .inr ⟨g,h,g1,k1,g2,k2,hgh,by rw [hp];exact h3⟩
def fAt (R:Ring) (w f:Nat→Int):Nat→Nat→Int
 | 0=>f
 | k+1=>qD R w (fAt R w f k) k (vW R w (fAt R w f k) k)
def pAt (R:Ring) (w f:Nat→Int) (k:Nat):Int:=vW R w (fAt R w f k) k
theorem Bw {R:Ring} (hR:R.Ok) {w f:Nat→Int} (hw:∀j,j <R.asks.length→0≤w j) (hc:qC R w f 0):∀k,k≤R.asks.length→qC R w (fAt R w f k) k
 | 0,_=>hc
 | k+1,h=>(yH hR hw (by omega) (Bw hR hw hc k (by omega))).2.2
theorem AQ {R:Ring} (hR:R.Ok) {w f:Nat→Int} (hw:∀j,j <R.asks.length→0≤w j) (hc:qC R w f 0) {k:Nat} (hk:k <R.asks.length):0≤pAt R w f k∧pAt R w f k≤w k :=
 let h:=yH hR hw hk (Bw hR hw hc k (by omega))
 ⟨h.1,h.2.1⟩
end My
namespace My
open PySem L2
theorem oJ {t b:Int} (h:b≠0):(Rat.divInt t b).den∣b.natAbs:=by
 rw [Rat.den_divInt,if_neg h]
 exact Nat.div_dvd_of_dvd (by rw [Int.gcd];exact Nat.gcd_dvd_left _ _)
theorem iN (p q:Rat):(p*q).den∣p.den*q.den:=by
 have e:p*q=Rat.divInt (p.num*q.num) ((p.den:Int)*q.den):=by
  rw [← Rat.divInt_mul_divInt,Rat.num_divInt_den,Rat.num_divInt_den]
 rw [e]
 have:=oJ (t:=p.num*q.num) (b:=(p.den:Int)*q.den) (Int.mul_ne_zero (sD _) (sD _))
 rwa [Int.natAbs_mul,Int.natAbs_natCast,Int.natAbs_natCast] at this
theorem AR (q:Rat):(q.num:Rat)=q*(q.den:Rat):=by
 have h:((q.den:Int):Rat)≠0:=fun e=>sD q (by
  have:((q.den:Int):Rat)=((0:Int):Rat):=e
  exact Rat.intCast_inj.mp this)
 have e:q=(q.num:Rat) / ((q.den:Int):Rat):=by
  conv=>lhs;rw [← Rat.num_divInt_den q,Rat.divInt_eq_div]
 have:=Rat.div_mul_cancel (a:=(q.num:Rat)) h
 rw [← e] at this
 exact this.symm
def cbN (qs:List Rat):Nat:=qs.foldl (fun b q=>Nat.lcm b q.den) 1
theorem sP:∀(qs:List Rat) (b:Nat),b∣qs.foldl (fun b q=>Nat.lcm b q.den) b∧(∀q∈qs,q.den∣qs.foldl (fun b q=>Nat.lcm b q.den) b)∧∀P,b∣P→(∀q∈qs,q.den∣P)→qs.foldl (fun b q=>Nat.lcm b q.den) b∣P
 | [],b=>⟨Nat.dvd_refl _,fun q hq=>by simp at hq,fun P h _=>h⟩
 | q::qs,b=>by
  obtain ⟨h1,h2,h3⟩:=sP qs (Nat.lcm b q.den)
  rw [List.foldl_cons]
  refine ⟨Nat.dvd_trans (Nat.dvd_lcm_left _ _) h1,fun p hp=>?_,fun P hb hP=>h3 P (Nat.lcm_dvd hb (hP q List.mem_cons_self)) fun p hp=>hP p (List.mem_cons_of_mem _ hp)⟩
  rcases List.mem_cons.mp hp with rfl|hp
  ·
   exact Nat.dvd_trans (Nat.dvd_lcm_right _ _) h1
  ·
   exact h2 p hp
theorem Bx {qs:List Rat} {q:Rat} (h:q∈qs):q.den∣cbN qs:=(sP qs 1).2.1 q h
theorem Fe {qs:List Rat} {P:Nat} (h:∀q∈qs,q.den∣P):cbN qs∣P:=(sP qs 1).2.2 P (Nat.one_dvd _) h
def lC (u:Nat) (q:Rat):Int:=q.num*((u / q.den:Nat):Int)
theorem jK {u:Nat} {q:Rat} (h:q.den∣u):((lC u q:Int):Rat)=q*(u:Rat):=by
 obtain ⟨c,rfl⟩:=h
 unfold lC
 rw [Nat.mul_div_cancel_left _ (den_pos q),Rat.intCast_mul,AR,Rat.intCast_natCast,Rat.natCast_mul,Rat.mul_assoc]
theorem mz {B:Nat} {q:Rat} (h:q.den∣B):lC (2*B) q % 2=0:=by
 obtain ⟨c,rfl⟩:=h
 unfold lC
 rw [show 2*(q.den*c)=q.den*(2*c) by rw [← Nat.mul_assoc,← Nat.mul_assoc,Nat.mul_comm 2],Nat.mul_div_cancel_left _ (den_pos q)]
 rw [show ((2*c:Nat):Int)=2*(c:Int) by omega,← Int.mul_assoc,Int.mul_comm q.num 2,Int.mul_assoc]
 exact Int.mul_emod_right _ _
theorem sQ {u:Nat} {q:Rat} (h:0≤q):0≤lC u q:=Int.mul_nonneg (Rat.num_nonneg.mpr h) (Int.natCast_nonneg _)
def By (R:Ring):List Rat:=R.asks.map (·.size)
def Ff (R:Ring) (q:Rat):List Rat:=R.rooms.map fun r=>q*r
def cbR (R:Ring) (q:Rat):Nat:=cbN (By R++Ff R q)
def cW (R:Ring) (q:Rat):Nat:=2*cbR R q
def wI (R:Ring) (q:Rat) (j:Nat):Int:=lC (cW R q) (cq R j).size
def f0I (R:Ring) (q:Rat) (t:Nat):Int:=lC (cW R q) (q*R.room t)
theorem uU {R:Ring} {j:Nat} (h:j <R.asks.length) (q:Rat):(cq R j).size.den∣cbR R q:=by
 refine Bx (List.mem_append_left _ (List.mem_map.mpr ⟨cq R j,?_,rfl⟩))
 rw [uS h]
 exact List.getElem_mem h
theorem AS {R:Ring} {t:Nat} (h:t <R.n):R.room t∈R.rooms:=by
 unfold Ring.room
 have h':t <R.rooms.length:=h
 rw [List.getD_eq_getElem?_getD,List.getElem?_eq_getElem h']
 exact List.getElem_mem h'
theorem oK {R:Ring} {t:Nat} (h:t <R.n) (q:Rat):(q*R.room t).den∣cbR R q :=
 Bx (List.mem_append_right _ (List.mem_map.mpr ⟨R.room t,AS h,rfl⟩))
theorem yI {a b:Nat} (h:a∣b):a∣2*b:=Nat.dvd_trans h (Nat.dvd_mul_left _ _)
theorem Fg {R:Ring} {q:Rat} {j:Nat} (h:j <R.asks.length):((wI R q j:Int):Rat)=(cq R j).size*(cW R q:Rat):=jK (yI (uU h q))
theorem Bz {R:Ring} {q:Rat} {t:Nat} (h:t <R.n):((f0I R q t:Int):Rat)=q*R.room t*(cW R q:Rat):=jK (yI (oK h q))
theorem uV {R:Ring} (hR:R.Ok) (q:Rat):∀j,j <R.asks.length→0≤wI R q j:=fun j h=>sQ (gZ hR h).size
theorem oM:∀{qs:List Rat} {q:Rat},q∈qs→q.den∣denP qs
 | p::qs,q,h=>by
  show q.den∣p.den*denP qs
  rcases List.mem_cons.mp h with rfl|h
  ·
   exact Nat.dvd_mul_right _ _
  ·
   exact Nat.dvd_trans (oM h) (Nat.dvd_mul_left _ _)
theorem yJ:∀{qs:List Rat},(∀q∈qs,RB 60 q)→denP qs≤2 ^ (60*qs.length)
 | [],_=>Nat.le_refl 1
 | q::qs,h=>by
  have h1:=(h q List.mem_cons_self).2
  have h2:=yJ fun p hp=>h p (List.mem_cons_of_mem _ hp)
  show q.den*denP qs≤2 ^ (60*(qs.length+1))
  rw [Nat.mul_add,Nat.mul_one,Nat.pow_add,Nat.mul_comm (2 ^ _)]
  exact Nat.mul_le_mul (Nat.le_of_lt h1) h2
theorem Fh (R:Ring) (q:Rat):0 <cbR R q:=by
 have hd:cbR R q∣denP (By R++Ff R q):=Fe fun p hp=>oM hp
 exact Nat.pos_of_dvd_of_pos hd (oz _)
theorem uW {R:Ring} (hR:R.Ok) {q:Rat} (hq:RB 1750 q):0 <cW R q∧cW R q <2 ^ 3750:=by
 obtain ⟨D,d0,d1,hD⟩:=hR.cd
 have hd:cbR R q∣D*(q.den*denP R.rooms):=by
  refine Fe fun p hp=>?_
  rcases List.mem_append.mp hp with hp|hp
  ·
   obtain ⟨a,ha,rfl⟩:=List.mem_map.mp hp
   exact Nat.dvd_trans (hD a ha) (Nat.dvd_mul_right _ _)
  ·
   obtain ⟨r,hr,rfl⟩:=List.mem_map.mp hp
   refine Nat.dvd_trans (iN q r) (Nat.dvd_trans (Nat.mul_dvd_mul_left _ (oM hr)) (Nat.dvd_mul_left _ _))
 have h1:D≤2 ^ 1240:=Nat.le_of_lt d1
 have h2:denP R.rooms≤2 ^ 720:=by
  refine Nat.le_trans (yJ fun p hp=>(hR.room p hp).2) (Nat.pow_le_pow_right (by decide) ?_)
  have:R.rooms.length≤12:=hR.hi
  omega
 have h3:q.den≤2 ^ 1750:=Nat.le_of_lt hq.2
 have h4:cbR R q≤D*(q.den*denP R.rooms):=Nat.le_of_dvd (Nat.mul_pos d0 (Nat.mul_pos (den_pos _) (oz _))) hd
 have h5:D*(q.den*denP R.rooms)≤2 ^ 1240*(2 ^ 1750*2 ^ 720):=Nat.mul_le_mul h1 (Nat.mul_le_mul h3 h2)
 have h6:2 ^ 1240*(2 ^ 1750*2 ^ 720)=2 ^ 3710:=by rw [← Nat.pow_add,← Nat.pow_add]
 rw [h6] at h5
 have h0:=Fh R q
 have h7:(2:Nat) ^ 3711=2*2 ^ 3710:=by rw [Nat.pow_succ,Nat.mul_comm]
 have h8:(2:Nat) ^ 3711 <2 ^ 3750:=Nat.pow_lt_pow_right (by decide) (by decide)
 unfold cW
 refine ⟨by omega,?_⟩
 generalize (2:Nat) ^ 3750=z at *
 generalize (2:Nat) ^ 3710=y at *
 generalize (2:Nat) ^ 3711=x at *
 omega
end My
namespace My
open PySem L2
theorem vX (R:Ring):R.asks=(List.range R.asks.length).map (cq R):=by
 refine List.ext_getElem (by simp) fun j h1 h2=>?_
 rw [List.getElem_map,List.getElem_range,uS h1]
theorem mB {α:Type} (p:α→Bool) (f:α→Rat):∀xs:List α,sumQ ((xs.filter p).map f)=sumQ (xs.map fun a=>if p a then f a else 0)
 | []=>rfl
 | x::xs=>by
  rw [List.filter_cons,List.map_cons,mw,← mB p f xs]
  cases p x
  ·
   simp [Rat.zero_add]
  ·
   simp [mw]
theorem qF (R:Ring) (c:Nat×Nat):oH R.asks c=sumQ ((List.range R.asks.length).map fun j=>if apart c (cq R j).one (cq R j).other then (cq R j).size else 0):=by
 unfold oH
 rw [mB]
 conv=>lhs;rw [vX R,List.map_map]
 rfl
theorem uX (F:Nat→Int) (G:Nat→Rat) (u:Rat):∀xs:List Nat,(∀j∈xs,((F j:Int):Rat)=G j*u)→(((xs.map F).sum:Int):Rat)=sumQ (xs.map G)*u
 | [],_=>by
  show ((0:Int):Rat)=0*u
  rw [Rat.zero_mul];rfl
 | x::xs,h=>by
  rw [List.map_cons,List.sum_cons,Rat.intCast_add,h x List.mem_cons_self,uX F G u xs fun j hj=>h j (List.mem_cons_of_mem _ hj),List.map_cons,mw,Rat.add_mul]
theorem Df {R:Ring} (hR:R.Ok) {q:Rat} {g h:Nat} (hc:sM R.n (g,h)):((dI R (wI R q) 0 g h:Int):Rat)=oH R.asks (g,h)*(cW R q:Rat):=by
 rw [qF]
 unfold dI
 rw [Nat.sub_zero]
 refine uX _ _ _ _ fun j hj=>?_
 have hj:=List.mem_range.mp hj
 rw [Nat.zero_add,yD (gZ hR hj) hc]
 show (((if onA R j g != onA R j h then wI R q j else 0:Int)):Rat)=(if onA R j g != onA R j h then (cq R j).size else 0)*_
 cases (onA R j g != onA R j h)
 ·
  simp only [Bool.false_eq_true,if_false]
  rw [Rat.zero_mul];rfl
 ·
  simp only [if_true]
  exact Fg hj
theorem uY (F:Nat→Int):∀xs:List Nat,(∀j∈xs,F j % 2=0)→(xs.map F).sum % 2=0
 | [],_=>rfl
 | x::xs,h=>by
  have h1:=h x List.mem_cons_self
  have h2:=uY F xs fun j hj=>h j (List.mem_cons_of_mem _ hj)
  rw [List.map_cons,List.sum_cons]
  omega
theorem AU {R:Ring} (hR:R.Ok) {q:Rat} (hq:RB 1750 q) (hs:∀c,sM R.n c→yA R c≤q):qC R (wI R q) (f0I R q) 0:=by
 have u0:0 <cW R q:=(uW hR hq).1
 have uQ:(0:Rat) <(cW R q:Rat):=Rat.natCast_pos.mpr u0
 have main:∀g h,g <R.n→h <R.n→g≤h→dI R (wI R q) 0 g h≤f0I R q g+f0I R q h:=by
  intro g h hg hh hgh
  have hc:sM R.n (g,h):=⟨hgh,hh⟩
  refine Rat.intCast_le_intCast.mp ?_
  rw [Df hR hc,Rat.intCast_add,Bz hg,Bz hh]
  have h1:=hs (g,h) hc
  unfold yA at h1
  rw [sN (yC hR hc).1] at h1
  have h2:=Rat.mul_le_mul_of_nonneg_right h1 (Rat.le_of_lt uQ)
  have e:q*qz R (g,h)*(cW R q:Rat)=q*R.room g*(cW R q:Rat)+q*R.room h*(cW R q:Rat):=by
   show q*(R.room g+R.room h)*_=_
   rw [Rat.mul_add,Rat.add_mul]
  rw [← e]
  exact h2
 have ev:∀g h,g <R.n→h <R.n→(f0I R q g+f0I R q h - dI R (wI R q) 0 g h) % 2=0:=by
  intro g h hg hh
  have e1:f0I R q g % 2=0:=mz (oK hg q)
  have e2:f0I R q h % 2=0:=mz (oK hh q)
  have e3:dI R (wI R q) 0 g h % 2=0:=by
   unfold dI
   refine uY _ _ fun j hj=>?_
   have hj:j <R.asks.length:=by have:=List.mem_range.mp hj;omega
   rw [Nat.zero_add]
   split
   ·
    exact mz (uU hj q)
   ·
    rfl
  omega
 intro g h hg hh
 refine ⟨?_,ev g h hg hh⟩
 by_cases hgh:g≤h
 ·
  exact main g h hg hh hgh
 ·
  have:=main h g hh hg (by omega)
  rw [km] at this
  omega
def pI (R:Ring) (q:Rat) (k:Nat):Int:=pAt R (wI R q) (f0I R q) k
end My
namespace My
open PySem L2
end My
namespace My
open PySem L2
end My
namespace My
open PySem L2
end My
set_option exponentiation.threshold 2000
namespace L2
open PySem
theorem mC {a n:Nat} (h:a <2 ^ n) (hn:n≤1900):a <2 ^ 1900:=Nat.lt_of_lt_of_le h (Nat.pow_le_pow_right (by decide) hn)
theorem oN {q:Rat} {n:Nat} (h:RB n q) (hn:n≤1900):a9 (frD q)=true:=by
 have h1:=mC h.1 hn
 have h2:=mC h.2 hn
 simp only [frD,a9,bR,Bool.and_true,Bool.and_eq_true,decide_eq_true_eq]
 exact ⟨h1,by simpa using h2⟩
theorem fg {α:Type} {f:α→D}:∀xs:List α,(∀x∈xs,a9 (f x)=true)→bR (xs.map f)=true
 | [],_=>rfl
 | x::xs,h=>by simp only [List.map_cons,bR,h x List.mem_cons_self,fg xs fun y hy=>h y (List.mem_cons_of_mem _ hy),Bool.and_self]
theorem uZ {α:Type} {f:α→D} {c:Nat}:∀xs:List α,(∀x∈xs,(toP (f x)).weight≤c)→PyData.weightAll (toPs (xs.map f))≤(c+1)*xs.length
 | [],_=>by simp [toPs,PyData.weightAll]
 | x::xs,h=>by
  have h1:=uZ xs fun y hy=>h y (List.mem_cons_of_mem _ hy)
  have h2:=h x List.mem_cons_self
  simp only [List.map_cons,toPs,PyData.weightAll,List.length_cons]
  rw [Nat.mul_add]
  omega
theorem u5 {i:Int} {n:Nat} (h:i.natAbs <2 ^ n):(toP (.int i)).weight≤n:=by
 simp only [toP,PyData.weight]
 split
 ·
  omega
 ·
  rename_i h0
  have h0':i.natAbs≠0:=by simpa using h0
  have:=(Nat.log2_lt h0').mpr h
  omega
theorem Dg {q:Rat} {n:Nat} (h:RB n q):(toP (frD q)).weight≤2*n+2:=by
 have h1:=u5 h.1
 have h2:=u5 (i:=(q.den:Int)) (n:=n) (by rw [Int.natAbs_natCast];exact h.2)
 simp only [frD,toP,toPs,PyData.weight,PyData.weightAll] at h1 h2 ⊢
 omega
theorem Fi {n:Nat} {a:Ask} (h:NmOk a.nm∧RB 60 a.size) (ho:en n a) (hn:n≤12):(toP (askD a)).weight≤150:=by
 have h1:=h.1.hi
 have h2:=Dg h.2
 have h3:=ho.one
 have h4:=ho.other
 have h5:=u5 (i:=(a.one:Int)) (n:=4) (by rw [Int.natAbs_natCast];omega)
 have h6:=u5 (i:=(a.other:Int)) (n:=4) (by rw [Int.natAbs_natCast];omega)
 have e:a.nm.cps.size=a.nm.cps.toList.length:=by simp
 simp only [askD,toP,toPs,PyData.weight,PyData.weightAll] at h5 h6 ⊢
 omega
theorem yK {n:Nat} {a:Ask} (ht:RB 60 a.size) (h:en n a) (hn:n≤12):a9 (askD a)=true:=by
 have h1:=h.one
 have h2:=h.other
 have p:12 <2 ^ 1900:=mC (n:=4) (by decide) (by decide)
 simp only [askD,a9,bR,Bool.and_true,Bool.true_and,Bool.and_eq_true,decide_eq_true_eq]
 refine ⟨?_,?_,oN ht (by decide)⟩
 ·
  rw [Int.natAbs_natCast];omega
 ·
  rw [Int.natAbs_natCast];omega
theorem vY {R:Ring} (h:R.Ok) (hn:∀a∈R.asks,NmOk a.nm∧RB 60 a.size):a9 (aH R)=true:=by
 simp only [aH,a9,bR,Bool.and_true,Bool.and_eq_true]
 exact ⟨fg _ fun q hq=>oN (h.room q hq).2 (by decide),fg _ fun a ha=>yK (hn a ha).2 (h.ask a ha) h.hi⟩
theorem Dh {R:Ring} (h:R.Ok) (hn:∀a∈R.asks,NmOk a.nm∧RB 60 a.size):(toP (aH R)).weight≤5000:=by
 have h1:=uZ (f:=frD) (c:=122) R.rooms fun q hq=>Dg (h.room q hq).2
 have h2:=uZ (f:=askD) (c:=150) R.asks fun a ha=>Fi (hn a ha) (h.ask a ha) h.hi
 have h3:=h.hi
 have h4:=h.few
 have h5:R.rooms.length=R.n:=rfl
 simp only [aH,toP,toPs,PyData.weight,PyData.weightAll]
 omega
theorem Fj {qs:List Rat} {n:Nat} (h:∀q∈qs,RB n q):(toP (.lst (qs.map frD))).weight≤(2*n+3)*qs.length:=by
 have h1:=uZ (f:=frD) (c:=2*n+2) qs fun q hq=>Dg (h q hq)
 simp only [toP,PyData.weight]
 exact h1
theorem yL {qs:List Rat} {n:Nat} (h:∀q∈qs,RB n q) (hn:n≤1900):a9 (.lst (qs.map frD))=true:=by
 simp only [a9]
 exact fg _ fun q hq=>oN (h q hq) hn
theorem Di (n:Nat) (qs:List Rat):okD (n+2) (.lst (qs.map frD))=true:=by
 simp only [okD]
 exact d5 _ fun q _=>nM n q
theorem okD_mono:∀{m n:Nat} (d:D),m≤n→okD m d=true→okD n d=true:=by
 intro m n d hmn h
 have:∀(m:Nat),(∀(n:Nat) (d:D),m≤n→okD m d=true→okD n d=true)∧∀(n:Nat) (ds:List D),m≤n→okDs m ds=true→okDs n ds=true:=by
  intro m
  induction m with
  | zero =>
   have h0:∀(n:Nat) (d:D),0≤n→okD 0 d=true→okD n d=true:=fun n d _ h=>by
    cases d<;>cases n<;>simp_all [okD]
   refine ⟨h0,fun n ds hn h=>?_⟩
   induction ds with
   | nil=>simp [okDs]
   | cons x xs ih=>simp only [okDs,Bool.and_eq_true] at h ⊢;exact ⟨h0 n x hn h.1,ih h.2⟩
  | succ m ih =>
   have h0:∀(n:Nat) (d:D),m+1≤n→okD (m+1) d=true→okD n d=true:=fun n d hn h=>by
    obtain ⟨k,rfl⟩:∃k,n=k+1:=⟨n - 1,by omega⟩
    cases d<;>simp_all [okD]
    all_goals exact ih.2 k _ (by omega) h
   refine ⟨h0,fun n ds hn h=>?_⟩
   induction ds with
   | nil=>simp [okDs]
   | cons x xs ihx=>simp only [okDs,Bool.and_eq_true] at h ⊢;exact ⟨h0 n x hn h.1,ihx h.2⟩
 exact (this m).1 n d hmn h
theorem AV {R:Ring} (h:R.Ok) (hn:∀a∈R.asks,NmOk a.nm∧RB 60 a.size) {ps:List Rat} {b:Nat} (hp:∀p∈ps,RB b p) (hb:b≤300) (hl:ps.length≤20):qh (.tup [aH R,.lst (ps.map frD)]):=by
 refine ⟨?_,?_,?_⟩
 ·
  simp only [okD,okDs,Bool.and_true,Bool.and_eq_true]
  exact ⟨okD_mono _ (by decide) (Ar h),Di 37 ps⟩
 ·
  simp only [a9,bR,Bool.and_true,Bool.and_eq_true]
  exact ⟨vY h hn,by have:=yL hp (Nat.le_trans hb (by decide));simpa only [a9] using this⟩
 ·
  have h1:=Dh h hn
  have h2:=Fj hp
  have h2':(2*b+3)*ps.length≤603*20:=Nat.mul_le_mul (by omega) hl
  simp only [toP,toPs,PyData.weight,PyData.weightAll] at h1 h2 ⊢
  omega
end L2
set_option exponentiation.threshold 5000
namespace My
open PySem L2
structure LB (R:Ring) (ps:List Rat):Prop where
 p:∀p∈ps,RB 4100 p
 ld:∀k t,RB 4100 (Fc R.n (R.asks.take k) (ps.take k) t)
 st:∀(k:Nat) (h1:k <R.asks.length) (h2:k <ps.length) (t:Nat),RB 4100 (sent R.n R.asks[k] ps[k] t)
 sm:∀t,Gs ((R.asks.zip ps).map fun x=>sent R.n x.1 x.2 t)
theorem LB.all {R:Ring} {ps:List Rat} (h:LB R ps) (hl:ps.length=R.asks.length) (t:Nat):RB 4100 (Fc R.n R.asks ps t):=by
 have:=h.ld R.asks.length t
 rwa [List.take_of_length_le (Nat.le_refl _),List.take_of_length_le (by omega)] at this
theorem Gv {R:Ring} (hR:R.Ok) {q:Rat} (hq:RB 1750 q) {j:Nat} (h:j <R.asks.length):(wI R q j).natAbs <2 ^ 4050:=by
 have h1:=(uW hR hq).2
 have h2:=qp (V:=2 ^ 300) (gZ hR h).size (gZ hR h).lt
 unfold wI lC
 rw [Int.natAbs_mul,Int.natAbs_natCast]
 have h3:(cq R j).size.den*(cW R q / (cq R j).size.den)≤cW R q:=Nat.mul_div_le _ _
 have e:(2:Nat) ^ 4050=2 ^ 300*2 ^ 3750:=by rw [← Nat.pow_add]
 have h4:(cq R j).size.num.natAbs*(cW R q / (cq R j).size.den)≤2 ^ 300*cW R q:=by
  refine Nat.le_trans (Nat.mul_le_mul_right _ (Nat.le_of_lt h2)) ?_
  rw [Nat.mul_assoc]
  exact Nat.mul_le_mul_left _ h3
 rw [e]
 exact Nat.lt_of_le_of_lt h4 (Nat.mul_lt_mul_of_pos_left h1 (Nat.pow_pos (by decide)))
def zI (R:Ring) (q:Rat) (t j:Nat):Int:=if isOn R.n (cq R j) t then pI R q j else wI R q j - pI R q j
theorem z_abs {R:Ring} (hR:R.Ok) {q:Rat} (hq:RB 1750 q) (hs:∀c,sM R.n c→yA R c≤q) (t:Nat) {j:Nat} (h:j <R.asks.length):0≤zI R q t j∧zI R q t j <2 ^ 4050:=by
 have hw:=Gv hR hq h
 have w0:=uV hR q j h
 obtain ⟨p0,p1⟩:=AQ hR (uV hR q) (AU hR hq hs) h
 have e:((2 ^ 4050:Nat):Int)=2 ^ 4050:=by norm_cast
 have hw':wI R q j <2 ^ 4050:=by rw [← e];omega
 have p0':0≤pI R q j:=p0
 have p1':pI R q j≤wI R q j:=p1
 generalize (2:Int) ^ 4050=B at hw'
 unfold zI
 split<;>omega
end My
namespace My
open PySem L2
def ratB:D→Bool
 | .tup [.int i,.int j]=>decide (1≤j) && decide ((Int.gcd i j:Int)=1)
 | _=>false
theorem kr {d:D} (h:∀i j,d≠.tup [.int i,.int j]):ratB d=false:=by
 unfold ratB
 split
 ·
  rename_i i j
  exact absurd rfl (h i j)
 ·
  rfl
end My
namespace My
open PySem L2
mutual
def widD:D→Nat
 | .tup xs=>max xs.length (sR xs)
 | .lst xs=>max xs.length (sR xs)
 | _=>0
def sR:List D→Nat
 | []=>0
 | x::xs=>max (widD x) (sR xs)
end
theorem u6 {n:Nat}:∀{xs:List D},(∀x∈xs,widD x≤n)→sR xs≤n
 | [],_=>Nat.zero_le _
 | y::ys,h=>by
  simp only [sR]
  have:=h y List.mem_cons_self
  have:=u6 (xs:=ys) fun x hx=>h x (List.mem_cons_of_mem _ hx)
  omega
theorem qG {n:Nat} (h:n≤99):n≤sizeLine:=Nat.le_trans h (by decide)
theorem Dj (q:Rat):widD (frD q)=2:=by simp [frD,widD,sR]
theorem AW (a:Ask):widD (askD a)=4:=by
 have:=Dj a.size
 simp [askD,widD,sR,this]
theorem yM {as:List Ask} {n:Nat} (h:as.length≤n) (h2:4≤n):widD (.lst (as.map askD))≤n:=by
 simp only [widD,List.length_map]
 have:=u6 (n:=4) (xs:=as.map askD) fun x hx=>by
  obtain ⟨q,_,rfl⟩:=List.mem_map.mp hx
  rw [AW]
  exact Nat.le_refl _
 omega
structure SmD (n:Nat) (d:D):Prop where
 dep:depD d <n
 wid:widD d≤99
theorem Dk (q:Rat):depD (frD q)=1:=by simp [frD,depD,sq]
theorem AX (a:Ask):depD (askD a)=2:=by
 have:=Dk a.size
 simp [askD,depD,sq,this]
theorem AY {xs:List D} {n:Nat} (h:∀x∈xs,depD x≤n):depD (.lst xs)≤n+1:=by
 simp only [depD]
 have:=uz h
 omega
theorem yN (as:List Ask):depD (.lst (as.map askD))≤3:=AY fun x hx=>by
 obtain ⟨q,_,rfl⟩:=List.mem_map.mp hx
 rw [AX]
 exact Nat.le_refl _
theorem SmD.asks {as:List Ask} (h:as.length≤99):SmD 4 (.lst (as.map askD)):=⟨by have:=yN as;omega,yM h (by decide)⟩
mutual
theorem okD_mono:∀(n:Nat) (d:D),okD n d=true→okD (n+1) d=true
 | _,.non,_=>by simp [okD]
 | _,.bl _,_=>by simp [okD]
 | _,.int _,_=>by simp [okD]
 | _,.str x,h=>by simpa [okD] using h
 | 0,.tup _,h=>by simp [okD] at h
 | 0,.lst _,h=>by simp [okD] at h
 | n+1,.tup xs,h=>by
  simp only [okD] at h ⊢
  exact mD n xs h
 | n+1,.lst xs,h=>by
  simp only [okD] at h ⊢
  exact mD n xs h
 | _,.dct _,h=>by simp [okD] at h
 | _,.exc _ _ _,h=>by simp [okD] at h
theorem mD:∀(n:Nat) (ds:List D),okDs n ds=true→okDs (n+1) ds=true
 | _,[],_=>rfl
 | n,d::ds,h=>by
  simp only [okDs,Bool.and_eq_true] at h ⊢
  exact ⟨okD_mono n d h.1,mD n ds h.2⟩
end
end My
set_option exponentiation.threshold 5000
namespace My
open PySem L2
def Tw (R:Ring) (ps:List Rat):Prop:=∀k,k <R.asks.length→∃v:Int,0≤v∧v≤12∧ps.getD k 0=R.sz k*Rat.divInt v 12
end My
set_option exponentiation.threshold 5000
namespace My
open PySem L2
structure Wish where
 top:Rat
 strict:Bool
 elder:List (Option Bool)
 most:Nat
def Fk (x:Option Bool×Option Bool):Bool:=match x.1 with
 | none=>false
 | some a=>x.2 == some (!a)
def Gw (el ws:List (Option Bool)):List Nat:=((el.zip ws).zipIdx.filter fun x=>Fk x.1).map (·.2)
def Gx (st:Bool) (load bound:Int):Bool:=decide (bound <load) || (st && decide (load=bound))
end My
set_option exponentiation.threshold 5000
namespace My
open PySem L2
def sumN:Nat→(Nat→Int)→Int
 | 0,_=>0
 | n+1,f=>sumN n f+f n
inductive Tr where
 | turned
 | cut (c:Nat×Nat)
 | split (k:Nat) (a b:Tr)
def tov (R:Ring) (fixed:List (Option Bool)) (c:Nat×Nat) (i:Nat):Int:=match fixed.getD i none with
 | none=>if apart c (cq R i).one (cq R i).other then 1 else 0
 | some b=>(if onA R i c.1 == b then 1 else 0)+if onA R i c.2 == b then 1 else 0
def Gy (R:Ring) (q:Rat) (fixed:List (Option Bool)) (c:Nat×Nat):Int:=sumN R.asks.length fun i=>wI R q i*tov R fixed c i
def Tr.Ok (R:Ring) (w:Wish):List (Option Bool)→Tr→Prop
 | fixed,.turned=>w.most <(Gw w.elder fixed).length
 | fixed,.cut c=>sM R.n c∧Gx w.strict (Gy R w.top fixed c) (f0I R w.top c.1+f0I R w.top c.2)=true
 | fixed,.split k a b=>k <fixed.length∧fixed.getD k none=none∧Tr.Ok R w (fixed.set k (some true)) a∧Tr.Ok R w (fixed.set k (some false)) b
end My
set_option exponentiation.threshold 5000
namespace My
open PySem L2
def Tr.size:Tr→Nat
 | .turned=>1
 | .cut _=>1
 | .split _ a b=>a.size+b.size+1
end My
set_option exponentiation.threshold 5000
namespace My
open PySem L2
end My
set_option exponentiation.threshold 5000
namespace My
open PySem L2
theorem FL {α:Type} {xs:List α} (h:0 <xs.length):cutD xs (some (-1)) none=xs.drop (xs.length - 1):=by
 unfold cutD HT.sIx
 dsimp only
 rw [List.take_of_length_le (by rw [List.length_drop];omega)]
 congr 1
 split<;>omega
theorem Dl {α:Type} {xs:List α} (h:0 <xs.length):cutD xs none (some (-1))=xs.take (xs.length - 1):=by
 unfold cutD HT.sIx
 dsimp only
 rw [List.drop_zero]
 congr 1
 split<;>omega
end My
set_option exponentiation.threshold 5000
namespace My
open PySem L2
theorem Dm {d:D} (h:ratB d=true):∃q:Rat,d=frD q:=by
 by_cases hd:∃i j,d=.tup [.int i,.int j]
 ·
  obtain ⟨i,j,rfl⟩:=hd
  have e:ratB (.tup [.int i,.int j])=(decide (1≤j) && decide ((Int.gcd i j:Int)=1)):=rfl
  rw [e,Bool.and_eq_true] at h
  have h1:=of_decide_eq_true h.1
  have h2:=of_decide_eq_true h.2
  refine ⟨⟨i,j.toNat,by omega,?_⟩,?_⟩
  ·
   have:Int.gcd i j=1:=by omega
   show Nat.gcd i.natAbs j.toNat=1
   have e2:j.natAbs=j.toNat:=by omega
   rw [← e2]
   exact this
  ·
   show D.tup [.int i,.int j]=D.tup [.int i,.int (j.toNat:Int)]
   rw [Int.toNat_of_nonneg (by omega)]
 ·
  rw [kr fun i j e=>hd ⟨i,j,e⟩] at h
  cases h
end My
set_option exponentiation.threshold 5000
namespace My
open PySem L2
structure dU where
 k:Nat
 kw:Bool
 l:Nat
 lw:Bool
 am:Rat
def slD (s:dU):D:=.tup [.int (s.k:Int),.str (wayS s.kw),.int (s.l:Int),.str (wayS s.lw),frD s.am]
def nsQ (R:Ring) (ps:List Rat) (k:Nat) (w:Bool):Rat:=if w then R.sz k - ps.getD k 0 else ps.getD k 0
def msQ (R:Ring) (ps:List Rat) (k:Nat) (kw:Bool) (l:Nat) (lw:Bool):Rat:=if nsQ R ps l lw <nsQ R ps k kw then nsQ R ps l lw else nsQ R ps k kw
def bhQ (p:Rat) (w:Bool) (am:Rat):Rat:=if w then p+am else p - am
def slL (ps:List Rat) (s:dU):List Rat:=(ps.set s.k (bhQ (ps.getD s.k 0) s.kw s.am)).set s.l (bhQ ((ps.set s.k (bhQ (ps.getD s.k 0) s.kw s.am)).getD s.l 0) s.lw s.am)
def sS (n:Nat) (a:Ask) (aw:Bool) (b:Ask) (bw:Bool):Bool:=!((wayL n a aw).any fun t=>decide (t∈wayL n b bw))
structure SlOk (R:Ring) (ps:List Rat):Prop where
 ok:R.Ok
 len:ps.length=R.asks.length
 lo:∀k,k <ps.length→0≤ps.getD k 0∧ps.getD k 0≤R.sz k
 cd:∃D:Nat,0 <D∧D <2 ^ 1500∧(∀a∈R.asks,a.size.den∣D)∧∀p∈ps,p.den∣D
theorem g9 {R:Ring} {k:Nat} (h:k <R.asks.length):R.sz k=R.asks[k].size:=by
 unfold Ring.sz
 rw [List.getD_eq_getElem?_getD,List.getElem?_map,List.getElem?_eq_getElem h]
 rfl
theorem cu {ps:List Rat} {k:Nat} (h:k <ps.length):ps.getD k 0=ps[k]:=by rw [List.getD_eq_getElem?_getD,List.getElem?_eq_getElem h];rfl
theorem rlt {a b c:Rat} (h1:a≤b) (h2:b <c):a <c:=by
 rw [← Rat.not_le] at h2 ⊢
 exact fun z=>h2 (Rat.le_trans z h1)
theorem u7 {q:Rat} {D:Nat} (h0:0≤q) (h1:q <((2 ^ 300:Nat):Rat)) (d0:0 <D) (d1:D <2 ^ 1500) (hd:q.den∣D):RB 1800 q:=RB.of_val (v:=300) (d:=1500) h0 (Nat.lt_of_le_of_lt (Nat.le_of_dvd d0 hd) d1) h1
theorem SlOk.sz_rb {R:Ring} {ps:List Rat} (h:SlOk R ps) {k:Nat} (hk:k <ps.length):RB 1800 (R.sz k):=by
 have hk':k <R.asks.length:=by rw [← h.len];exact hk
 rw [g9 hk']
 exact (h.ok.rb (List.getElem_mem hk')).mono (by decide)
theorem SlOk.rb {R:Ring} {ps:List Rat} (h:SlOk R ps) {k:Nat} (hk:k <ps.length):RB 1800 (ps.getD k 0):=by
 obtain ⟨D,d0,d1,_,hd⟩:=h.cd
 have hk':k <R.asks.length:=by rw [← h.len];exact hk
 obtain ⟨h1,h2⟩:=h.lo k hk
 refine u7 h1 (rlt h2 ?_) d0 d1 (hd _ (by rw [cu hk];exact List.getElem_mem hk))
 rw [g9 hk']
 exact (h.ok.ask _ (List.getElem_mem hk')).lt
theorem sT {p q:Rat} {D:Nat} (d0:0 <D) (h1:p.den∣D) (h2:q.den∣D):(p+q).den∣D:=by
 have e:p+q=Rat.divInt (lC D p+lC D q) (D:Int):=by
  have hD:((D:Int):Rat)≠0:=by
   have:(0:Rat) <(D:Rat):=Rat.natCast_pos.mpr d0
   intro z
   rw [show ((D:Int):Rat)=(D:Rat) from rfl] at z
   rw [z] at this
   exact absurd this (by decide)
  rw [Rat.divInt_eq_div,Rat.intCast_add,jK h1,jK h2,← Rat.add_mul,Rat.div_def,Rat.mul_assoc,show ((D:Nat):Rat)=((D:Int):Rat) from rfl,Rat.mul_inv_cancel _ hD,Rat.mul_one]
 rw [e]
 have:=oJ (t:=lC D p+lC D q) (b:=(D:Int)) (by omega)
 simpa using this
theorem yO {p q:Rat} {D:Nat} (d0:0 <D) (h1:p.den∣D) (h2:q.den∣D):(p - q).den∣D:=by
 rw [Rat.sub_eq_add_neg]
 exact sT d0 h1 (by rw [Rat.neg_den];exact h2)
theorem SlOk.ns {R:Ring} {ps:List Rat} (h:SlOk R ps) {k:Nat} (hk:k <ps.length) (w:Bool):0≤nsQ R ps k w∧nsQ R ps k w≤R.sz k:=by
 obtain ⟨h1,h2⟩:=h.lo k hk
 unfold nsQ
 cases w
 ·
  exact ⟨h1,h2⟩
 ·
  have h3:=(Rat.le_iff_sub_nonneg _ _).mp h2
  refine ⟨h3,?_⟩
  show R.sz k - ps.getD k 0≤R.sz k
  rw [Rat.le_iff_sub_nonneg]
  have:R.sz k - (R.sz k - ps.getD k 0)=ps.getD k 0:=by
   rw [Rat.sub_eq_add_neg,Rat.sub_eq_add_neg,Rat.neg_add,Rat.neg_neg,← Rat.add_assoc,Rat.add_neg_cancel,Rat.zero_add]
  rw [this]
  exact h1
theorem SlOk.ms {R:Ring} {ps:List Rat} (h:SlOk R ps) {k l:Nat} (hk:k <ps.length) (hl:l <ps.length) (kw lw:Bool):0≤msQ R ps k kw l lw∧msQ R ps k kw l lw≤nsQ R ps k kw∧msQ R ps k kw l lw≤nsQ R ps l lw∧(msQ R ps k kw l lw=nsQ R ps k kw∨msQ R ps k kw l lw=nsQ R ps l lw):=by
 have h1:=h.ns hk kw
 have h2:=h.ns hl lw
 unfold msQ
 split
 ·
  rename_i hlt
  exact ⟨h2.1,Rat.le_of_lt hlt,Rat.le_refl,.inr rfl⟩
 ·
  rename_i hlt
  exact ⟨h1.1,Rat.le_refl,Rat.not_lt.mp hlt,.inl rfl⟩
theorem lW {R:Ring} {k:Nat} (h:k <R.asks.length):cq R k=R.asks[k]:=by
 unfold cq
 rw [List.getElem?_eq_getElem h]
 rfl
end My
set_option exponentiation.threshold 5000
namespace My
open PySem L2
theorem Gz (p s:Rat):p+(s - p)=s:=by
 rw [Rat.sub_eq_add_neg,← Rat.add_assoc,Rat.add_comm p s,Rat.add_assoc,Rat.add_neg_cancel,Rat.add_zero]
theorem Dn {p a:Rat} (h:a≤p):0≤p - a:=(Rat.le_iff_sub_nonneg _ _).mp h
theorem AZ {p a:Rat} (h:0≤a):p - a≤p:=by
 rw [Rat.le_iff_sub_nonneg,Rat.sub_eq_add_neg,Rat.sub_eq_add_neg,Rat.neg_add,Rat.neg_neg,← Rat.add_assoc,Rat.add_neg_cancel,Rat.zero_add]
 exact h
theorem Do {p a:Rat} (h1:0≤p) (h2:0≤a):0≤p+a:=Rat.add_nonneg h1 h2
structure SlDo (R:Ring) (ps:List Rat) (s:dU):Prop where
 k:s.k <ps.length
 l:s.l <ps.length
 kl:s.k≠s.l
 nn:0≤s.am
 kn:s.am≤nsQ R ps s.k s.kw
 ln:s.am≤nsQ R ps s.l s.lw
theorem oO (ps:List Rat) (s:dU):(slL ps s).length=ps.length:=by simp [slL]
theorem BA {ps:List Rat} {s:dU} (hk:s.k <ps.length) (hl:s.l <ps.length) (hkl:s.k≠s.l) (i:Nat):(slL ps s).getD i 0=if i=s.k then bhQ (ps.getD s.k 0) s.kw s.am else if i=s.l then bhQ (ps.getD s.l 0) s.lw s.am else ps.getD i 0:=by
 have e0:(ps.set s.k (bhQ (ps.getD s.k 0) s.kw s.am)).getD s.l 0=ps.getD s.l 0:=by
  rw [List.getD_eq_getElem?_getD,List.getElem?_set_ne hkl,← List.getD_eq_getElem?_getD]
 unfold slL
 rw [e0,List.getD_eq_getElem?_getD]
 by_cases h1:i=s.k
 ·
  subst h1
  rw [if_pos rfl,List.getElem?_set_ne (Ne.symm hkl),List.getElem?_set_self hk]
  rfl
 ·
  rw [if_neg h1]
  by_cases h2:i=s.l
  ·
   subst h2
   rw [if_pos rfl,List.getElem?_set_self (by simpa using hl)]
   rfl
  ·
   rw [if_neg h2,List.getElem?_set_ne (Ne.symm h2),List.getElem?_set_ne (Ne.symm h1),List.getD_eq_getElem?_getD]
theorem BB {R:Ring} {ps:List Rat} {k:Nat} {w:Bool} {am:Rat} (h1:0≤ps.getD k 0) (h2:ps.getD k 0≤R.sz k) (a0:0≤am) (a1:am≤nsQ R ps k w):0≤bhQ (ps.getD k 0) w am∧bhQ (ps.getD k 0) w am≤R.sz k:=by
 unfold nsQ at a1
 unfold bhQ
 cases w with
 | true =>
  simp only [if_true] at a1 ⊢
  refine ⟨Do h1 a0,?_⟩
  have:=(Rat.add_le_add_left (c:=ps.getD k 0)).mpr a1
  rwa [Gz] at this
 | false =>
  simp only [Bool.false_eq_true,if_false] at a1 ⊢
  exact ⟨Dn a1,Rat.le_trans (AZ a0) h2⟩
theorem BC {R:Ring} {ps:List Rat} (h:SlOk R ps) {k:Nat} (hk:k <ps.length) (w:Bool) {D:Nat} (d0:0 <D) (da:∀a∈R.asks,a.size.den∣D) (dp:∀p∈ps,p.den∣D):(nsQ R ps k w).den∣D:=by
 have hk':k <R.asks.length:=by rw [← h.len];exact hk
 have e1:(ps.getD k 0).den∣D:=dp _ (by rw [cu hk];exact List.getElem_mem hk)
 unfold nsQ
 cases w
 ·
  exact e1
 ·
  refine yO d0 ?_ e1
  rw [g9 hk']
  exact da _ (List.getElem_mem hk')
theorem lD {R:Ring} {ps:List Rat} (h:SlOk R ps) {k:Nat} (hk:k <ps.length) (w:Bool):RB 3700 (nsQ R ps k w):=by
 unfold nsQ
 cases w
 ·
  exact (h.rb hk).mono (by decide)
 ·
  exact ((h.sz_rb hk).sub (h.rb hk)).mono (by decide)
theorem sU {R:Ring} {ps:List Rat} {k:Nat} (w:Bool):R.sz k - nsQ R ps k (!w)=nsQ R ps k w:=by
 unfold nsQ
 cases w
 ·
  show R.sz k - (R.sz k - ps.getD k 0)=ps.getD k 0
  rw [Rat.sub_eq_add_neg,Rat.sub_eq_add_neg,Rat.neg_add,Rat.neg_neg,← Rat.add_assoc,Rat.add_neg_cancel,Rat.zero_add]
 ·
  rfl
theorem Dp {R:Ring} {ps:List Rat} {k l:Nat} {kw lw:Bool} {am:Rat}:msQ R ps k kw l lw <am↔nsQ R ps k kw <am∨nsQ R ps l lw <am:=by
 unfold msQ
 split
 ·
  rename_i h
  exact ⟨.inr,fun z=>z.elim (fun q=>rlt (Rat.le_of_lt h) q) id⟩
 ·
  rename_i h
  exact ⟨.inl,fun z=>z.elim id fun q=>rlt (Rat.not_lt.mp h) q⟩
end My
set_option exponentiation.threshold 5000
namespace My
open PySem L2
def slB (R:Ring) (ps:List Rat) (s:dU):Bool:=!decide (s.k=s.l) && (sS R.n (cq R s.k) s.kw (cq R s.l) s.lw && (decide (0 <s.am) && !decide (msQ R ps s.k s.kw s.l s.lw <s.am)))
end My
set_option exponentiation.threshold 5000
namespace My
open PySem L2
section
variable {α:Type} [DecidableEq α]
end
end My
set_option exponentiation.threshold 5000
namespace My
open PySem L2
end My
namespace My
open PySem L2
end My
namespace My
open PySem L2
end My
namespace My
open PySem L2
def wayB:D→Bool
 | .str z=>decide (z=Str.ofString "on") || decide (z=Str.ofString "back")
 | _=>false
theorem yP (z:Str):inF (.str z) [.str (Str.ofString "on"),.str (Str.ofString "back")]=wayB (.str z):=by
 have e1:(Str.ofString "on" == z)=decide (z=Str.ofString "on"):=by rw [Bool.eq_iff_iff,beq_iff_eq,decide_eq_true_iff]; exact eq_comm
 have e2:(Str.ofString "back" == z)=decide (z=Str.ofString "back"):=by rw [Bool.eq_iff_iff,beq_iff_eq,decide_eq_true_iff]; exact eq_comm
 show (Str.ofString "on" == z || (Str.ofString "back" == z || false))=_
 rw [e1,e2,Bool.or_false]
 rfl
theorem four {xs:List D} (h:xs.length=4):∃a b c e,xs=[a,b,c,e]:=by
 match xs,h with
 | [a,b,c,e],_=>exact ⟨a,b,c,e,rfl⟩
structure Pt (n:Nat) (d:D):Prop where
 dep:depD d≤n
 wid:widD d≤99
 same:xZ (20+n) d=true
theorem Dq {α:Type} {xs:List α} {i:Int} (h0:0≤i) (h1:i <(xs.length:Int)):∃v,atI xs i=some v∧v∈xs:=by
 have hi:i.toNat <xs.length:=by omega
 exact ⟨xs[i.toNat],yb h0 (List.getElem?_eq_getElem hi),List.getElem_mem hi⟩
theorem Pt.int (i:Int):Pt 0 (.int i):=⟨by simp [depD],by simp [widD],by simp [xZ]⟩
end My
set_option exponentiation.threshold 5000
namespace My
open PySem L2
def ku:D→Option Bool
 | .str z=>if z=wayS true then some true else if z=wayS false then some false else none
 | _=>none
def iO:D→Option Nat
 | .int i=>if 0≤i then some i.toNat else none
 | _=>none
def lE (d:D):Option Rat:=match d with
 | .tup [.int i,.int j]=>if ratB (.tup [.int i,.int j]) then some (Rat.divInt i j) else none
 | _=>none
def slOf:D→Option dU
 | .tup [a,b,c,d,e]=>match iO a,ku b,iO c,ku d,lE e with
  | some k,some kw,some l,some lw,some am=>some ⟨k,kw,l,lw,am⟩
  | _,_,_,_,_=>none
 | _=>none
theorem lX {d:D} {w:Bool} (h:ku d=some w):d=.str (wayS w):=by
 unfold ku at h
 split at h
 ·
  split at h
  ·
   rename_i e;cases h;rw [e]
  ·
   split at h
   ·
    rename_i e;cases h;rw [e]
   ·
    cases h
 ·
  cases h
theorem yQ (w:Bool):ku (.str (wayS w))=some w:=by cases w<;>decide +kernel
theorem oP (d:D):wayB d=(ku d).isSome:=by
 unfold wayB ku
 cases d with
 | str z =>
  have e1:wayS true=Str.ofString "on":=rfl
  have e2:wayS false=Str.ofString "back":=rfl
  rw [← e1,← e2]
  by_cases h1:z=wayS true
  ·
   simp [h1]
  ·
   by_cases h2:z=wayS false
   ·
    simp [h1,h2]
    split<;>rfl
   ·
    simp [h1,h2]
 | _=>rfl
theorem lY {d:D} {k:Nat} (h:iO d=some k):d=.int (k:Int):=by
 unfold iO at h
 split at h
 ·
  split at h
  ·
   cases h
   congr 1
   omega
  ·
   cases h
 ·
  cases h
theorem yR (k:Nat):iO (.int (k:Int))=some k:=by
 show (if (0:Int)≤(k:Int) then some ((k:Int)).toNat else none)=_
 rw [if_pos (by omega)]
 rfl
theorem u9 {d:D} {q:Rat} (h:lE d=some q):d=frD q:=by
 unfold lE at h
 split at h
 ·
  rename_i i j
  split at h
  ·
   rename_i e
   cases h
   show D.tup [.int i,.int j]=_
   have e':(decide (1≤j) && decide ((Int.gcd i j:Int)=1))=true:=e
   rw [Bool.and_eq_true,decide_eq_true_eq,decide_eq_true_eq] at e'
   obtain ⟨h1,h2⟩:=e'
   have h3:Nat.gcd i.natAbs j.natAbs=1:=Int.ofNat_inj.mp h2
   obtain ⟨m,rfl⟩:=Int.eq_ofNat_of_zero_le (show 0≤j by omega)
   have hm:m≠0:=by omega
   have h3':i.natAbs.Coprime m:=by rw [Int.natAbs_natCast] at h3;exact h3
   have em:Rat.divInt i (m:Int)=Rat.mk' i m hm h3':=by rw [Rat.mk_eq_divInt]
   rw [em]
   rfl
  ·
   cases h
 ·
  cases h
theorem va (q:Rat):ratB (frD q)=true:=by
 unfold frD ratB
 have h1:=q.den_pos
 have h2:=q.reduced
 unfold Nat.Coprime at h2
 rw [Bool.and_eq_true,decide_eq_true_eq,decide_eq_true_eq]
 refine ⟨by omega,?_⟩
 show ((Nat.gcd q.num.natAbs ((q.den:Int)).natAbs:Nat):Int)=1
 rw [Int.natAbs_natCast,h2]
 rfl
theorem jL (q:Rat):lE (frD q)=some q:=by
 show (if ratB (.tup [.int q.num,.int (q.den:Int)]) then some (Rat.divInt q.num (q.den:Int)) else none)=_
 rw [show ratB (.tup [.int q.num,.int (q.den:Int)])=true from va q,if_pos rfl,Rat.num_divInt_den]
theorem yS (d:D):ratB d=(lE d).isSome:=by
 by_cases h:∃i j,d=.tup [.int i,.int j]
 ·
  obtain ⟨i,j,rfl⟩:=h
  show _=(if ratB (.tup [.int i,.int j]) then some (Rat.divInt i j) else none).isSome
  cases e:ratB (.tup [.int i,.int j])<;>rfl
 ·
  have hn:∀i j,d≠.tup [.int i,.int j]:=fun i j e=>h ⟨i,j,e⟩
  rw [kr hn]
  unfold lE
  split
  ·
   exact absurd rfl (hn _ _)
  ·
   rfl
theorem kx (s:dU):slOf (slD s)=some s:=by
 simp only [slD,slOf,yR,yQ,jL]
theorem sV {d:D} {s:dU} (h:slOf d=some s):d=slD s:=by
 unfold slOf at h
 split at h
 ·
  split at h
  ·
   rename_i h1 h2 h3 h4 h5
   cases h
   rw [lY h1,lX h2,lY h3,lX h4,u9 h5]
   rfl
  ·
   cases h
 ·
  cases h
def lF (n:Nat) (d:D):Bool:=match slOf d with
 | some s=>decide (s.k <n) && decide (s.l <n)
 | none=>false
def hG (d:D) (n:Int):Bool:=match d with
 | .int i=>decide (0≤i∧i <n)
 | _=>false
theorem lZ (d:D) (n:Nat):hG d (n:Int)=match iO d with|some k=>decide (k <n)|none=>false:=by
 unfold hG iO
 cases d with
 | int i =>
  by_cases h:0≤i
  ·
   simp only [h,if_true,true_and]
   rw [decide_eq_decide]
   omega
  ·
   simp only [h,if_false,false_and,decide_false]
 | _=>rfl
theorem oQ (n:Nat) (a b c d e:D):lF n (.tup [a,b,c,d,e])=(hG a n && (hG c n && (wayB b && (wayB d && ratB e)))):=by
 rw [lZ,lZ,oP,oP,yS]
 unfold lF
 have e0:slOf (.tup [a,b,c,d,e])=match iO a,ku b,iO c,ku d,lE e with
  | some k,some kw,some l,some lw,some am=>some ⟨k,kw,l,lw,am⟩
  | _,_,_,_,_=>none:=rfl
 rw [e0]
 cases iO a<;>cases ku b<;>cases iO c<;>cases ku d<;>cases lE e<;>simp
theorem qH {n:Nat} {xs:List D} (h:xs.length≠5):lF n (.tup xs)=false:=by
 have:slOf (.tup xs)=none:=by
  unfold slOf
  split
  ·
   rename_i eq
   cases eq
   exact absurd rfl h
  ·
   rfl
 unfold lF
 rw [this]
theorem vb {n:Nat} {d:D} (h:∀xs,d≠.tup xs):lF n d=false:=by
 have:slOf d=none:=by
  unfold slOf
  split
  ·
   exact absurd rfl (h _)
  ·
   rfl
 unfold lF
 rw [this]
theorem five {xs:List D} (h:xs.length=5):∃a b c d e,xs=[a,b,c,d,e]:=by
 match xs,h with
 | [a,b,c,d,e],_=>exact ⟨a,b,c,d,e,rfl⟩
def slT (R:Ring) (ps:List Rat) (d:D):Bool:=match slOf d with
 | some s=>decide (s.k <ps.length) && (decide (s.l <ps.length) && slB R ps s)
 | none=>false
theorem BD {R:Ring} {ps:List Rat} {s:dU} (hk:s.k <ps.length) (hl:s.l <ps.length):slT R ps (slD s)=slB R ps s:=by
 unfold slT
 rw [kx]
 simp [hk,hl]
theorem yT {R:Ring} {ps:List Rat} {d:D} (h:slT R ps d=true):∃s,d=slD s∧s.k <ps.length∧s.l <ps.length∧slB R ps s=true:=by
 unfold slT at h
 split at h
 ·
  rename_i s e
  rw [Bool.and_eq_true,Bool.and_eq_true,decide_eq_true_eq,decide_eq_true_eq] at h
  exact ⟨s,sV e,h.1,h.2.1,h.2.2⟩
 ·
  cases h
end My
set_option exponentiation.threshold 5000
namespace My
open PySem L2
def oddA (am q:Rat):Prop:=q=am∨q=0∨q=am+Rat.divInt 1 7∨q=-am
theorem Fm {R:Ring} {ps:List Rat} (h:SlOk R ps) {k l:Nat} (hk:k <ps.length) (hl:l <ps.length) (kw lw:Bool):0≤msQ R ps k kw l lw∧msQ R ps k kw l lw <((2 ^ 300:Nat):Rat):=by
 obtain ⟨m0,m1,_⟩:=h.ms hk hl kw lw
 refine ⟨m0,rlt m1 (rlt (h.ns hk kw).2 ?_)⟩
 have hk':k <R.asks.length:=by rw [← h.len];exact hk
 rw [g9 hk']
 exact (h.ok.ask _ (List.getElem_mem hk')).lt
theorem Fn {n:Nat} {q:Rat} (h:RB n q):RB n (-q):=by
 refine ⟨?_,?_⟩
 ·
  rw [Rat.neg_num,Int.natAbs_neg];exact h.1
 ·
  rw [Rat.neg_den];exact h.2
theorem A0 {R:Ring} {ps:List Rat} {D:Nat} {s:dU} {v:Nat} (hS:SlOk R ps) (d0:0 <D) (d1:D*12 <2 ^ 1500) (da:∀a∈R.asks,a.size.den∣D) (dp:∀p∈ps,p.den∣D) (hk:s.k <ps.length) (hl:s.l <ps.length) (v1:1≤v) (v2:v≤12)
  (e:s.am=Rat.divInt ((msQ R ps s.k s.kw s.l s.lw).num*v) (((msQ R ps s.k s.kw s.l s.lw).den:Int)*12)):RB 1800 s.am∧s.am.den∣D*12:=by
 obtain ⟨m0,m1⟩:=Fm hS hk hl s.kw s.lw
 have md:(msQ R ps s.k s.kw s.l s.lw).den∣D:=by
  rcases (hS.ms hk hl s.kw s.lw).2.2.2 with z|z
  ·
   rw [z];exact BC hS hk _ d0 da dp
  ·
   rw [z];exact BC hS hl _ d0 da dp
 generalize msQ R ps s.k s.kw s.l s.lw=m at *
 have e':s.am=m*Rat.divInt v 12:=by rw [e,← Rat.divInt_mul_divInt,Rat.num_divInt_den]
 have hd:s.am.den∣D*12:=by
  rw [e']
  refine Nat.dvd_trans (iN _ _) (Nat.mul_dvd_mul md ?_)
  have:=oJ (t:=(v:Int)) (b:=12) (by decide)
  exact this
 have f0:0≤Rat.divInt (v:Int) 12:=Rat.divInt_nonneg (by omega) (by decide)
 have f1:0≤1 - Rat.divInt (v:Int) 12:=by
  have e1:1 - Rat.divInt (v:Int) 12=Rat.divInt (12 - (v:Int)) 12:=by
   have:(1:Rat)=Rat.divInt 12 12:=rfl
   rw [this,Rat.divInt_sub_divInt _ _ (by decide) (by decide),Rat.divInt_eq_divInt_iff (by decide) (by decide)]
   omega
  rw [e1]
  exact Rat.divInt_nonneg (by omega) (by decide)
 have g0:=Rat.mul_nonneg m0 f0
 have g1:=Rat.mul_nonneg m0 f1
 refine ⟨u7 (by rw [e'];exact g0) (rlt ?_ m1) (by omega) d1 hd,hd⟩
 rw [e']
 grind
theorem BE {am q:Rat} {D:Nat} (h:RB 1800 am) (d0:0 <D) (hd:am.den∣D*12) (ho:oddA am q):RB 4000 q∧q.den∣D*84:=by
 have d84:D*12∣D*84:=⟨7,by omega⟩
 have hd':=Nat.dvd_trans hd d84
 rcases ho with rfl|rfl|rfl|rfl
 ·
  exact ⟨h.mono (by decide),hd'⟩
 ·
  exact ⟨RB.zero.mono (by decide),Nat.one_dvd _⟩
 ·
  refine ⟨(h.add (show RB 10 (Rat.divInt 1 7) from ⟨by decide,by decide⟩)).mono (by decide),sT (by omega) hd' ?_⟩
  refine Nat.dvd_trans (show (Rat.divInt 1 7).den∣7 by decide) ⟨D*12,by omega⟩
 ·
  exact ⟨(Fn h).mono (by decide),by rw [Rat.neg_den];exact hd'⟩
theorem odd5 {P:Rat→Prop} {a b c d e:D} (h:∀q,lE e=some q→P q):∀u,slOf (.tup [a,b,c,d,e])=some u→P u.am:=fun u hu=>by
 unfold slOf at hu
 dsimp only at hu
 split at hu
 ·
  rename_i h5
  cases hu
  exact h _ h5
 ·
  cases hu
theorem vZ (q:Rat):lE (.tup [.int (0 - q.num),.int (q.den:Int)])=some (-q):=by
 have:D.tup [.int (0 - q.num),.int (q.den:Int)]=frD (-q):=by
  unfold frD
  rw [Rat.neg_num,Rat.neg_den,Int.zero_sub]
 rw [this,jL]
end My
set_option exponentiation.threshold 1000
namespace Hd
open PySem PySem.W PyProof.Rows
abbrev pr:Program:=PySem.Challenge.pw_ringloads_k30_slides_done
def top (i:Nat):Stmt:=pr.main.body.getD i (.Pass ⟨0,0,0,0⟩)
def inCls (st:Stmt) (j:Nat):Stmt:=match st with
 | .ClassDef _ _ _ b ..=>b.getD j (.Pass ⟨0,0,0,0⟩)
 | _=>.Pass ⟨0,0,0,0⟩
def yU (s:Stmt):Str:=match s with
 | .FunctionDef n ..=>n
 | _=>""
def Fo (s:Stmt):Arguments:=match s with
 | .FunctionDef _ a _ _ _ _ _ _ _ _=>a
 | _=>{ posonlyargs:=[],args:=[],vararg:=none,kwonlyargs:=[],kw_defaults:=[],kwarg:=none,defaults:=[] }
def GA (s:Stmt):List Stmt:=match s with
 | .FunctionDef _ _ b _ _ _ _ _ _ _=>b
 | _=>[]
def Fp (s:Stmt):Scope:=match s with
 | .FunctionDef _ _ _ _ _ _ sc _ _ _=>sc
 | _=>{ kind:=.function,names:=[],isGenerator:=false,isCoroutine:=false }
def dPos (s:Stmt):Pos:=match s with
 | .FunctionDef _ _ _ _ _ _ _ _ _ p=>p
 | _=>⟨0,0,0,0⟩
def fdOf (st:Stmt) (q:Str) (g:Addr) (md cd:Value):FuncData:={ name:=yU st,qualname:=q,params:=Fo st,body:=.stmts (GA st),scope:=Fp st,globals:=g,closure:=[],defaults:=.none,kwdefaults:=.none,doc:=.none,pyModule:=md,annotations:=none,code:=cd,closureTuple:=.none,builtins:=0 }
noncomputable def kh (P:Params) (x:Str):Int:=PySem.PyData.keyHash P x
def tupO (vs:List Value):Obj:=⟨.type "tuple",none,.seq vs.toArray 0,#[]⟩
def fldO (vs:List Value):Obj:=⟨.none,none,.fields vs.toArray,#[]⟩
def numb:Nat→List Str→List Value
 | _,[]=>[]
 | t,x::r=>.str x t::numb (t+1) r
def Fq (st:Stmt) (a t:Nat) (v1 v2:Value) (tm u:Nat):Obj:=⟨.type "code",none,.fields #[.str (yU st) t,.str (yU st) (t+1),.str "/claim/cut.py" (t+2),.int (dPos st).line 0,.int (Fo st).args.length 0,.int 0 0,.int 0 0,.int 3 0,.ref a,.bool true,.int 181 0,.ref (a+1),.none,v1,v2,.ref tm,.int u 0,.int (dPos st).line 0,.str "/claim/cut.py" (u+1)],#[]⟩
def fnO (st:Stmt) (md:Value) (cd:Nat):Obj:=⟨.type "function",none,.func (fdOf st (yU st) 3 md (.ref cd)),#[]⟩
def tmO (st:Stmt):Obj:=⟨.none,none,.func (fdOf st (yU st) 0 .none .none),#[]⟩
def bL (st:Stmt) (a t:Nat) (vs:List Str) (md:Value):List Obj:=[tupO [],fldO [],tupO (numb (t+3) vs),tupO [],tmO st,Fq st a t (.ref (a+2)) (.ref (a+3)) (a+4) (t+3+vs.length),fnO st md (a+5)]
def A1 (st:Stmt) (a t:Nat) (md:Value):List Obj:=[tupO [],fldO [],tmO st,Fq st a t .none .none (a+2) (t+3),fnO st md (a+3)]
noncomputable def mE (P:Params) (nm:Value) (es:List DictEntry) (n:Nat):Obj:=⟨.type "dict",none,.dict (([⟨kh P "__name__",.str "__name__" 165,nm⟩,⟨kh P "__doc__",.str "__doc__" 166,.none⟩,⟨kh P "__package__",.str "__package__" 167,.none⟩,⟨kh P "__loader__",.str "__loader__" 168,.builtin "__main__.__loader__#opaque"⟩,⟨kh P "__spec__",.str "__spec__" 169,.none⟩,⟨kh P "__annotations__",.str "__annotations__" 170,.ref 6⟩,⟨kh P "__builtins__",.str "__builtins__" 171,.ref 4⟩,⟨kh P "__file__",.str "__file__" 173,.str "/claim/cut.py" 172⟩,⟨kh P "__cached__",.str "__cached__" 174,.none⟩]:List DictEntry)++es).toArray n,#[]⟩
def modO:Obj:=⟨.type "code",none,.fields #[.str "<module>" 182,.str "<module>" 183,.str "/claim/cut.py" 184,.int 1 0,.int 0 0,.int 0 0,.int 0 0,.int 0 0,.ref 11,.bool false,.int 181 0,.ref 12,.none,.none,.none,.none,.int 185 0,.int 1 0,.str "/claim/cut.py" 186],#[]⟩
def frmO:Obj:=⟨.type "frame",none,.plain,#[some (.ref 13),some (.ref 3),some (.ref 3),none,some (.str "__main__" 164),none,some (.ref 0)]⟩
noncomputable def Dr (P:Params):List Obj:=[boot_o_0 P,boot_o_1 P,boot_o_2 P,boot_o_3 P,boot_o_4 P,boot_o_5 P,boot_o_6 P,boot_o_7 P,boot_o_8 P,boot_o_9 P,boot_o_10 P,tupO [],fldO [],modO,frmO]
def iP:Life:=⟨[],[],[],0,[],[],false,#[],[],0,false,false,false,0,[2000,10,10],false,0,true,[],[],0,false⟩
noncomputable def GB (l:List (Nat×Obj)) (b:Nat):Option Obj:=@List.rec (Nat×Obj) (fun _=>Option Obj) none (fun x _ ih=>bif Nat.beq x.1 b then some x.2 else ih) l
noncomputable def Fs (P:Params) (ob:Params→Nat→Obj) (b:Nat):Obj:=bif b.blt 15 then (Dr P).getD b default else ob P b
noncomputable def memN (l:List Nat) (b:Nat):Bool:=@List.rec Nat (fun _=>Bool) false (fun x _ ih=>@Bool.rec (fun _=>Bool) ih true (Nat.beq x b)) l
noncomputable def obAt (ks:List Nat) (P:Params) (ov:List (Nat×Obj)) (ob:Params→Nat→Obj) (b j:Nat):Obj:=@Bool.rec (fun _=>Obj) (Fs P ob b) ((GB ov b).getD default) (memN ks b)
noncomputable def L0 (n:Nat) (f:Nat→Obj) (a b j:Nat):BT:=.nil
noncomputable def L1 (n:Nat) (f:Nat→Obj) (a b j:Nat):BT:=@Bool.rec (fun _=>BT) .nil (.node (f b) (L0 n f (2*a) (a+b) j) (L0 n f (2*a) (2*a+b) j)) (b.blt n)
noncomputable def L2 (n:Nat) (f:Nat→Obj) (a b j:Nat):BT:=@Bool.rec (fun _=>BT) .nil (.node (f b) (L1 n f (2*a) (a+b) j) (L1 n f (2*a) (2*a+b) j)) (b.blt n)
noncomputable def L3 (n:Nat) (f:Nat→Obj) (a b j:Nat):BT:=@Bool.rec (fun _=>BT) .nil (.node (f b) (L2 n f (2*a) (a+b) j) (L2 n f (2*a) (2*a+b) j)) (b.blt n)
noncomputable def L4 (n:Nat) (f:Nat→Obj) (a b j:Nat):BT:=@Bool.rec (fun _=>BT) .nil (.node (f b) (L3 n f (2*a) (a+b) j) (L3 n f (2*a) (2*a+b) j)) (b.blt n)
noncomputable def L5 (n:Nat) (f:Nat→Obj) (a b j:Nat):BT:=@Bool.rec (fun _=>BT) .nil (.node (f b) (L4 n f (2*a) (a+b) j) (L4 n f (2*a) (2*a+b) j)) (b.blt n)
noncomputable def L6 (n:Nat) (f:Nat→Obj) (a b j:Nat):BT:=@Bool.rec (fun _=>BT) .nil (.node (f b) (L5 n f (2*a) (a+b) j) (L5 n f (2*a) (2*a+b) j)) (b.blt n)
noncomputable def L7 (n:Nat) (f:Nat→Obj) (a b j:Nat):BT:=@Bool.rec (fun _=>BT) .nil (.node (f b) (L6 n f (2*a) (a+b) j) (L6 n f (2*a) (2*a+b) j)) (b.blt n)
noncomputable def L8 (n:Nat) (f:Nat→Obj) (a b j:Nat):BT:=@Bool.rec (fun _=>BT) .nil (.node (f b) (L7 n f (2*a) (a+b) j) (L7 n f (2*a) (2*a+b) j)) (b.blt n)
noncomputable def L9 (n:Nat) (f:Nat→Obj) (a b j:Nat):BT:=@Bool.rec (fun _=>BT) .nil (.node (f b) (L8 n f (2*a) (a+b) j) (L8 n f (2*a) (2*a+b) j)) (b.blt n)
noncomputable def L10 (n:Nat) (f:Nat→Obj) (a b j:Nat):BT:=@Bool.rec (fun _=>BT) .nil (.node (f b) (L9 n f (2*a) (a+b) j) (L9 n f (2*a) (2*a+b) j)) (b.blt n)
noncomputable def L11 (n:Nat) (f:Nat→Obj) (a b j:Nat):BT:=@Bool.rec (fun _=>BT) .nil (.node (f b) (L10 n f (2*a) (a+b) j) (L10 n f (2*a) (2*a+b) j)) (b.blt n)
noncomputable def L12 (n:Nat) (f:Nat→Obj) (a b j:Nat):BT:=@Bool.rec (fun _=>BT) .nil (.node (f b) (L11 n f (2*a) (a+b) j) (L11 n f (2*a) (2*a+b) j)) (b.blt n)
theorem gj {p:Program} {w:World} {m:Nat} {ann:Option Value} {b n:Nat} {s:SharedT} {t:Thread} {r:Option (Flow×SharedT×Code×Pos)} (h:Fast.tw10110043849684766642 Fast.tw14364793385576792824 p w m ann b n s t=r):segRunT treeTable p w m ann b n s t=r:=by
 rw [Fast.te10110043849684766642,Fast.te14364793385576792824];exact h
theorem Ft {p:Program} {w:World} {m:Nat} {ann:Option Value} {n:Nat} {s:Shared} {t:Thread} {r:Option Shared} (h:Fast.tw14082659384304107361 Fast.tw14364793385576792824 p w m ann n s t=r):topRun treeTable p w m ann n s t=r:=by
 rw [Fast.te14082659384304107361,Fast.te14364793385576792824];exact h
theorem Fu:denote treeTable=Fast.tw11892475500146522536 Fast.tw14364793385576792824:=by rw [← Fast.te11892475500146522536,← Fast.te14364793385576792824]
theorem GC {p:Program} {w:World} {m:Nat} {ann:Option Value} {n:Nat} {s:Shared} {t:Thread} {r:Option (Shared×Thread)} (h:Fast.tw15667345088766844465 Fast.tw14364793385576792824 p w m ann n s t=r):topGo treeTable p w m ann n s t=r:=by
 rw [Fast.te15667345088766844465,Fast.te14364793385576792824];exact h
theorem Ds {b b':List Stmt} (e:b=b') {tb:String→Option Builtin} {p:Program} {w:World} {m:Nat} {ann:Option Value} {n:Nat} {s:Shared} {env:Env} {c:Code} {ps:Pos} {B:List Frame} {r:Option Shared} (h:topRun tb p w m ann n s (restOf b' env c ps B)=r):topRun tb p w m ann n s (restOf b env c ps B)=r:=by rw [e];exact h
noncomputable def f1 (P:Params):List Obj:=bL (top 1) 15 189 ["one","other","rest"] (.str "ringloads.divisors" 187)
noncomputable def f3 (P:Params):List Obj:=[(Obj.mk (.type "tuple") none (.seq #[(.type "ValueError")] 0) #[]),
 (Obj.mk (.type "builtin_function_or_method") none (.fields #[(.builtin "type.__prepare__"),(.type "type")]) #[]),
 (Obj.mk (.type "dict") none (.dict #[(DictEntry.mk (kh P "__module__") (.str "__module__" 207) (.str "ringloads.errors" 198)),(DictEntry.mk (kh P "__qualname__") (.str "__qualname__" 209) (.str "LoadError" 208)),(DictEntry.mk (kh P "__firstlineno__") (.str "__firstlineno__" 211) (.int 9 210)),(DictEntry.mk (kh P "__init__") (.str "__init__" 219) (.ref 35)),(DictEntry.mk (kh P "__static_attributes__") (.str "__static_attributes__" 220) (.ref 36))] 5) #[]),
 (Obj.mk (.type "tuple") none (.seq #[] 0) #[]),
 (Obj.mk .none none (.fields #[(.int 11 0),(.int 4 0),(.ref 34)]) #[]),
 (Obj.mk (.type "code") none (.fields #[(.str "LoadError" 202),(.str "LoadError" 203),(.str "/claim/cut.py" 204),(.int 9 0),(.int 0 0),(.int 0 0),(.int 0 0),(.int 0 0),(.ref 25),(.bool false),(.int 181 0),(.ref 26),.none,.none,.none,.none,(.int 205 0),(.int 9 0),(.str "/claim/cut.py" 206)]) #[]),
 (Obj.mk (.type "frame") none .plain #[(some (.ref 27)),(some (.ref 3)),(some (.ref 24)),none,(some (.str "ringloads.errors" 198)),none,(some (.ref 0))]),
 (Obj.mk (.type "tuple") none (.seq #[] 0) #[]),
 (Obj.mk .none none (.fields #[]) #[]),
 (Obj.mk (.type "tuple") none (.seq #[(.str "self" 215),(.str "text" 216)] 0) #[]),
 (Obj.mk (.type "tuple") none (.seq #[] 0) #[]),
 (Obj.mk .none none (.func (fdOf (inCls (top 3) 0) "LoadError.__init__" 0 .none .none)) #[]),
 (Obj.mk (.type "code") none (.fields #[(.str "__init__" 212),(.str "LoadError.__init__" 213),(.str "/claim/cut.py" 214),(.int 11 0),(.int 2 0),(.int 0 0),(.int 0 0),(.int 3 0),(.ref 29),(.bool true),(.int 181 0),(.ref 30),.none,(.ref 31),(.ref 32),(.ref 33),(.int 217 0),(.int 11 0),(.str "/claim/cut.py" 218)]) #[]),
 (Obj.mk (.type "function") none (.func (fdOf (inCls (top 3) 0) "LoadError.__init__" 3 (.str "ringloads.errors" 198) (.ref 34))) #[]),
 (Obj.mk (.type "tuple") none (.seq #[] 0) #[]),
 (Obj.mk (.type "dict") none (.dict #[(DictEntry.mk (kh P "__module__") (.str "__module__" 207) (.str "ringloads.errors" 198)),(DictEntry.mk (kh P "__firstlineno__") (.str "__firstlineno__" 211) (.int 9 210)),(DictEntry.mk (kh P "__init__") (.str "__init__" 219) (.ref 35)),(DictEntry.mk (kh P "__static_attributes__") (.str "__static_attributes__" 220) (.ref 36)),(DictEntry.mk (kh P "__weakref__") (.str "__weakref__" 222) (.ref 39)),(DictEntry.mk (kh P "__doc__") (.str "__doc__" 223) .none)] 3) #[]),
 (Obj.mk (.type "type") none (.cls (PySem.ClassData.mk "LoadError" [(.type "ValueError")] [(.ref 38),(.type "ValueError"),(.type "Exception"),(.type "BaseException"),(.type "object")] 37 "LoadError" true [] [(.ref 51),(.ref 70),(.ref 89),(.ref 108),(.ref 120),(.ref 132)] false none false)) #[(some (.ref 22)),none,(some (.str "LoadError" 200)),(some (.str "LoadError" 208)),(some (.builtin "ValueError.__new__")),(some (.bool true))]),
 (Obj.mk (.type "getset_descriptor") none (.fields #[(.str "__weakref__" 221),(.ref 38),(.builtin "ExceptionGroup.__weakref__"),.none]) #[]),
 (Obj.mk (.type "super") none (.fields #[(.ref 38),(.ref 38),(.ref 38)]) #[]),
 (Obj.mk (.type "builtin_function_or_method") none (.fields #[(.builtin "object.__init_subclass__"),(.ref 38)]) #[])]
noncomputable def f4 (P:Params):List Obj:=[(Obj.mk (.type "tuple") none (.seq #[(.ref 38)] 0) #[]),
 (Obj.mk (.type "builtin_function_or_method") none (.fields #[(.builtin "type.__prepare__"),(.type "type")]) #[]),
 (Obj.mk (.type "dict") none (.dict #[(DictEntry.mk (kh P "__module__") (.str "__module__" 233) (.str "ringloads.errors" 198)),(DictEntry.mk (kh P "__qualname__") (.str "__qualname__" 235) (.str "NoNumber" 234)),(DictEntry.mk (kh P "__firstlineno__") (.str "__firstlineno__" 237) (.int 13 236)),(DictEntry.mk (kh P "__static_attributes__") (.str "__static_attributes__" 238) (.ref 49))] 4) #[]),
 (Obj.mk (.type "tuple") none (.seq #[] 0) #[]),
 (Obj.mk .none none (.fields #[]) #[]),
 (Obj.mk (.type "code") none (.fields #[(.str "NoNumber" 228),(.str "NoNumber" 229),(.str "/claim/cut.py" 230),(.int 13 0),(.int 0 0),(.int 0 0),(.int 0 0),(.int 0 0),(.ref 45),(.bool false),(.int 181 0),(.ref 46),.none,.none,.none,.none,(.int 231 0),(.int 13 0),(.str "/claim/cut.py" 232)]) #[]),
 (Obj.mk (.type "frame") none .plain #[(some (.ref 47)),(some (.ref 3)),(some (.ref 44)),none,(some (.str "ringloads.errors" 198)),none,(some (.ref 0))]),
 (Obj.mk (.type "tuple") none (.seq #[] 0) #[]),
 (Obj.mk (.type "dict") none (.dict #[(DictEntry.mk (kh P "__module__") (.str "__module__" 233) (.str "ringloads.errors" 198)),(DictEntry.mk (kh P "__firstlineno__") (.str "__firstlineno__" 237) (.int 13 236)),(DictEntry.mk (kh P "__static_attributes__") (.str "__static_attributes__" 238) (.ref 49)),(DictEntry.mk (kh P "__doc__") (.str "__doc__" 239) .none)] 2) #[]),
 (Obj.mk (.type "type") none (.cls (PySem.ClassData.mk "NoNumber" [(.ref 38)] [(.ref 51),(.ref 38),(.type "ValueError"),(.type "Exception"),(.type "BaseException"),(.type "object")] 50 "NoNumber" true [] [] false none false)) #[(some (.ref 42)),none,(some (.str "NoNumber" 226)),(some (.str "NoNumber" 234)),(some (.builtin "ValueError.__new__")),(some (.bool true))]),
 (Obj.mk (.type "super") none (.fields #[(.ref 51),(.ref 51),(.ref 51)]) #[]),
 (Obj.mk (.type "builtin_function_or_method") none (.fields #[(.builtin "object.__init_subclass__"),(.ref 51)]) #[])]
noncomputable def f5 (P:Params):List Obj:=[(Obj.mk (.type "tuple") none (.seq #[(.ref 38)] 0) #[]),
 (Obj.mk (.type "builtin_function_or_method") none (.fields #[(.builtin "type.__prepare__"),(.type "type")]) #[]),
 (Obj.mk (.type "dict") none (.dict #[(DictEntry.mk (kh P "__module__") (.str "__module__" 249) (.str "ringloads.errors" 198)),(DictEntry.mk (kh P "__qualname__") (.str "__qualname__" 251) (.str "NoRing" 250)),(DictEntry.mk (kh P "__firstlineno__") (.str "__firstlineno__" 253) (.int 15 252)),(DictEntry.mk (kh P "__init__") (.str "__init__" 262) (.ref 67)),(DictEntry.mk (kh P "__static_attributes__") (.str "__static_attributes__" 265) (.ref 68))] 5) #[]),
 (Obj.mk (.type "tuple") none (.seq #[] 0) #[]),
 (Obj.mk .none none (.fields #[(.int 17 0),(.int 4 0),(.ref 66)]) #[]),
 (Obj.mk (.type "code") none (.fields #[(.str "NoRing" 244),(.str "NoRing" 245),(.str "/claim/cut.py" 246),(.int 15 0),(.int 0 0),(.int 0 0),(.int 0 0),(.int 0 0),(.ref 57),(.bool false),(.int 181 0),(.ref 58),.none,.none,.none,.none,(.int 247 0),(.int 15 0),(.str "/claim/cut.py" 248)]) #[]),
 (Obj.mk (.type "frame") none .plain #[(some (.ref 59)),(some (.ref 3)),(some (.ref 56)),none,(some (.str "ringloads.errors" 198)),none,(some (.ref 0))]),
 (Obj.mk (.type "tuple") none (.seq #[] 0) #[]),
 (Obj.mk .none none (.fields #[]) #[]),
 (Obj.mk (.type "tuple") none (.seq #[(.str "self" 257),(.str "part" 258),(.str "number" 259)] 0) #[]),
 (Obj.mk (.type "tuple") none (.seq #[] 0) #[]),
 (Obj.mk .none none (.func (fdOf (inCls (top 5) 0) "NoRing.__init__" 0 .none .none)) #[]),
 (Obj.mk (.type "code") none (.fields #[(.str "__init__" 254),(.str "NoRing.__init__" 255),(.str "/claim/cut.py" 256),(.int 17 0),(.int 3 0),(.int 0 0),(.int 0 0),(.int 3 0),(.ref 61),(.bool true),(.int 181 0),(.ref 62),.none,(.ref 63),(.ref 64),(.ref 65),(.int 260 0),(.int 17 0),(.str "/claim/cut.py" 261)]) #[]),
 (Obj.mk (.type "function") none (.func (fdOf (inCls (top 5) 0) "NoRing.__init__" 3 (.str "ringloads.errors" 198) (.ref 66))) #[]),
 (Obj.mk (.type "tuple") none (.seq #[(.str "number" 263),(.str "part" 264)] 0) #[]),
 (Obj.mk (.type "dict") none (.dict #[(DictEntry.mk (kh P "__module__") (.str "__module__" 249) (.str "ringloads.errors" 198)),(DictEntry.mk (kh P "__firstlineno__") (.str "__firstlineno__" 253) (.int 15 252)),(DictEntry.mk (kh P "__init__") (.str "__init__" 262) (.ref 67)),(DictEntry.mk (kh P "__static_attributes__") (.str "__static_attributes__" 265) (.ref 68)),(DictEntry.mk (kh P "__doc__") (.str "__doc__" 266) .none)] 2) #[]),
 (Obj.mk (.type "type") none (.cls (PySem.ClassData.mk "NoRing" [(.ref 38)] [(.ref 70),(.ref 38),(.type "ValueError"),(.type "Exception"),(.type "BaseException"),(.type "object")] 69 "NoRing" true [] [] false none false)) #[(some (.ref 54)),none,(some (.str "NoRing" 242)),(some (.str "NoRing" 250)),(some (.builtin "ValueError.__new__")),(some (.bool true))]),
 (Obj.mk (.type "super") none (.fields #[(.ref 70),(.ref 70),(.ref 70)]) #[]),
 (Obj.mk (.type "builtin_function_or_method") none (.fields #[(.builtin "object.__init_subclass__"),(.ref 70)]) #[])]
noncomputable def f6 (P:Params):List Obj:=[(Obj.mk (.type "tuple") none (.seq #[(.ref 38)] 0) #[]),
 (Obj.mk (.type "builtin_function_or_method") none (.fields #[(.builtin "type.__prepare__"),(.type "type")]) #[]),
 (Obj.mk (.type "dict") none (.dict #[(DictEntry.mk (kh P "__module__") (.str "__module__" 276) (.str "ringloads.errors" 198)),(DictEntry.mk (kh P "__qualname__") (.str "__qualname__" 278) (.str "NoSlide" 277)),(DictEntry.mk (kh P "__firstlineno__") (.str "__firstlineno__" 280) (.int 21 279)),(DictEntry.mk (kh P "__init__") (.str "__init__" 288) (.ref 86)),(DictEntry.mk (kh P "__static_attributes__") (.str "__static_attributes__" 290) (.ref 87))] 5) #[]),
 (Obj.mk (.type "tuple") none (.seq #[] 0) #[]),
 (Obj.mk .none none (.fields #[(.int 23 0),(.int 4 0),(.ref 85)]) #[]),
 (Obj.mk (.type "code") none (.fields #[(.str "NoSlide" 271),(.str "NoSlide" 272),(.str "/claim/cut.py" 273),(.int 21 0),(.int 0 0),(.int 0 0),(.int 0 0),(.int 0 0),(.ref 76),(.bool false),(.int 181 0),(.ref 77),.none,.none,.none,.none,(.int 274 0),(.int 21 0),(.str "/claim/cut.py" 275)]) #[]),
 (Obj.mk (.type "frame") none .plain #[(some (.ref 78)),(some (.ref 3)),(some (.ref 75)),none,(some (.str "ringloads.errors" 198)),none,(some (.ref 0))]),
 (Obj.mk (.type "tuple") none (.seq #[] 0) #[]),
 (Obj.mk .none none (.fields #[]) #[]),
 (Obj.mk (.type "tuple") none (.seq #[(.str "self" 284),(.str "number" 285)] 0) #[]),
 (Obj.mk (.type "tuple") none (.seq #[] 0) #[]),
 (Obj.mk .none none (.func (fdOf (inCls (top 6) 0) "NoSlide.__init__" 0 .none .none)) #[]),
 (Obj.mk (.type "code") none (.fields #[(.str "__init__" 281),(.str "NoSlide.__init__" 282),(.str "/claim/cut.py" 283),(.int 23 0),(.int 2 0),(.int 0 0),(.int 0 0),(.int 3 0),(.ref 80),(.bool true),(.int 181 0),(.ref 81),.none,(.ref 82),(.ref 83),(.ref 84),(.int 286 0),(.int 23 0),(.str "/claim/cut.py" 287)]) #[]),
 (Obj.mk (.type "function") none (.func (fdOf (inCls (top 6) 0) "NoSlide.__init__" 3 (.str "ringloads.errors" 198) (.ref 85))) #[]),
 (Obj.mk (.type "tuple") none (.seq #[(.str "number" 289)] 0) #[]),
 (Obj.mk (.type "dict") none (.dict #[(DictEntry.mk (kh P "__module__") (.str "__module__" 276) (.str "ringloads.errors" 198)),(DictEntry.mk (kh P "__firstlineno__") (.str "__firstlineno__" 280) (.int 21 279)),(DictEntry.mk (kh P "__init__") (.str "__init__" 288) (.ref 86)),(DictEntry.mk (kh P "__static_attributes__") (.str "__static_attributes__" 290) (.ref 87)),(DictEntry.mk (kh P "__doc__") (.str "__doc__" 291) .none)] 2) #[]),
 (Obj.mk (.type "type") none (.cls (PySem.ClassData.mk "NoSlide" [(.ref 38)] [(.ref 89),(.ref 38),(.type "ValueError"),(.type "Exception"),(.type "BaseException"),(.type "object")] 88 "NoSlide" true [] [] false none false)) #[(some (.ref 73)),none,(some (.str "NoSlide" 269)),(some (.str "NoSlide" 277)),(some (.builtin "ValueError.__new__")),(some (.bool true))]),
 (Obj.mk (.type "super") none (.fields #[(.ref 89),(.ref 89),(.ref 89)]) #[]),
 (Obj.mk (.type "builtin_function_or_method") none (.fields #[(.builtin "object.__init_subclass__"),(.ref 89)]) #[])]
noncomputable def f7 (P:Params):List Obj:=[(Obj.mk (.type "tuple") none (.seq #[(.ref 38)] 0) #[]),
 (Obj.mk (.type "builtin_function_or_method") none (.fields #[(.builtin "type.__prepare__"),(.type "type")]) #[]),
 (Obj.mk (.type "dict") none (.dict #[(DictEntry.mk (kh P "__module__") (.str "__module__" 301) (.str "ringloads.errors" 198)),(DictEntry.mk (kh P "__qualname__") (.str "__qualname__" 303) (.str "NoTree" 302)),(DictEntry.mk (kh P "__firstlineno__") (.str "__firstlineno__" 305) (.int 26 304)),(DictEntry.mk (kh P "__init__") (.str "__init__" 313) (.ref 105)),(DictEntry.mk (kh P "__static_attributes__") (.str "__static_attributes__" 315) (.ref 106))] 5) #[]),
 (Obj.mk (.type "tuple") none (.seq #[] 0) #[]),
 (Obj.mk .none none (.fields #[(.int 28 0),(.int 4 0),(.ref 104)]) #[]),
 (Obj.mk (.type "code") none (.fields #[(.str "NoTree" 296),(.str "NoTree" 297),(.str "/claim/cut.py" 298),(.int 26 0),(.int 0 0),(.int 0 0),(.int 0 0),(.int 0 0),(.ref 95),(.bool false),(.int 181 0),(.ref 96),.none,.none,.none,.none,(.int 299 0),(.int 26 0),(.str "/claim/cut.py" 300)]) #[]),
 (Obj.mk (.type "frame") none .plain #[(some (.ref 97)),(some (.ref 3)),(some (.ref 94)),none,(some (.str "ringloads.errors" 198)),none,(some (.ref 0))]),
 (Obj.mk (.type "tuple") none (.seq #[] 0) #[]),
 (Obj.mk .none none (.fields #[]) #[]),
 (Obj.mk (.type "tuple") none (.seq #[(.str "self" 309),(.str "way" 310)] 0) #[]),
 (Obj.mk (.type "tuple") none (.seq #[] 0) #[]),
 (Obj.mk .none none (.func (fdOf (inCls (top 7) 0) "NoTree.__init__" 0 .none .none)) #[]),
 (Obj.mk (.type "code") none (.fields #[(.str "__init__" 306),(.str "NoTree.__init__" 307),(.str "/claim/cut.py" 308),(.int 28 0),(.int 2 0),(.int 0 0),(.int 0 0),(.int 3 0),(.ref 99),(.bool true),(.int 181 0),(.ref 100),.none,(.ref 101),(.ref 102),(.ref 103),(.int 311 0),(.int 28 0),(.str "/claim/cut.py" 312)]) #[]),
 (Obj.mk (.type "function") none (.func (fdOf (inCls (top 7) 0) "NoTree.__init__" 3 (.str "ringloads.errors" 198) (.ref 104))) #[]),
 (Obj.mk (.type "tuple") none (.seq #[(.str "way" 314)] 0) #[]),
 (Obj.mk (.type "dict") none (.dict #[(DictEntry.mk (kh P "__module__") (.str "__module__" 301) (.str "ringloads.errors" 198)),(DictEntry.mk (kh P "__firstlineno__") (.str "__firstlineno__" 305) (.int 26 304)),(DictEntry.mk (kh P "__init__") (.str "__init__" 313) (.ref 105)),(DictEntry.mk (kh P "__static_attributes__") (.str "__static_attributes__" 315) (.ref 106)),(DictEntry.mk (kh P "__doc__") (.str "__doc__" 316) .none)] 2) #[]),
 (Obj.mk (.type "type") none (.cls (PySem.ClassData.mk "NoTree" [(.ref 38)] [(.ref 108),(.ref 38),(.type "ValueError"),(.type "Exception"),(.type "BaseException"),(.type "object")] 107 "NoTree" true [] [] false none false)) #[(some (.ref 92)),none,(some (.str "NoTree" 294)),(some (.str "NoTree" 302)),(some (.builtin "ValueError.__new__")),(some (.bool true))]),
 (Obj.mk (.type "super") none (.fields #[(.ref 108),(.ref 108),(.ref 108)]) #[]),
 (Obj.mk (.type "builtin_function_or_method") none (.fields #[(.builtin "object.__init_subclass__"),(.ref 108)]) #[])]
noncomputable def f8 (P:Params):List Obj:=[(Obj.mk (.type "tuple") none (.seq #[(.ref 38)] 0) #[]),
 (Obj.mk (.type "builtin_function_or_method") none (.fields #[(.builtin "type.__prepare__"),(.type "type")]) #[]),
 (Obj.mk (.type "dict") none (.dict #[(DictEntry.mk (kh P "__module__") (.str "__module__" 326) (.str "ringloads.errors" 198)),(DictEntry.mk (kh P "__qualname__") (.str "__qualname__" 328) (.str "TooMany" 327)),(DictEntry.mk (kh P "__firstlineno__") (.str "__firstlineno__" 330) (.int 31 329)),(DictEntry.mk (kh P "__static_attributes__") (.str "__static_attributes__" 331) (.ref 118))] 4) #[]),
 (Obj.mk (.type "tuple") none (.seq #[] 0) #[]),
 (Obj.mk .none none (.fields #[]) #[]),
 (Obj.mk (.type "code") none (.fields #[(.str "TooMany" 321),(.str "TooMany" 322),(.str "/claim/cut.py" 323),(.int 31 0),(.int 0 0),(.int 0 0),(.int 0 0),(.int 0 0),(.ref 114),(.bool false),(.int 181 0),(.ref 115),.none,.none,.none,.none,(.int 324 0),(.int 31 0),(.str "/claim/cut.py" 325)]) #[]),
 (Obj.mk (.type "frame") none .plain #[(some (.ref 116)),(some (.ref 3)),(some (.ref 113)),none,(some (.str "ringloads.errors" 198)),none,(some (.ref 0))]),
 (Obj.mk (.type "tuple") none (.seq #[] 0) #[]),
 (Obj.mk (.type "dict") none (.dict #[(DictEntry.mk (kh P "__module__") (.str "__module__" 326) (.str "ringloads.errors" 198)),(DictEntry.mk (kh P "__firstlineno__") (.str "__firstlineno__" 330) (.int 31 329)),(DictEntry.mk (kh P "__static_attributes__") (.str "__static_attributes__" 331) (.ref 118)),(DictEntry.mk (kh P "__doc__") (.str "__doc__" 332) .none)] 2) #[]),
 (Obj.mk (.type "type") none (.cls (PySem.ClassData.mk "TooMany" [(.ref 38)] [(.ref 120),(.ref 38),(.type "ValueError"),(.type "Exception"),(.type "BaseException"),(.type "object")] 119 "TooMany" true [] [] false none false)) #[(some (.ref 111)),none,(some (.str "TooMany" 319)),(some (.str "TooMany" 327)),(some (.builtin "ValueError.__new__")),(some (.bool true))]),
 (Obj.mk (.type "super") none (.fields #[(.ref 120),(.ref 120),(.ref 120)]) #[]),
 (Obj.mk (.type "builtin_function_or_method") none (.fields #[(.builtin "object.__init_subclass__"),(.ref 120)]) #[])]
noncomputable def f9 (P:Params):List Obj:=[(Obj.mk (.type "tuple") none (.seq #[(.ref 38)] 0) #[]),
 (Obj.mk (.type "builtin_function_or_method") none (.fields #[(.builtin "type.__prepare__"),(.type "type")]) #[]),
 (Obj.mk (.type "dict") none (.dict #[(DictEntry.mk (kh P "__module__") (.str "__module__" 342) (.str "ringloads.errors" 198)),(DictEntry.mk (kh P "__qualname__") (.str "__qualname__" 344) (.str "NoChange" 343)),(DictEntry.mk (kh P "__firstlineno__") (.str "__firstlineno__" 346) (.int 33 345)),(DictEntry.mk (kh P "__static_attributes__") (.str "__static_attributes__" 347) (.ref 130))] 4) #[]),
 (Obj.mk (.type "tuple") none (.seq #[] 0) #[]),
 (Obj.mk .none none (.fields #[]) #[]),
 (Obj.mk (.type "code") none (.fields #[(.str "NoChange" 337),(.str "NoChange" 338),(.str "/claim/cut.py" 339),(.int 33 0),(.int 0 0),(.int 0 0),(.int 0 0),(.int 0 0),(.ref 126),(.bool false),(.int 181 0),(.ref 127),.none,.none,.none,.none,(.int 340 0),(.int 33 0),(.str "/claim/cut.py" 341)]) #[]),
 (Obj.mk (.type "frame") none .plain #[(some (.ref 128)),(some (.ref 3)),(some (.ref 125)),none,(some (.str "ringloads.errors" 198)),none,(some (.ref 0))]),
 (Obj.mk (.type "tuple") none (.seq #[] 0) #[]),
 (Obj.mk (.type "dict") none (.dict #[(DictEntry.mk (kh P "__module__") (.str "__module__" 342) (.str "ringloads.errors" 198)),(DictEntry.mk (kh P "__firstlineno__") (.str "__firstlineno__" 346) (.int 33 345)),(DictEntry.mk (kh P "__static_attributes__") (.str "__static_attributes__" 347) (.ref 130)),(DictEntry.mk (kh P "__doc__") (.str "__doc__" 348) .none)] 2) #[]),
 (Obj.mk (.type "type") none (.cls (PySem.ClassData.mk "NoChange" [(.ref 38)] [(.ref 132),(.ref 38),(.type "ValueError"),(.type "Exception"),(.type "BaseException"),(.type "object")] 131 "NoChange" true [] [] false none false)) #[(some (.ref 123)),none,(some (.str "NoChange" 335)),(some (.str "NoChange" 343)),(some (.builtin "ValueError.__new__")),(some (.bool true))]),
 (Obj.mk (.type "super") none (.fields #[(.ref 132),(.ref 132),(.ref 132)]) #[]),
 (Obj.mk (.type "builtin_function_or_method") none (.fields #[(.builtin "object.__init_subclass__"),(.ref 132)]) #[])]
noncomputable def f11 (P:Params):List Obj:=bL (top 11) 135 353 ["thing"] (.str "ringloads.names" 351)
noncomputable def f12 (P:Params):List Obj:=bL (top 12) 142 360 ["thing","many"] (.str "ringloads.names" 351)
noncomputable def f13 (P:Params):List Obj:=bL (top 13) 149 368 ["thing"] (.str "ringloads.names" 351)
noncomputable def f14 (P:Params):List Obj:=bL (top 14) 156 375 ["thing"] (.str "ringloads.names" 351)
noncomputable def f16 (P:Params):List Obj:=[(Obj.mk (.type "tuple") none (.seq #[(.int 0 384),(.int 1 385)] 0) #[])]
noncomputable def f17 (P:Params):List Obj:=bL (top 17) 164 387 ["top","bottom","shared"] (.str "ringloads.ratios" 382)
noncomputable def f18 (P:Params):List Obj:=bL (top 18) 171 396 ["one","other"] (.str "ringloads.ratios" 382)
noncomputable def f19 (P:Params):List Obj:=bL (top 19) 178 404 ["one","other"] (.str "ringloads.ratios" 382)
noncomputable def f20 (P:Params):List Obj:=bL (top 20) 185 412 ["one","other"] (.str "ringloads.ratios" 382)
noncomputable def f21 (P:Params):List Obj:=bL (top 21) 192 420 ["one","other"] (.str "ringloads.ratios" 382)
noncomputable def f25 (P:Params):List Obj:=bL (top 25) 199 434 ["thing"] (.str "ringloads.ways" 428)
noncomputable def f26 (P:Params):List Obj:=A1 (top 26) 206 441 (.str "ringloads.ways" 428)
noncomputable def f28 (P:Params):List Obj:=bL (top 28) 211 449 ["ring","sending","thing","slid","number","slide"] (.str "ringloads.slides" 447)
noncomputable def f29 (P:Params):List Obj:=bL (top 29) 218 461 ["ring","sending","thing"] (.str "ringloads.slides" 447)
noncomputable def f30 (P:Params):List Obj:=bL (top 30) 225 470 ["thing","asks"] (.str "ringloads.slides" 447)
noncomputable def f31 (P:Params):List Obj:=A1 (top 31) 232 478 (.str "ringloads.slides" 447)
noncomputable def f32 (P:Params):List Obj:=bL (top 32) 237 484 ["ring","sending","k","way"] (.str "ringloads.slides" 447)
noncomputable def f33 (P:Params):List Obj:=bL (top 33) 244 494 ["ring","sending","slide"] (.str "ringloads.slides" 447)
noncomputable def f34 (P:Params):List Obj:=bL (top 34) 251 503 ["sending","slide","slid"] (.str "ringloads.slides" 447)
noncomputable def f35 (P:Params):List Obj:=bL (top 35) 258 512 ["part","way","amount"] (.str "ringloads.slides" 447)
noncomputable def f37 (P:Params):List Obj:=bL (top 37) 265 523 ["_law_script","_law_k","_law_cell"] (.str "law_ringloads_k30_slides_done" 521)
noncomputable def f38 (P:Params):List Obj:=bL (top 38) 272 532 ["_law_state","_law_many","_law_digit","_law_drawn_here","_law_turn"] (.str "law_ringloads_k30_slides_done" 521)
noncomputable def f39 (P:Params):List Obj:=bL (top 39) 279 543 ["_law_top","_law_bottom","_law_one","_law_share"] (.str "law_ringloads_k30_slides_done" 521)
noncomputable def f40 (P:Params):List Obj:=bL (top 40) 286 553 ["_law_state","_law_least","_law_kind","_law_bottom","_law_top"] (.str "law_ringloads_k30_slides_done" 521)
noncomputable def f41 (P:Params):List Obj:=A1 (top 41) 293 564 (.str "law_ringloads_k30_slides_done" 521)
noncomputable def f42 (P:Params):List Obj:=bL (top 42) 298 570 ["_law_state","_law_ties_here","_law_kind","_law_alike","_law_one","_law_rooms_here","_law_more"] (.str "law_ringloads_k30_slides_done" 521)
noncomputable def f43 (P:Params):List Obj:=bL (top 43) 305 583 ["_law_state","_law_shape","_law_places","_law_k","_law_one","_law_other"] (.str "law_ringloads_k30_slides_done" 521)
noncomputable def f44 (P:Params):List Obj:=bL (top 44) 312 595 ["_law_script","_law_at","_law_most","_law_count","_law_state","_law_places","_law_many","_law_kinds","_law_shape","_law_names_here","_law_rooms_here","_law_asks","_law_k","_law_one","_law_other"] (.str "law_ringloads_k30_slides_done" 521)
noncomputable def f45 (P:Params):List Obj:=bL (top 45) 319 616 ["_law_state","_law_ring_here","_law_parts_here","_law_name","_law_one","_law_other","_law_size","_law_way","_law_share"] (.str "law_ringloads_k30_slides_done" 521)
noncomputable def f46 (P:Params):List Obj:=bL (top 46) 326 631 ["_law_one","_law_other"] (.str "law_ringloads_k30_slides_done" 521)
noncomputable def f47 (P:Params):List Obj:=bL (top 47) 333 639 ["_law_one","_law_other"] (.str "law_ringloads_k30_slides_done" 521)
noncomputable def f48 (P:Params):List Obj:=bL (top 48) 340 647 ["_law_one","_law_other"] (.str "law_ringloads_k30_slides_done" 521)
noncomputable def f49 (P:Params):List Obj:=bL (top 49) 347 655 ["_law_ring_here","_law_k","_law_way","_law_name","_law_one","_law_other","_law_size","_law_ties_here"] (.str "law_ringloads_k30_slides_done" 521)
noncomputable def f50 (P:Params):List Obj:=bL (top 50) 354 669 ["_law_thing","_law_part"] (.str "law_ringloads_k30_slides_done" 521)
noncomputable def f51 (P:Params):List Obj:=bL (top 51) 361 677 ["_law_ring_here","_law_sending","_law_k","_law_way"] (.str "law_ringloads_k30_slides_done" 521)
noncomputable def f52 (P:Params):List Obj:=A1 (top 52) 368 687 (.str "law_ringloads_k30_slides_done" 521)
noncomputable def f53 (P:Params):List Obj:=bL (top 53) 373 693 ["_law_sending","_law_slide","_law_k","_law_way","_law_l","_law_other","_law_amount_here","_law_made","_law_one","_law_word"] (.str "law_ringloads_k30_slides_done" 521)
noncomputable def f54 (P:Params):List Obj:=bL (top 54) 380 709 ["_law_state","_law_ring_here","_law_sending","_law_many","_law_k","_law_l","_law_way","_law_other","_law_first","_law_second","_law_most","_law_share"] (.str "law_ringloads_k30_slides_done" 521)
noncomputable def f55 (P:Params):List Obj:=bL (top 55) 387 727 ["_law_state","_law_slide","_law_many","_law_k","_law_way","_law_l","_law_other","_law_amount_here","_law_turned","_law_some","_law_more","_law_less"] (.str "law_ringloads_k30_slides_done" 521)
noncomputable def f56 (P:Params):List Obj:=bL (top 56) 394 745 ["_law_ring_here","_law_sending","_law_slides","_law_found","_law_number","e"] (.str "law_ringloads_k30_slides_done" 521)
noncomputable def f57 (P:Params):List Obj:=bL (top 57) 401 757 ["_law_script","_law_wide","_law_ring_here","_law_sending","_law_kept","_law_here","_law_slides","_law_k","_law_state","_law_one","_law_due","_law_handed","_law_told_here"] (.str "law_ringloads_k30_slides_done" 521)
noncomputable def obll (P:Params) (b:Nat):Obj:=(bif b.blt 111 then (bif b.blt 54 then (bif b.blt 22 then (f1 P).getD (b - 15) default else (bif b.blt 42 then (f3 P).getD (b - 22) default else (f4 P).getD (b - 42) default)) else (bif b.blt 73 then (f5 P).getD (b - 54) default else (bif b.blt 92 then (f6 P).getD (b - 73) default else (f7 P).getD (b - 92) default))) else (bif b.blt 142 then (bif b.blt 123 then (f8 P).getD (b - 111) default else (bif b.blt 135 then (f9 P).getD (b - 123) default else (f11 P).getD (b - 135) default)) else (bif b.blt 149 then (f12 P).getD (b - 142) default else (bif b.blt 156 then (f13 P).getD (b - 149) default else (f14 P).getD (b - 156) default))))
noncomputable def oblr (P:Params) (b:Nat):Obj:=(bif b.blt 199 then (bif b.blt 178 then (bif b.blt 164 then (f16 P).getD (b - 163) default else (bif b.blt 171 then (f17 P).getD (b - 164) default else (f18 P).getD (b - 171) default)) else (bif b.blt 185 then (f19 P).getD (b - 178) default else (bif b.blt 192 then (f20 P).getD (b - 185) default else (f21 P).getD (b - 192) default))) else (bif b.blt 218 then (bif b.blt 206 then (f25 P).getD (b - 199) default else (bif b.blt 211 then (f26 P).getD (b - 206) default else (f28 P).getD (b - 211) default)) else (bif b.blt 225 then (f29 P).getD (b - 218) default else (bif b.blt 232 then (f30 P).getD (b - 225) default else (f31 P).getD (b - 232) default))))
noncomputable def obl (P:Params) (b:Nat):Obj:=bif b.blt 163 then obll P b else oblr P b
noncomputable def obrl (P:Params) (b:Nat):Obj:=(bif b.blt 279 then (bif b.blt 258 then (bif b.blt 244 then (f32 P).getD (b - 237) default else (bif b.blt 251 then (f33 P).getD (b - 244) default else (f34 P).getD (b - 251) default)) else (bif b.blt 265 then (f35 P).getD (b - 258) default else (bif b.blt 272 then (f37 P).getD (b - 265) default else (f38 P).getD (b - 272) default))) else (bif b.blt 298 then (bif b.blt 286 then (f39 P).getD (b - 279) default else (bif b.blt 293 then (f40 P).getD (b - 286) default else (f41 P).getD (b - 293) default)) else (bif b.blt 305 then (f42 P).getD (b - 298) default else (bif b.blt 312 then (f43 P).getD (b - 305) default else (f44 P).getD (b - 312) default))))
noncomputable def obrr (P:Params) (b:Nat):Obj:=(bif b.blt 361 then (bif b.blt 340 then (bif b.blt 326 then (f45 P).getD (b - 319) default else (bif b.blt 333 then (f46 P).getD (b - 326) default else (f47 P).getD (b - 333) default)) else (bif b.blt 347 then (f48 P).getD (b - 340) default else (bif b.blt 354 then (f49 P).getD (b - 347) default else (f50 P).getD (b - 354) default))) else (bif b.blt 380 then (bif b.blt 368 then (f51 P).getD (b - 361) default else (bif b.blt 373 then (f52 P).getD (b - 368) default else (f53 P).getD (b - 373) default)) else (bif b.blt 394 then (bif b.blt 387 then (f54 P).getD (b - 380) default else (f55 P).getD (b - 387) default) else (bif b.blt 401 then (f56 P).getD (b - 394) default else (f57 P).getD (b - 401) default))))
noncomputable def obr (P:Params) (b:Nat):Obj:=bif b.blt 319 then obrl P b else obrr P b
noncomputable def ob (P:Params) (b:Nat):Obj:=bif b.blt 237 then obl P b else obr P b
noncomputable def ents (P:Params):List DictEntry:=[(DictEntry.mk (kh P "greatest_shared") (.str "greatest_shared" 197) (.ref 21)),
 (DictEntry.mk (kh P "LoadError") (.str "LoadError" 225) (.ref 38)),
 (DictEntry.mk (kh P "NoNumber") (.str "NoNumber" 241) (.ref 51)),
 (DictEntry.mk (kh P "NoRing") (.str "NoRing" 268) (.ref 70)),
 (DictEntry.mk (kh P "NoSlide") (.str "NoSlide" 293) (.ref 89)),
 (DictEntry.mk (kh P "NoTree") (.str "NoTree" 318) (.ref 108)),
 (DictEntry.mk (kh P "TooMany") (.str "TooMany" 334) (.ref 120)),
 (DictEntry.mk (kh P "NoChange") (.str "NoChange" 350) (.ref 132)),
 (DictEntry.mk (kh P "is_whole") (.str "is_whole" 359) (.ref 141)),
 (DictEntry.mk (kh P "is_number_below") (.str "is_number_below" 367) (.ref 148)),
 (DictEntry.mk (kh P "are_two_wholes") (.str "are_two_wholes" 374) (.ref 155)),
 (DictEntry.mk (kh P "is_ratio") (.str "is_ratio" 381) (.ref 162)),
 (DictEntry.mk (kh P "NOUGHT") (.str "NOUGHT" 386) (.ref 163)),
 (DictEntry.mk (kh P "lowest") (.str "lowest" 395) (.ref 170)),
 (DictEntry.mk (kh P "plus") (.str "plus" 403) (.ref 177)),
 (DictEntry.mk (kh P "minus") (.str "minus" 411) (.ref 184)),
 (DictEntry.mk (kh P "under") (.str "under" 419) (.ref 191)),
 (DictEntry.mk (kh P "lesser") (.str "lesser" 427) (.ref 198)),
 (DictEntry.mk (kh P "ON") (.str "ON" 431) (.str "on" 430)),
 (DictEntry.mk (kh P "BACK") (.str "BACK" 433) (.str "back" 432)),
 (DictEntry.mk (kh P "is_way") (.str "is_way" 440) (.ref 205)),
 (DictEntry.mk (kh P "ties_of") (.str "ties_of" 446) (.ref 210)),
 (DictEntry.mk (kh P "slid_by") (.str "slid_by" 460) (.ref 217)),
 (DictEntry.mk (kh P "is_slide") (.str "is_slide" 469) (.ref 224)),
 (DictEntry.mk (kh P "has_form_of_slide") (.str "has_form_of_slide" 477) (.ref 231)),
 (DictEntry.mk (kh P "share_no_tie") (.str "share_no_tie" 483) (.ref 236)),
 (DictEntry.mk (kh P "not_sent") (.str "not_sent" 493) (.ref 243)),
 (DictEntry.mk (kh P "most_slid") (.str "most_slid" 502) (.ref 250)),
 (DictEntry.mk (kh P "slid_once") (.str "slid_once" 511) (.ref 257)),
 (DictEntry.mk (kh P "part_behind") (.str "part_behind" 520) (.ref 264)),
 (DictEntry.mk (kh P "_law_begun") (.str "_law_begun" 531) (.ref 271)),
 (DictEntry.mk (kh P "_law_take") (.str "_law_take" 542) (.ref 278)),
 (DictEntry.mk (kh P "_law_low") (.str "_law_low" 552) (.ref 285)),
 (DictEntry.mk (kh P "_law_amount") (.str "_law_amount" 563) (.ref 292)),
 (DictEntry.mk (kh P "_law_names") (.str "_law_names" 569) (.ref 297)),
 (DictEntry.mk (kh P "_law_rooms") (.str "_law_rooms" 582) (.ref 304)),
 (DictEntry.mk (kh P "_law_ends") (.str "_law_ends" 594) (.ref 311)),
 (DictEntry.mk (kh P "_law_ring") (.str "_law_ring" 615) (.ref 318)),
 (DictEntry.mk (kh P "_law_parts") (.str "_law_parts" 630) (.ref 325)),
 (DictEntry.mk (kh P "_law_plus") (.str "_law_plus" 638) (.ref 332)),
 (DictEntry.mk (kh P "_law_minus") (.str "_law_minus" 646) (.ref 339)),
 (DictEntry.mk (kh P "_law_under") (.str "_law_under" 654) (.ref 346)),
 (DictEntry.mk (kh P "_law_ties") (.str "_law_ties" 668) (.ref 353)),
 (DictEntry.mk (kh P "_law_is_ratio") (.str "_law_is_ratio" 676) (.ref 360)),
 (DictEntry.mk (kh P "_law_gone") (.str "_law_gone" 686) (.ref 367)),
 (DictEntry.mk (kh P "_law_is_slide") (.str "_law_is_slide" 692) (.ref 372)),
 (DictEntry.mk (kh P "_law_slid") (.str "_law_slid" 708) (.ref 379)),
 (DictEntry.mk (kh P "_law_drawn") (.str "_law_drawn" 726) (.ref 386)),
 (DictEntry.mk (kh P "_law_odd") (.str "_law_odd" 744) (.ref 393)),
 (DictEntry.mk (kh P "_law_told") (.str "_law_told" 756) (.ref 400)),
 (DictEntry.mk (kh P "law") (.str "law" 775) (.ref 407))]
def plc:List Value:=[(.int 2 0),(.int 0 0),(.ref 20),(.int 9 0),(.int 0 0),(.ref 27),(.int 13 0),(.int 0 0),(.ref 47),(.int 15 0),(.int 0 0),(.ref 59),(.int 21 0),(.int 0 0),(.ref 78),(.int 26 0),(.int 0 0),(.ref 97),(.int 31 0),(.int 0 0),(.ref 116),(.int 33 0),(.int 0 0),(.ref 128),(.int 36 0),(.int 0 0),(.ref 140),(.int 38 0),(.int 0 0),(.ref 147),(.int 40 0),(.int 0 0),(.ref 154),(.int 42 0),(.int 0 0),(.ref 161),(.int 46 0),(.int 0 0),(.ref 169),(.int 51 0),(.int 0 0),(.ref 176),(.int 53 0),(.int 0 0),(.ref 183),(.int 55 0),(.int 0 0),(.ref 190),(.int 57 0),(.int 0 0),(.ref 197),(.int 62 0),(.int 0 0),(.ref 204),(.int 64 0),(.int 0 0),(.ref 209),(.int 72 0),(.int 0 0),(.ref 216),(.int 81 0),(.int 0 0),(.ref 223),(.int 87 0),(.int 0 0),(.ref 230),(.int 93 0),(.int 0 0),(.ref 235),(.int 96 0),(.int 0 0),(.ref 242),(.int 98 0),(.int 0 0),(.ref 249),(.int 100 0),(.int 0 0),(.ref 256),(.int 105 0),(.int 0 0),(.ref 263),(.int 108 0),(.int 0 0),(.ref 270),(.int 113 0),(.int 0 0),(.ref 277),(.int 124 0),(.int 0 0),(.ref 284),(.int 132 0),(.int 0 0),(.ref 291),(.int 136 0),(.int 0 0),(.ref 296),(.int 142 0),(.int 0 0),(.ref 303),(.int 152 0),(.int 0 0),(.ref 310),(.int 162 0),(.int 0 0),(.ref 317),(.int 176 0),(.int 0 0),(.ref 324),(.int 183 0),(.int 0 0),(.ref 331),(.int 185 0),(.int 0 0),(.ref 338),(.int 187 0),(.int 0 0),(.ref 345),(.int 189 0),(.int 0 0),(.ref 352),(.int 198 0),(.int 0 0),(.ref 359),(.int 207 0),(.int 0 0),(.ref 366),(.int 211 0),(.int 0 0),(.ref 371),(.int 228 0),(.int 0 0),(.ref 378),(.int 237 0),(.int 0 0),(.ref 385),(.int 248 0),(.int 0 0),(.ref 392),(.int 265 0),(.int 0 0),(.ref 399),(.int 276 0),(.int 0 0),(.ref 406)]
noncomputable def ov0 (P:Params):List (Nat×Obj):=[(12,fldO (plc.take 0))]
noncomputable def T0 (P:Params):BT:=L12 15 (fun b=>obAt [12] P (ov0 P) ob b 0) 1 0 0
noncomputable abbrev S0 (w:World) (os:OsState):SharedT:=⟨T0 w.params,15,iP,#[],⟨0,0,0,0⟩,187,os⟩
noncomputable def ov1 (P:Params):List (Nat×Obj):=[(3,mE P (.str "ringloads.errors" 198) ((ents P).take 2) 11),(12,fldO (plc.take 6)),(38,(Obj.mk (.type "type") none (.cls (PySem.ClassData.mk "LoadError" [(.type "ValueError")] [(.ref 38),(.type "ValueError"),(.type "Exception"),(.type "BaseException"),(.type "object")] 37 "LoadError" true [] [] false none false)) #[(some (.ref 22)),none,(some (.str "LoadError" 200)),(some (.str "LoadError" 208)),(some (.builtin "ValueError.__new__")),(some (.bool true))]))]
noncomputable def T1 (P:Params):BT:=L12 42 (fun b=>obAt [3,12,38] P (ov1 P) ob b 1) 1 0 1
noncomputable abbrev S1 (w:World) (os:OsState):SharedT:=⟨T1 w.params,42,iP,#[],⟨0,0,0,0⟩,226,os⟩
noncomputable def ov2 (P:Params):List (Nat×Obj):=[(3,mE P (.str "ringloads.errors" 198) ((ents P).take 3) 12),(12,fldO (plc.take 9)),(38,(Obj.mk (.type "type") none (.cls (PySem.ClassData.mk "LoadError" [(.type "ValueError")] [(.ref 38),(.type "ValueError"),(.type "Exception"),(.type "BaseException"),(.type "object")] 37 "LoadError" true [] [(.ref 51)] false none false)) #[(some (.ref 22)),none,(some (.str "LoadError" 200)),(some (.str "LoadError" 208)),(some (.builtin "ValueError.__new__")),(some (.bool true))]))]
noncomputable def T2 (P:Params):BT:=L12 54 (fun b=>obAt [3,12,38] P (ov2 P) ob b 2) 1 0 2
noncomputable abbrev S2 (w:World) (os:OsState):SharedT:=⟨T2 w.params,54,iP,#[],⟨0,0,0,0⟩,242,os⟩
noncomputable def ov3 (P:Params):List (Nat×Obj):=[(3,mE P (.str "ringloads.errors" 198) ((ents P).take 4) 13),(12,fldO (plc.take 12)),(38,(Obj.mk (.type "type") none (.cls (PySem.ClassData.mk "LoadError" [(.type "ValueError")] [(.ref 38),(.type "ValueError"),(.type "Exception"),(.type "BaseException"),(.type "object")] 37 "LoadError" true [] [(.ref 51),(.ref 70)] false none false)) #[(some (.ref 22)),none,(some (.str "LoadError" 200)),(some (.str "LoadError" 208)),(some (.builtin "ValueError.__new__")),(some (.bool true))]))]
noncomputable def T3 (P:Params):BT:=L12 73 (fun b=>obAt [3,12,38] P (ov3 P) ob b 3) 1 0 3
noncomputable abbrev S3 (w:World) (os:OsState):SharedT:=⟨T3 w.params,73,iP,#[],⟨0,0,0,0⟩,269,os⟩
noncomputable def ov4 (P:Params):List (Nat×Obj):=[(3,mE P (.str "ringloads.errors" 198) ((ents P).take 5) 14),(12,fldO (plc.take 15)),(38,(Obj.mk (.type "type") none (.cls (PySem.ClassData.mk "LoadError" [(.type "ValueError")] [(.ref 38),(.type "ValueError"),(.type "Exception"),(.type "BaseException"),(.type "object")] 37 "LoadError" true [] [(.ref 51),(.ref 70),(.ref 89)] false none false)) #[(some (.ref 22)),none,(some (.str "LoadError" 200)),(some (.str "LoadError" 208)),(some (.builtin "ValueError.__new__")),(some (.bool true))]))]
noncomputable def T4 (P:Params):BT:=L12 92 (fun b=>obAt [3,12,38] P (ov4 P) ob b 4) 1 0 4
noncomputable abbrev S4 (w:World) (os:OsState):SharedT:=⟨T4 w.params,92,iP,#[],⟨0,0,0,0⟩,294,os⟩
noncomputable def ov5 (P:Params):List (Nat×Obj):=[(3,mE P (.str "ringloads.errors" 198) ((ents P).take 6) 15),(12,fldO (plc.take 18)),(38,(Obj.mk (.type "type") none (.cls (PySem.ClassData.mk "LoadError" [(.type "ValueError")] [(.ref 38),(.type "ValueError"),(.type "Exception"),(.type "BaseException"),(.type "object")] 37 "LoadError" true [] [(.ref 51),(.ref 70),(.ref 89),(.ref 108)] false none false)) #[(some (.ref 22)),none,(some (.str "LoadError" 200)),(some (.str "LoadError" 208)),(some (.builtin "ValueError.__new__")),(some (.bool true))]))]
noncomputable def T5 (P:Params):BT:=L12 111 (fun b=>obAt [3,12,38] P (ov5 P) ob b 5) 1 0 5
noncomputable abbrev S5 (w:World) (os:OsState):SharedT:=⟨T5 w.params,111,iP,#[],⟨0,0,0,0⟩,319,os⟩
noncomputable def ov6 (P:Params):List (Nat×Obj):=[(3,mE P (.str "ringloads.errors" 198) ((ents P).take 7) 16),(12,fldO (plc.take 21)),(38,(Obj.mk (.type "type") none (.cls (PySem.ClassData.mk "LoadError" [(.type "ValueError")] [(.ref 38),(.type "ValueError"),(.type "Exception"),(.type "BaseException"),(.type "object")] 37 "LoadError" true [] [(.ref 51),(.ref 70),(.ref 89),(.ref 108),(.ref 120)] false none false)) #[(some (.ref 22)),none,(some (.str "LoadError" 200)),(some (.str "LoadError" 208)),(some (.builtin "ValueError.__new__")),(some (.bool true))]))]
noncomputable def T6 (P:Params):BT:=L12 123 (fun b=>obAt [3,12,38] P (ov6 P) ob b 6) 1 0 6
noncomputable abbrev S6 (w:World) (os:OsState):SharedT:=⟨T6 w.params,123,iP,#[],⟨0,0,0,0⟩,335,os⟩
noncomputable def ov7 (P:Params):List (Nat×Obj):=[(3,mE P (.str "ringloads.ratios" 382) ((ents P).take 14) 23),(12,fldO (plc.take 39))]
noncomputable def T7 (P:Params):BT:=L12 171 (fun b=>obAt [3,12] P (ov7 P) ob b 7) 1 0 7
noncomputable abbrev S7 (w:World) (os:OsState):SharedT:=⟨T7 w.params,171,iP,#[],⟨0,0,0,0⟩,396,os⟩
noncomputable def ov8 (P:Params):List (Nat×Obj):=[(3,mE P (.str "ringloads.slides" 447) ((ents P).take 28) 37),(12,fldO (plc.take 75))]
noncomputable def T8 (P:Params):BT:=L12 251 (fun b=>obAt [3,12] P (ov8 P) ob b 8) 1 0 8
noncomputable abbrev S8 (w:World) (os:OsState):SharedT:=⟨T8 w.params,251,iP,#[],⟨0,0,0,0⟩,503,os⟩
noncomputable def ov9 (P:Params):List (Nat×Obj):=[(3,mE P (.str "law_ringloads_k30_slides_done" 521) ((ents P).take 39) 48),(12,fldO (plc.take 108))]
noncomputable def T9 (P:Params):BT:=L12 326 (fun b=>obAt [3,12] P (ov9 P) ob b 9) 1 0 9
noncomputable abbrev S9 (w:World) (os:OsState):SharedT:=⟨T9 w.params,326,iP,#[],⟨0,0,0,0⟩,631,os⟩
noncomputable def ov10 (P:Params):List (Nat×Obj):=[(3,mE P (.str "law_ringloads_k30_slides_done" 521) ((ents P).take 50) 59),(12,fldO (plc.take 141))]
noncomputable def T10 (P:Params):BT:=L12 401 (fun b=>obAt [3,12] P (ov10 P) ob b 10) 1 0 10
noncomputable abbrev S10 (w:World) (os:OsState):SharedT:=⟨T10 w.params,401,iP,#[],⟨0,0,0,0⟩,757,os⟩
noncomputable def ov11 (P:Params):List (Nat×Obj):=[(3,mE P (.str "law_ringloads_k30_slides_done" 521) ((ents P).take 51) 60),(12,fldO (plc.take 144))]
noncomputable def T11 (P:Params):BT:=L12 408 (fun b=>obAt [3,12] P (ov11 P) ob b 11) 1 0 11
noncomputable abbrev S11 (w:World) (os:OsState):SharedT:=⟨T11 w.params,408,iP,#[],⟨0,0,0,0⟩,776,os⟩
abbrev env:Env:={ scope:=pr.main.scope,locals:=mainNs,globals:=mainNs,cells:=[],code:=.ref 13,frame:=some 14 }
abbrev cE:Code:=.body (behindTheImports pr) env
abbrev B:List Frame:=[topFrame ⟨0,0,0,0⟩]
def sts1:List Stmt:=(pr.main.body.drop 0).take 4
theorem pc1 (w:World) (os:OsState):segRunT treeTable pr w 11 (some (.ref 6)) 1 267 (S0 w os) (piecesOf sts1 env cE ⟨0,0,0,0⟩ B)=some (.next,S1 w os,cE,⟨9,0,12,39⟩):=gj (by kernel_rfl)
def sts2:List Stmt:=(pr.main.body.drop 4).take 1
theorem pc2 (w:World) (os:OsState):segRunT treeTable pr w 11 (some (.ref 6)) 1 214 (S1 w os) (piecesOf sts2 env cE ⟨9,0,12,39⟩ B)=some (.next,S2 w os,cE,⟨13,0,14,8⟩):=gj (by kernel_rfl)
def sts3:List Stmt:=(pr.main.body.drop 5).take 1
theorem pc3 (w:World) (os:OsState):segRunT treeTable pr w 11 (some (.ref 6)) 1 248 (S2 w os) (piecesOf sts3 env cE ⟨13,0,14,8⟩ B)=some (.next,S3 w os,cE,⟨15,0,20,28⟩):=gj (by kernel_rfl)
def sts4:List Stmt:=(pr.main.body.drop 6).take 1
theorem pc4 (w:World) (os:OsState):segRunT treeTable pr w 11 (some (.ref 6)) 1 246 (S3 w os) (piecesOf sts4 env cE ⟨15,0,20,28⟩ B)=some (.next,S4 w os,cE,⟨21,0,25,28⟩):=gj (by kernel_rfl)
def sts5:List Stmt:=(pr.main.body.drop 7).take 1
theorem pc5 (w:World) (os:OsState):segRunT treeTable pr w 11 (some (.ref 6)) 1 246 (S4 w os) (piecesOf sts5 env cE ⟨21,0,25,28⟩ B)=some (.next,S5 w os,cE,⟨26,0,30,28⟩):=gj (by kernel_rfl)
def sts6:List Stmt:=(pr.main.body.drop 8).take 1
theorem pc6 (w:World) (os:OsState):segRunT treeTable pr w 11 (some (.ref 6)) 1 214 (S5 w os) (piecesOf sts6 env cE ⟨26,0,30,28⟩ B)=some (.next,S6 w os,cE,⟨31,0,32,8⟩):=gj (by kernel_rfl)
def sts7:List Stmt:=(pr.main.body.drop 9).take 9
theorem pc7 (w:World) (os:OsState):segRunT treeTable pr w 11 (some (.ref 6)) 1 392 (S6 w os) (piecesOf sts7 env cE ⟨31,0,32,8⟩ B)=some (.next,S7 w os,cE,⟨46,0,50,44⟩):=gj (by kernel_rfl)
def sts8:List Stmt:=(pr.main.body.drop 18).take 16
theorem pc8 (w:World) (os:OsState):segRunT treeTable pr w 11 (some (.ref 6)) 1 396 (S7 w os) (piecesOf sts8 env cE ⟨46,0,50,44⟩ B)=some (.next,S8 w os,cE,⟨98,0,99,107⟩):=gj (by kernel_rfl)
def sts9:List Stmt:=(pr.main.body.drop 34).take 12
theorem pc9 (w:World) (os:OsState):segRunT treeTable pr w 11 (some (.ref 6)) 1 376 (S8 w os) (piecesOf sts9 env cE ⟨98,0,99,107⟩ B)=some (.next,S9 w os,cE,⟨176,0,182,26⟩):=gj (by kernel_rfl)
def Fv:List Stmt:=(pr.main.body.drop 46).take 11
theorem pc10 (w:World) (os:OsState):segRunT treeTable pr w 11 (some (.ref 6)) 1 367 (S9 w os) (piecesOf Fv env cE ⟨176,0,182,26⟩ B)=some (.next,S10 w os,cE,⟨265,0,275,36⟩):=gj (by kernel_rfl)
def Fw:List Stmt:=(pr.main.body.drop 57).take 1
theorem pc11 (w:World) (os:OsState):segRunT treeTable pr w 11 (some (.ref 6)) 1 42 (S10 w os) (piecesOf Fw env cE ⟨265,0,275,36⟩ B)=some (.next,S11 w os,cE,⟨276,0,304,74⟩):=gj (by kernel_rfl)
noncomputable abbrev H1 (P:Params):Heap:=absHeap (T11 P) 408 iP
theorem pre (w:World) (os:OsState):topGo treeTable pr w 11 (some (.ref 6)) 12 ⟨boot_heap w.params,#[],boot_drawn,boot_toks,os⟩ (topStub pr)=some (⟨⟨⟨Dr w.params⟩,iP⟩,#[],⟨0,0,0,0⟩,187,os⟩,⟨denote treeTable cE,cE,⟨0,0,0,0⟩,B⟩):=by rw [Fu];exact GC (by kernel_rfl)
theorem BK (w:World) (os:OsState):segRun treeTable pr w 11 (some (.ref 6)) 1 1 ⟨⟨⟨Dr w.params⟩,iP⟩,#[],⟨0,0,0,0⟩,187,os⟩ (blockOf (behindTheImports pr) env cE ⟨0,0,0,0⟩ B)=some (.next,(S0 w os).abs,cE,⟨0,0,0,0⟩):=by kernel_rfl
theorem fin (w:World) (os:OsState):topRun treeTable pr w 11 (some (.ref 6)) 2 (S11 w os).abs ⟨doneF .next,cE,⟨276,0,304,74⟩,B⟩=some ⟨H1 w.params,#[],⟨0,0,0,0⟩,776,os⟩:=Ft (by kernel_rfl)
theorem Dt:behindTheImports pr=(sts1++(sts2++(sts3++(sts4++(sts5++(sts6++(sts7++(sts8++(sts9++(Fv++(Fw++[]))))))))))):=by kernel_rfl
theorem run (w:World) (os:OsState):topRun treeTable pr w 11 (some (.ref 6)) (12+(1+(267+(214+(248+(246+(246+(214+(392+(396+(376+(367+(42+2))))))))))))) ⟨boot_heap w.params,#[],boot_drawn,boot_toks,os⟩ (topStub pr)=some ⟨H1 w.params,#[],⟨0,0,0,0⟩,776,os⟩ :=
 go_top (pre w os) (piece_block (BK w os) (Ds Dt (piece_app (segRun_of (pc1 w os)) (piece_app (segRun_of (pc2 w os)) (piece_app (segRun_of (pc3 w os)) (piece_app (segRun_of (pc4 w os)) (piece_app (segRun_of (pc5 w os)) (piece_app (segRun_of (pc6 w os)) (piece_app (segRun_of (pc7 w os)) (piece_app (segRun_of (pc8 w os)) (piece_app (segRun_of (pc9 w os)) (piece_app (segRun_of (pc10 w os)) (piece_app (segRun_of (pc11 w os)) (piece_nil (fin w os)))))))))))))))
abbrev q:Program:=view pr [57]
def loose:List Str:=(["greatest_shared","LoadError","NoNumber","NoRing","NoSlide","NoTree","TooMany","NoChange","is_whole","is_number_below","are_two_wholes","is_ratio","NOUGHT","lowest","plus","minus","under","lesser","ON","BACK","is_way","ties_of","slid_by","is_slide","has_form_of_slide","share_no_tie","not_sent","most_slid","slid_once","part_behind","_law_begun","_law_take","_law_low","_law_amount","_law_names","_law_rooms","_law_ends","_law_ring","_law_parts","_law_plus","_law_minus","_law_under","_law_ties","_law_is_ratio","_law_gone","_law_is_slide","_law_slid","_law_drawn","_law_odd","_law_told"]:List String).map Str.ofString
noncomputable def Kf (P:Params):Frag:=(3,((ov11 P).getD 0 (0,default)).2)::[(2,boot_o_2 P),(20,(f1 P).getD 5 default),(21,(f1 P).getD 6 default),(22,(f3 P).getD 0 default),(23,(f3 P).getD 1 default),(24,(f3 P).getD 2 default),(25,(f3 P).getD 3 default),(26,(f3 P).getD 4 default),(27,(f3 P).getD 5 default),(28,(f3 P).getD 6 default),(29,(f3 P).getD 7 default),(30,(f3 P).getD 8 default),(31,(f3 P).getD 9 default),(32,(f3 P).getD 10 default),(33,(f3 P).getD 11 default),(34,(f3 P).getD 12 default),(35,(f3 P).getD 13 default),(36,(f3 P).getD 14 default),(37,(f3 P).getD 15 default),(38,(f3 P).getD 16 default),(39,(f3 P).getD 17 default),(40,(f3 P).getD 18 default),(41,(f3 P).getD 19 default),(42,(f4 P).getD 0 default),(43,(f4 P).getD 1 default),(44,(f4 P).getD 2 default),(45,(f4 P).getD 3 default),(46,(f4 P).getD 4 default),(47,(f4 P).getD 5 default),(48,(f4 P).getD 6 default),(49,(f4 P).getD 7 default),(50,(f4 P).getD 8 default),(51,(f4 P).getD 9 default),(52,(f4 P).getD 10 default),(53,(f4 P).getD 11 default),(54,(f5 P).getD 0 default),(55,(f5 P).getD 1 default),(56,(f5 P).getD 2 default),(57,(f5 P).getD 3 default),(58,(f5 P).getD 4 default),(59,(f5 P).getD 5 default),(60,(f5 P).getD 6 default),(61,(f5 P).getD 7 default),(62,(f5 P).getD 8 default),(63,(f5 P).getD 9 default),(64,(f5 P).getD 10 default),(65,(f5 P).getD 11 default),(66,(f5 P).getD 12 default),(67,(f5 P).getD 13 default),(68,(f5 P).getD 14 default),(69,(f5 P).getD 15 default),(70,(f5 P).getD 16 default),(71,(f5 P).getD 17 default),(72,(f5 P).getD 18 default),(73,(f6 P).getD 0 default),(74,(f6 P).getD 1 default),(75,(f6 P).getD 2 default),(76,(f6 P).getD 3 default),(77,(f6 P).getD 4 default),(78,(f6 P).getD 5 default),(79,(f6 P).getD 6 default),(80,(f6 P).getD 7 default),(81,(f6 P).getD 8 default),(82,(f6 P).getD 9 default),(83,(f6 P).getD 10 default),(84,(f6 P).getD 11 default),(85,(f6 P).getD 12 default),(86,(f6 P).getD 13 default),(87,(f6 P).getD 14 default),(88,(f6 P).getD 15 default),(89,(f6 P).getD 16 default),(90,(f6 P).getD 17 default),(91,(f6 P).getD 18 default),(92,(f7 P).getD 0 default),(93,(f7 P).getD 1 default),(94,(f7 P).getD 2 default),(95,(f7 P).getD 3 default),(96,(f7 P).getD 4 default),(97,(f7 P).getD 5 default),(98,(f7 P).getD 6 default),(99,(f7 P).getD 7 default),(100,(f7 P).getD 8 default),(101,(f7 P).getD 9 default),(102,(f7 P).getD 10 default),(103,(f7 P).getD 11 default),(104,(f7 P).getD 12 default),(105,(f7 P).getD 13 default),(106,(f7 P).getD 14 default),(107,(f7 P).getD 15 default),(108,(f7 P).getD 16 default),(109,(f7 P).getD 17 default),(110,(f7 P).getD 18 default),(111,(f8 P).getD 0 default),(112,(f8 P).getD 1 default),(113,(f8 P).getD 2 default),(114,(f8 P).getD 3 default),(115,(f8 P).getD 4 default),(116,(f8 P).getD 5 default),(117,(f8 P).getD 6 default),(118,(f8 P).getD 7 default),(119,(f8 P).getD 8 default),(120,(f8 P).getD 9 default),(121,(f8 P).getD 10 default),(122,(f8 P).getD 11 default),(123,(f9 P).getD 0 default),(124,(f9 P).getD 1 default),(125,(f9 P).getD 2 default),(126,(f9 P).getD 3 default),(127,(f9 P).getD 4 default),(128,(f9 P).getD 5 default),(129,(f9 P).getD 6 default),(130,(f9 P).getD 7 default),(131,(f9 P).getD 8 default),(132,(f9 P).getD 9 default),(133,(f9 P).getD 10 default),(134,(f9 P).getD 11 default),(140,(f11 P).getD 5 default),(141,(f11 P).getD 6 default),(147,(f12 P).getD 5 default),(148,(f12 P).getD 6 default),(154,(f13 P).getD 5 default),(155,(f13 P).getD 6 default),(161,(f14 P).getD 5 default),(162,(f14 P).getD 6 default),(163,(f16 P).getD 0 default),(169,(f17 P).getD 5 default),(170,(f17 P).getD 6 default),(176,(f18 P).getD 5 default),(177,(f18 P).getD 6 default),(183,(f19 P).getD 5 default),(184,(f19 P).getD 6 default),(190,(f20 P).getD 5 default),(191,(f20 P).getD 6 default),(197,(f21 P).getD 5 default),(198,(f21 P).getD 6 default),(204,(f25 P).getD 5 default),(205,(f25 P).getD 6 default),(209,(f26 P).getD 3 default),(210,(f26 P).getD 4 default),(216,(f28 P).getD 5 default),(217,(f28 P).getD 6 default),(223,(f29 P).getD 5 default),(224,(f29 P).getD 6 default),(230,(f30 P).getD 5 default),(231,(f30 P).getD 6 default),(235,(f31 P).getD 3 default),(236,(f31 P).getD 4 default),(242,(f32 P).getD 5 default),(243,(f32 P).getD 6 default),(249,(f33 P).getD 5 default),(250,(f33 P).getD 6 default),(256,(f34 P).getD 5 default),(257,(f34 P).getD 6 default),(263,(f35 P).getD 5 default),(264,(f35 P).getD 6 default),(270,(f37 P).getD 5 default),(271,(f37 P).getD 6 default),(277,(f38 P).getD 5 default),(278,(f38 P).getD 6 default),(284,(f39 P).getD 5 default),(285,(f39 P).getD 6 default),(291,(f40 P).getD 5 default),(292,(f40 P).getD 6 default),(296,(f41 P).getD 3 default),(297,(f41 P).getD 4 default),(303,(f42 P).getD 5 default),(304,(f42 P).getD 6 default),(310,(f43 P).getD 5 default),(311,(f43 P).getD 6 default),(317,(f44 P).getD 5 default),(318,(f44 P).getD 6 default),(324,(f45 P).getD 5 default),(325,(f45 P).getD 6 default),(331,(f46 P).getD 5 default),(332,(f46 P).getD 6 default),(338,(f47 P).getD 5 default),(339,(f47 P).getD 6 default),(345,(f48 P).getD 5 default),(346,(f48 P).getD 6 default),(352,(f49 P).getD 5 default),(353,(f49 P).getD 6 default),(359,(f50 P).getD 5 default),(360,(f50 P).getD 6 default),(366,(f51 P).getD 5 default),(367,(f51 P).getD 6 default),(371,(f52 P).getD 3 default),(372,(f52 P).getD 4 default),(378,(f53 P).getD 5 default),(379,(f53 P).getD 6 default),(385,(f54 P).getD 5 default),(386,(f54 P).getD 6 default),(392,(f55 P).getD 5 default),(393,(f55 P).getD 6 default),(399,(f56 P).getD 5 default),(400,(f56 P).getD 6 default),(406,(f57 P).getD 5 default),(407,(f57 P).getD 6 default)]
abbrev as:List Addr:=[3,2,20,21,22,23,24,25,26,27,28,29,30,31,32,33,34,35,36,37,38,39,40,41,42,43,44,45,46,47,48,49,50,51,52,53,54,55,56,57,58,59,60,61,62,63,64,65,66,67,68,69,70,71,72,73,74,75,76,77,78,79,80,81,82,83,84,85,86,87,88,89,90,91,92,93,94,95,96,97,98,99,100,101,102,103,104,105,106,107,108,109,110,111,112,113,114,115,116,117,118,119,120,121,122,123,124,125,126,127,128,129,130,131,132,133,134,140,141,147,148,154,155,161,162,163,169,170,176,177,183,184,190,191,197,198,204,205,209,210,216,217,223,224,230,231,235,236,242,243,249,250,256,257,263,264,270,271,277,278,284,285,291,292,296,297,303,304,310,311,317,318,324,325,331,332,338,339,345,346,352,353,359,360,366,367,371,372,378,379,385,386,392,393,399,400,406,407]
noncomputable abbrev Hk:Hook:=kHook Kf as (fun _=>by kernel_rfl)
abbrev Xt:Shared→Bool:=fun s=>xlAt q [] s && recOk (RowW.records PySem.Challenge.rw_ringloads_k30_slides_done.row.toRowW) s
theorem size (w:World):((boot_heap w.params).isNs mainGlobals && (#[]:Array GenState).size == 0,(boot_heap w.params).objs.size,(boot_heap w.params).nsMap mainGlobals "__annotations__")=(true,11,some (.ref 6)):=by kernel_rfl
theorem GD (w:World) (os:OsState):(staticsOk (importedModules pr.main.body) (boot_heap w.params) (H1 w.params) && namesBound pr (H1 w.params) && gensDone ⟨H1 w.params,#[],⟨0,0,0,0⟩,776,os⟩ && laidKept (boot_heap w.params) (H1 w.params))=true:=by kernel_rfl
theorem GE (w:World) (os:OsState):openSeen q loose (importedModules pr.main.body) Xt true ⟨H1 w.params,#[],⟨0,0,0,0⟩,776,os⟩=openGood q loose:=by rw [Fast.te4187177175401517315];kernel_rfl
theorem GF (w:World) (os:OsState):Hk.obs ⟨H1 w.params,#[],⟨0,0,0,0⟩,776,os⟩=Hk.val w:=by kernel_rfl
theorem Fx:opening pr=plainProg pr.main.scope.names:=by kernel_rfl
theorem left:LeftO pr q loose Xt Hk.obs Hk.val 6694:=LeftO.of_pieces (M:=(12+(1+(267+(214+(248+(246+(246+(214+(392+(396+(376+(367+(42+2)))))))))))))) (boot_open Fx (by decide) (fun s=>by kernel_rfl)) size run (by decide +kernel) (fun w=>funext fun os=>looks_pair (GD w os) (looks_pair (GE w os) (GF w os)))
end Hd
namespace My
open PySem L2
local macro_rules | `(tactic| walk_at "w")=>do
 let ids:=("xT qj uC qk Ai uD xV fldD isC isA vP okX An wDct dicV Al z6 xG Ef zM B4 Eg zN B5 zU Ep Ce Cr Ey F8 Cu Ez Ga Cz Gd CA Ge oj om inV' isBx Ed Ee zL w5 si Ew z0 Cp xD vM z8 Gc m9 wSeq wIf aI wBin wUn wVar lz wC wSet wRet m5 bq aP aZ aL aVal aVar aNil toD toDs jt isBl wTup wLst wNot wAnd wOr jq w8 wIfE wFrz cA wIxV n6 xm wApp z9 nI noL noLs c9 z7 Cq xF List.all_cons List.all_nil Bool.and_true Bool.true_and ownV wPar rY wFor p5 B9 wSrc Co Cm nG sE sF vR cj yj yk AA fY bH fO bf m6 c8 vD opLt opLe opGt opGe opEq opNe rT Au Av Aw Ax Ay CV CW CY CZ EX EY C2 C3 Gp Gq yp yq C5 xB uw yf uK yt yg uL nO yi Fb Az List.length_map yh yl ym yn AB vS yo sG sH sI qr sJ oA AC C0 vE xl xk rX jv fP AD C6 AE AF AG AH vT qt qu yr C7 vI rZ beq_self_eq_true String.reduceBEq String.reduceEq reduceCtorEq wSl2 vF og bW eI bb vJ xy vK gf Cj Er List.getElem?_cons_zero List.getElem?_cons_succ List.set_cons_zero List.set_cons_succ List.cons_append List.nil_append List.replicate_succ List.replicate_zero List.map_cons List.map_nil List.drop_succ_cons List.drop_zero Option.getD_some true_and decide_eq_true_eq Bool.not_eq_true' decide_eq_false_iff_not ite_true ite_false Bool.false_eq_true Bool.true_eq_false if_true if_false List.length_cons List.length_nil Nat.reduceAdd Nat.reduceSub ou nc Ap EV Gm ix30 ix31 ix32 Option.some.injEq exists_eq_left' exists_eq_left".splitOn " ").toArray.map fun s=>Lean.mkIdent ((s.splitOn ".").foldl Lean.Name.mkStr Lean.Name.anonymous)
 `(tactic| try simp only [$[$ids:ident],*])
local macro_rules | `(tactic| walk_at "o")=>`(tactic| first | exact Or.inl rfl | exact Or.inr rfl)
abbrev cD:Stmt:=Hd.top 1
abbrev ky:List Str:=["one","other","rest"]
abbrev kz:Stmt:=Hd.top 11
abbrev v5:List Str:=["thing"]
abbrev cF:Stmt:=Hd.top 12
abbrev kA:List Str:=["thing","many"]
abbrev de:Stmt:=Hd.top 13
abbrev lG:List Str:=["thing"]
abbrev kB:Stmt:=Hd.top 14
abbrev v7:List Str:=["thing"]
abbrev oR:Stmt:=Hd.top 17
abbrev A2:List Str:=["top","bottom","shared"]
abbrev yV:Stmt:=Hd.top 18
abbrev Fy:List Str:=["one","other"]
abbrev sW:Stmt:=Hd.top 19
abbrev Du:List Str:=["one","other"]
abbrev sX:Stmt:=Hd.top 20
abbrev Dv:List Str:=["one","other"]
abbrev oS:Stmt:=Hd.top 21
abbrev A3:List Str:=["one","other"]
abbrev oT:Stmt:=Hd.top 25
abbrev A4:List Str:=["thing"]
abbrev gk:Stmt:=Hd.top 26
abbrev mF:List Str:=["ring","k","way","places","one","other"]
abbrev fh:Stmt:=Hd.top 35
abbrev oU:List Str:=["part","way","amount"]
abbrev iQ:Stmt:=Hd.top 34
abbrev sY:List Str:=["sending","slide","slid"]
abbrev cO:Stmt:=Hd.top 31
abbrev ia:List Str:=["ring","k","way","l","other","taken"]
abbrev cb:Stmt:=Hd.top 30
abbrev iR:List Str:=["thing","asks"]
abbrev kC:Stmt:=Hd.top 32
abbrev v8:List Str:=["ring","sending","k","way"]
abbrev iS:Stmt:=Hd.top 33
abbrev td:List Str:=["ring","sending","slide"]
abbrev kD:Stmt:=Hd.top 29
abbrev v9:List Str:=["ring","sending","thing"]
abbrev mG:Stmt:=Hd.top 28
abbrev yW:List Str:=["ring","sending","thing","slid","number","slide"]
abbrev gm:Stmt:=Hd.top 37
abbrev qI:List Str:=["_law_script","_law_k","_law_cell"]
abbrev iT:Stmt:=Hd.top 38
abbrev tf:List Str:=["_law_state","_law_many","_law_digit","_law_drawn_here","_law_turn"]
abbrev cX:Stmt:=Hd.top 41
abbrev gn:List Str:=["_law_state","_law_many","_law_letters","_law_base","_law_at","_law_turn"]
abbrev kE:Stmt:=Hd.top 39
abbrev wb:List Str:=["_law_top","_law_bottom","_law_one","_law_share"]
abbrev fj:Stmt:=Hd.top 40
abbrev oV:List Str:=["_law_state","_law_least","_law_kind","_law_bottom","_law_top"]
abbrev gp:Stmt:=Hd.top 42
abbrev qJ:List Str:=["_law_state","_law_ties_here","_law_kind","_law_alike","_law_one","_law_rooms_here","_law_more"]
abbrev iU:Stmt:=Hd.top 43
abbrev tj:List Str:=["_law_state","_law_shape","_law_places","_law_k","_law_one","_law_other"]
abbrev iV:Stmt:=Hd.top 44
abbrev tq:List Str:=["_law_script","_law_at","_law_most","_law_count","_law_state","_law_places","_law_many","_law_kinds","_law_shape","_law_names_here","_law_rooms_here","_law_asks","_law_k","_law_one","_law_other"]
abbrev gq:Stmt:=Hd.top 45
abbrev qK:List Str:=["_law_state","_law_ring_here","_law_parts_here","_law_name","_law_one","_law_other","_law_size","_law_way","_law_share"]
abbrev gu:Stmt:=Hd.top 47
abbrev qL:List Str:=["_law_one","_law_other"]
abbrev iW:Stmt:=Hd.top 51
abbrev tD:List Str:=["_law_ring_here","_law_sending","_law_k","_law_way"]
abbrev gv:Stmt:=Hd.top 48
abbrev qM:List Str:=["_law_one","_law_other"]
abbrev gw:Stmt:=Hd.top 54
abbrev qN:List Str:=["_law_state","_law_ring_here","_law_sending","_law_many","_law_k","_law_l","_law_way","_law_other","_law_first","_law_second","_law_most","_law_share"]
abbrev iX:Stmt:=Hd.top 49
abbrev tE:List Str:=["_law_ring_here","_law_k","_law_way","_law_name","_law_one","_law_other","_law_size","_law_ties_here"]
abbrev dN:Stmt:=Hd.top 50
abbrev mH:List Str:=["_law_thing","_law_part"]
abbrev cv:Stmt:=Hd.top 52
abbrev gy:List Str:=["_law_ring_here","_law_sending","_law_thing","_law_k","_law_way","_law_l","_law_other","_law_amount_here","_law_one","_law_word","_law_rest","_law_ties_here"]
abbrev iY:Stmt:=Hd.top 56
abbrev tF:List Str:=["_law_ring_here","_law_sending","_law_slides","_law_found","_law_number","e"]
abbrev iZ:Stmt:=Hd.top 46
abbrev tG:List Str:=["_law_one","_law_other"]
abbrev kF:Stmt:=Hd.top 55
abbrev wc:List Str:=["_law_state","_law_slide","_law_many","_law_k","_law_way","_law_l","_law_other","_law_amount_here","_law_turned","_law_some","_law_more","_law_less"]
abbrev i4:Stmt:=Hd.top 53
abbrev tH:List Str:=["_law_sending","_law_slide","_law_k","_law_way","_law_l","_law_other","_law_amount_here","_law_made","_law_one","_law_word"]
abbrev A5:Stmt:=Hd.top 57
abbrev GG:List Str:=["_law_script","_law_wide","_law_ring_here","_law_sending","_law_kept","_law_here","_law_slides","_law_k","_law_state","_law_one","_law_due","_law_handed","_law_told_here"]
def bM:FS:=fun ls post=>∃a b:Int,ls=[.d (.int a),.d (.int b)]∧post (.d (.int (Int.gcd a b))) ls
def i5:W Fl:=(wSeq (wSet 2 (wBin c8 (wVar 0) (wVar 1)))
  (wSeq (wSet 0 (wVar 1))
  (wSet 1 (wVar 2))))
def cG:W Fl:=(wSeq (nD (aI (wBin opNe (wVar 1) (wC (.int 0)))) i5)
  (wRet (aL vE (aVal (wVar 0) aNil))))
theorem i6:∀ls post,ls.length=2→bM ls post→cG (ls++List.replicate 1 .un) (a7 ls post):=by
 rintro ls post - ⟨a,b,rfl,h⟩
 unfold cG
 walk_at "w"
 refine ⟨fun n ρ=>∃x y r,ρ=[.d (.int x),.d (.int y),r]∧Int.gcd x y=Int.gcd a b∧n=y.natAbs,⟨_,a,b,_,rfl,rfl,rfl⟩,?_⟩
 rintro n ρ ⟨x,y,r,rfl,hg,rfl⟩
 walk_at "w"
 split
 ·
  rename_i hy
  have hy:y≠0:=by simpa using hy
  exact ⟨hy,_,hX x hy,y,x.fmod y,_,rfl,by rw [uo];exact hg,rfl⟩
 ·
  rename_i hy
  have hy:y=0:=by simpa using hy
  subst hy
  refine ⟨_,aj (aj aN),?_⟩
  have e:(if x <0 then -x else x)=((Int.gcd a b:Nat):Int):=by rw [← hg,Int.gcd_zero_right];split<;>omega
  rw [e]
  exact h
def dO:FS:=fun ls post=>(∃i:Int,ls=[.d (.int i)]∧post (.d (.bl true)) ls)∨∃d:D,ls=[.d d]∧(∀i,d≠.int i)∧post (.d (.bl false)) ls
def g4:W Fl:=(wRet (jq (wUn (fP "int") (wVar 0)) (w8 (aI (wUn (fP "bool") (wVar 0))))))
theorem qO:∀ls post,ls.length=1→dO ls post→g4 (ls++List.replicate 0 .un) (a7 ls post):=by
 rintro ls post - (⟨i,rfl,h⟩|⟨d,rfl,hd,h⟩)
 ·
  unfold g4
  walk_at "w"
  exact ⟨_,aj aN,h⟩
 ·
  unfold g4
  cases d with
  | int i=>exact absurd rfl (hd i)
  | _=>walk_at "w"; exact ⟨_,aj aN,h⟩
def bN:FS:=fun ls post=>∃(d:D) (n:Int),ls=[.d d,.d (.int n)]∧post (.d (.bl (hG d n))) ls
def cH:W Fl:=(wRet (jq (aP dO (aVal (wVar 0) aNil)) (nG opLe opLt (wC (.int 0)) (wVar 0) (wVar 1))))
theorem i7:∀ls post,ls.length=2→bN ls post→cH (ls++List.replicate 0 .un) (a7 ls post):=by
 rintro ls post - ⟨d,n,rfl,h⟩
 unfold cH
 by_cases hd:∃i,d=.int i
 ·
  obtain ⟨i,rfl⟩:=hd
  have h:post (.d (.bl (decide (0≤i∧i <n)))) [.d (.int i),.d (.int n)]:=h
  walk_at "w"
  refine .inl ⟨i,rfl,?_⟩
  walk_at "w"
  by_cases c:0≤i
  ·
   rw [if_pos c]
   have e:decide (0≤i∧i <n)=decide (i <n):=by rw [decide_eq_decide];omega
   rw [e] at h
   exact ⟨_,aj (aj aN),h⟩
  ·
   rw [if_neg c]
   have e:decide (0≤i∧i <n)=false:=decide_eq_false (by omega)
   rw [e] at h
   exact ⟨_,aj (aj aN),h⟩
 ·
  have e:hG d n=false:=by
   unfold hG
   split
   ·
    exact absurd ⟨_,rfl⟩ hd
   ·
    rfl
  rw [e] at h
  walk_at "w"
  refine .inr ⟨d,rfl,fun i e=>hd ⟨i,e⟩,?_⟩
  walk_at "w"
  exact ⟨_,aj (aj aN),h⟩
def twoB:D→Bool
 | .tup [.int _,.int _]=>true
 | _=>false
theorem Dw {d:D} (h:twoB d=true):∃i j,d=.tup [.int i,.int j]:=by
 unfold twoB at h
 split at h
 ·
  exact ⟨_,_,rfl⟩
 ·
  cases h
theorem Fz (d:D):(∃i j,d=.tup [.int i,.int j])∨(∀i j,d≠.tup [.int i,.int j]):=by
 cases h:twoB d with
 | true=>exact .inl (Dw h)
 | false=>exact .inr fun i j e=>by subst e;cases h
def cI:FS:=fun ls post=>(∃i j:Int,ls=[.d (.tup [.int i,.int j])]∧post (.d (.bl true)) ls)∨∃d:D,ls=[.d d]∧(∀i j,d≠.tup [.int i,.int j])∧post (.d (.bl false)) ls
def b8:W Fl:=(wRet (jq (wUn (fP "tuple") (wVar 0)) (jq (wBin opEq (aL cz (aVal (wVar 0) aNil)) (wC (.int 2))) (jq (aP dO (aVal (wBin opIx (wVar 0) (wC (.int 0))) aNil)) (aP dO (aVal (wBin opIx (wVar 0) (wC (.int 1))) aNil))))))
theorem jM:∀ls post,ls.length=1→cI ls post→b8 (ls++List.replicate 0 .un) (a7 ls post):=by
 rintro ls post - (⟨i,j,rfl,h⟩|⟨d,rfl,hd,h⟩)
 ·
  unfold b8
  walk_at "w"
  refine .inl ⟨_,rfl,?_⟩
  walk_at "w"
  refine .inl ⟨_,rfl,?_⟩
  walk_at "w"
  exact ⟨_,aj aN,h⟩
 ·
  unfold b8
  have fin:∀b:Bool,b=false→a7 [.d d] post (.rt (.d (.bl b))) [.d d]:=fun b hb=>by subst hb;exact ⟨_,aj aN,h⟩
  cases d with
  | tup xs =>
   match xs,hd with
   | [x,y],hd =>
    walk_at "w"
    have wh:∀z:D,(∃i,z=.int i)∨(∀i,z≠.int i):=fun z=>by cases z<;>simp
    rcases wh x with ⟨i,rfl⟩|hx
    ·
     refine .inl ⟨_,rfl,?_⟩
     walk_at "w"
     rcases wh y with ⟨j,rfl⟩|hy
     ·
      exact absurd rfl (hd i j)
     ·
      refine .inr ⟨_,rfl,hy,?_⟩
      walk_at "w"
      exact fin _ rfl
    ·
     refine .inr ⟨_,rfl,hx,?_⟩
     walk_at "w"
     exact fin _ rfl
   | [],_=>walk_at "w"; exact fin _ rfl
   | [x],_=>walk_at "w"; exact fin _ rfl
   | x::y::z::r,_ =>
    walk_at "w"
    have e:¬(((r.length+1+1+1:Nat):Int)=2):=by omega
    simp only [e,decide_false]
    exact fin _ rfl
  | _=>walk_at "w"; exact fin _ rfl
def i8:FS:=fun ls post=>∃d:D,ls=[.d d]∧post (.d (.bl (ratB d))) ls
def g6:W Fl:=(wRet (jq (aP cI (aVal (wVar 0) aNil)) (jq (wBin opGe (wBin opIx (wVar 0) (wC (.int 1))) (wC (.int 1))) (wBin opEq (aP bM (aVal (wBin opIx (wVar 0) (wC (.int 0))) (aVal (wBin opIx (wVar 0) (wC (.int 1))) aNil))) (wC (.int 1))))))
theorem qP:∀ls post,ls.length=1→i8 ls post→g6 (ls++List.replicate 0 .un) (a7 ls post):=by
 rintro ls post - ⟨d,rfl,h⟩
 by_cases hd:∃i j,d=.tup [.int i,.int j]
 ·
  obtain ⟨i,j,rfl⟩:=hd
  unfold g6
  walk_at "w"
  refine .inl ⟨_,_,rfl,?_⟩
  walk_at "w"
  have e:ratB (.tup [.int i,.int j])=(decide (1≤j) && decide ((Int.gcd i j:Int)=1)):=rfl
  rw [e] at h
  split
  ·
   rename_i hj
   refine ⟨_,_,rfl,?_⟩
   walk_at "w"
   have hj':(1:Int)≤j:=hj
   rw [decide_eq_true hj',Bool.true_and] at h
   exact ⟨_,aj aN,h⟩
  ·
   rename_i hj
   have hj':¬(1:Int)≤j:=hj
   rw [decide_eq_false hj',Bool.false_and] at h
   exact ⟨_,aj aN,h⟩
 ·
  have hn:∀i j,d≠.tup [.int i,.int j]:=fun i j e=>hd ⟨i,j,e⟩
  rw [kr hn] at h
  unfold g6
  walk_at "w"
  refine .inr ⟨_,rfl,hn,?_⟩
  walk_at "w"
  exact ⟨_,aj aN,h⟩
def jN:FS:=fun ls post=>∃t b:Int,ls=[.d (.int t),.d (.int b)]∧b≠0∧b.natAbs <2 ^ 9000∧post (.d (frD (Rat.divInt t b))) ls
def oW:W Fl:=(wSeq (wSet 2 (wFrz (aP bM (aVal (wVar 0) (aVal (wVar 1) aNil)))))
  (wSeq (wIf (aI (wBin opLt (wVar 1) (wC (.int 0)))) (wSet 2 (wUn rT (wVar 2))) bq)
  (wRet (wTup (aVal (wBin m6 (wVar 0) (wVar 2)) (aVal (wBin m6 (wVar 1) (wVar 2)) aNil))))))
theorem wd:∀ls post,ls.length=2→jN ls post→oW (ls++List.replicate 1 .un) (a7 ls post):=by
 rintro ls post - ⟨t,b,rfl,hb,hz,h⟩
 unfold oW
 walk_at "w"
 refine ⟨t,b,rfl,?_⟩
 walk_at "w"
 have h1:=uq (t:=t) hb
 have h2:=Nat.lt_of_le_of_lt (ur (t:=t) hb) hz
 have fin:∀{g:Int} {ρ:Ev},g=bX t b→g≠0∧g.natAbs <2 ^ 9000∧g≠0∧g.natAbs <2 ^ 9000∧2≤sizeLine∧a7 [.d (.int t),.d (.int b)] post (.rt (.d (.tup [.int (t.fdiv g),.int (b.fdiv g)]))) ρ:=fun {g ρ} e=>by
  have e1:g≠0:=by rw [e];exact h1
  have e2:g.natAbs <2 ^ 9000:=by rw [e];exact h2
  refine ⟨e1,e2,e1,e2,by decide,_,aj (aj aN),?_⟩
  rw [uJ hb e]
  exact h
 split
 ·
  rename_i hlt
  exact fin (by simp [bX,hlt])
 ·
  rename_i hlt
  exact fin (by simp [bX,hlt])
def oX:FS:=fun ls post=>∃p q:Rat,ls=[.d (frD p),.d (frD q)]∧RB 400000 p∧RB 400000 q∧p.den*q.den <2 ^ 9000∧post (.d (frD (p+q))) ls
def yX:W Fl:=(wRet (aP jN (aVal (wFrz (wBin bH (wBin bf (wBin opIx (wVar 0) (wC (.int 0))) (wBin opIx (wVar 1) (wC (.int 1)))) (wBin bf (wBin opIx (wVar 1) (wC (.int 0))) (wBin opIx (wVar 0) (wC (.int 1)))))) (aVal (wFrz (wBin bf (wBin opIx (wVar 0) (wC (.int 1))) (wBin opIx (wVar 1) (wC (.int 1))))) aNil))))
theorem A6:∀ls post,ls.length=2→oX ls post→yX (ls++List.replicate 0 .un) (a7 ls post):=by
 rintro ls post - ⟨p,q,rfl,hp,hq,hz,h⟩
 unfold yX
 simp only [frD]
 walk_at "w"
 refine ⟨hp.bn (by decide),hq.bd (by decide),hq.bn (by decide),hp.bd (by decide),hp.bd (by decide),hq.bd (by decide),_,_,rfl,oy p q,by rw [lR];exact hz,_,aj (aj aN),?_⟩
 rw [uu]
 exact h
theorem A7 {p q:Rat} {post:L→List L→Prop} (hp:RB 4400 p) (hq:RB 4400 q) (h:post (.d (frD (p+q))) [.d (frD p),.d (frD q)]):oX [.d (frD p),.d (frD q)] post :=
 ⟨p,q,rfl,hp.mono (by decide),hq.mono (by decide),Nat.lt_of_lt_of_le (bJ hp.2 hq.2) (Nat.pow_le_pow_right (by decide) (by decide)),h⟩
def jO:FS:=fun ls post=>∃p q:Rat,ls=[.d (frD p),.d (frD q)]∧RB 400000 p∧RB 400000 q∧p.den*q.den <2 ^ 9000∧post (.d (frD (p - q))) ls
def tI:W Fl:=(wRet (aP jN (aVal (wBin fO (wBin bf (wBin opIx (wVar 0) (wC (.int 0))) (wBin opIx (wVar 1) (wC (.int 1)))) (wBin bf (wBin opIx (wVar 1) (wC (.int 0))) (wBin opIx (wVar 0) (wC (.int 1))))) (aVal (wFrz (wBin bf (wBin opIx (wVar 0) (wC (.int 1))) (wBin opIx (wVar 1) (wC (.int 1))))) aNil))))
theorem yY:∀ls post,ls.length=2→jO ls post→tI (ls++List.replicate 0 .un) (a7 ls post):=by
 rintro ls post - ⟨p,q,rfl,hp,hq,hz,h⟩
 unfold tI
 simp only [frD]
 walk_at "w"
 refine ⟨hp.bn (by decide),hq.bd (by decide),hq.bn (by decide),hp.bd (by decide),hp.bd (by decide),hq.bd (by decide),_,_,rfl,oy p q,by rw [lR];exact hz,_,aj (aj aN),?_⟩
 rw [Bo]
 exact h
theorem qQ {p q:Rat} {post:L→List L→Prop} (hp:RB 4400 p) (hq:RB 4400 q) (h:post (.d (frD (p - q))) [.d (frD p),.d (frD q)]):jO [.d (frD p),.d (frD q)] post :=
 ⟨p,q,rfl,hp.mono (by decide),hq.mono (by decide),Nat.lt_of_lt_of_le (bJ hp.2 hq.2) (Nat.pow_le_pow_right (by decide) (by decide)),h⟩
def jP:FS:=fun ls post=>∃p q:Rat,ls=[.d (frD p),.d (frD q)]∧RB 400000 p∧RB 400000 q∧post (.d (.bl (decide (p <q)))) ls
def tJ:W Fl:=(wRet (wBin opLt (wBin bf (wBin opIx (wVar 0) (wC (.int 0))) (wBin opIx (wVar 1) (wC (.int 1)))) (wBin bf (wBin opIx (wVar 1) (wC (.int 0))) (wBin opIx (wVar 0) (wC (.int 1))))))
theorem yZ:∀ls post,ls.length=2→jP ls post→tJ (ls++List.replicate 0 .un) (a7 ls post):=by
 rintro ls post - ⟨p,q,rfl,hp,hq,h⟩
 unfold tJ
 walk_at "w"
 refine ⟨hp.bn (by decide),hq.bd (by decide),hq.bn (by decide),hp.bd (by decide),_,aj (aj aN),?_⟩
 rw [EW]
 exact h
def mI:FS:=fun ls post=>∃p q:Rat,ls=[.d (frD p),.d (frD q)]∧RB 400000 p∧RB 400000 q∧post (.d (frD (if q <p then q else p))) ls
def oY:W Fl:=(wRet (wIfE (aI (aP jP (aVal (wVar 1) (aVal (wVar 0) aNil)))) (wVar 1) (wVar 0)))
theorem we:∀ls post,ls.length=2→mI ls post→oY (ls++List.replicate 0 .un) (a7 ls post):=by
 rintro ls post - ⟨p,q,rfl,hp,hq,h⟩
 unfold oY
 walk_at "w"
 refine ⟨q,p,rfl,hq,hp,?_⟩
 walk_at "w"
 split
 ·
  rename_i hl
  rw [if_pos hl] at h
  exact ⟨_,aj (aj aN),h⟩
 ·
  rename_i hl
  rw [if_neg hl] at h
  exact ⟨_,aj (aj aN),h⟩
def jQ:FS:=fun ls post=>∃d:D,ls=[.d d]∧post (.d (.bl (wayB d))) ls
def oZ:W Fl:=(wRet (jq (wUn (fP "str") (wVar 0)) (wBin (rZ false) (wVar 0) (wTup (aVal (wC (.str "on")) (aVal (wC (.str "back")) aNil))))))
theorem wg:∀ls post,ls.length=1→jQ ls post→oZ (ls++List.replicate 0 .un) (a7 ls post):=by
 rintro ls post - ⟨d,rfl,h⟩
 unfold oZ
 cases d with
 | str z =>
  walk_at "w"
  rw [yP]
  exact ⟨by decide,rfl,rfl,_,aj aN,h⟩
 | _ =>
  walk_at "w"
  exact ⟨_,aj aN,h⟩
def g7:FS:=fun ls post=>∃(R:Ring) (k:Nat) (w:Bool) (hk:k <R.asks.length),ls=[.d (aH R),.d (.int k),.d (.str (wayS w))]∧R.Ok∧∀c,post (.own c ((wayL R.n R.asks[k] w).map fun (t:Nat)=>D.int (t:Int))) ls
def mJ:W L:=(wBin c8 (wBin fO (wBin fO (wVar 1) (wC (.int 1))) (wVar 0)) (wVar 2))
def mK:W L:=(wBin c8 (wBin bH (wVar 1) (wVar 0)) (wVar 2))
def mL:W Fl:=(wRet (og 1 [4,3] (p5 (wBin c8 (wBin fO (wVar 4) (wVar 5)) (wVar 3))) (cj 0) oe mJ))
def mM:W Fl:=(wSeq (wIf (aI (wBin opEq (wVar 2) (wC (.str "on")))) (wRet (og 1 [4,3] (p5 (wBin c8 (wBin fO (wVar 5) (wVar 4)) (wVar 3))) (cj 0) oe mK)) bq)
  mL)
def mN:W Fl:=(wSeq (wSet 5 (wBin opIx (wBin opIx (wBin opIx (wVar 0) (wC (.int 1))) (wVar 1)) (wC (.int 2))))
  mM)
def mO:W Fl:=(wSeq (wSet 4 (wBin opIx (wBin opIx (wBin opIx (wVar 0) (wC (.int 1))) (wVar 1)) (wC (.int 1))))
  mN)
def mP:W Fl:=(wSeq (wSet 3 (wFrz (aL cz (aVal (wBin opIx (wVar 0) (wC (.int 0))) aNil))))
  mO)
theorem tK:∀ls post,ls.length=3→g7 ls post→mP (ls++List.replicate 3 .un) (a7 ls post):=by
 rintro ls post - ⟨R,k,w,hk,rfl,hR,h⟩
 have ha:=hR.ask _ (List.getElem_mem hk)
 have h1:=ha.one
 have h2:=ha.other
 have hlo:=hR.lo
 have hhi:=hR.hi
 unfold mP
 walk_at "w"
 unfold mO
 walk_at "w"
 refine ⟨_,bK hk,?_⟩
 walk_at "w"
 unfold mN
 walk_at "w"
 refine ⟨_,bK hk,?_⟩
 walk_at "w"
 unfold mM
 walk_at "w"
 have f1:=yv h1 h2
 have f2:=yv h2 h1
 have b1:=Nat.mod_lt (R.asks[k].other+R.n - R.asks[k].one) (y:=R.n) (by omega)
 have b2:=Nat.mod_lt (R.asks[k].one+R.n - R.asks[k].other) (y:=R.n) (by omega)
 split
 ·
  rename_i hw
  subst hw
  rw [f1]
  refine ⟨by omega,⟨by omega,by omega⟩,?_⟩
  rw [jG,Int.toNat_natCast]
  refine ⟨by rw [List.length_map,List.length_range];exact Nat.le_trans (show _≤12 by omega) (by decide),?_⟩
  refine lQ (h:=fun s=>D.int (((R.asks[k].one+s) % R.n:Nat):Int)) _ _ _ (fun s hs Q q=>?_) fun l'=>?_
  ·
   unfold mK
   walk_at "w"
   refine ⟨by omega,?_⟩
   rw [uN]
   exact q
  ·
   walk_at "w"
   intro c
   refine ⟨_,aj (aj (aj aN)),?_⟩
   have:=h c
   simp only [wayL,onL,if_true,List.map_map] at this
   exact this
 ·
  rename_i hw
  have hw:w=false:=by simpa using hw
  subst hw
  unfold mL
  walk_at "w"
  rw [f2]
  refine ⟨by omega,⟨by omega,by omega⟩,?_⟩
  rw [jG,Int.toNat_natCast]
  refine ⟨by rw [List.length_map,List.length_range];exact Nat.le_trans (show _≤12 by omega) (by decide),?_⟩
  refine lQ (h:=fun s=>D.int (((R.asks[k].one+R.n - 1 - s) % R.n:Nat):Int)) _ _ _ (fun s hs Q q=>?_) fun l'=>?_
  ·
   unfold mJ
   walk_at "w"
   refine ⟨by omega,?_⟩
   have hs:=List.mem_range.mp hs
   rw [AL (by omega) (by omega)]
   exact q
  ·
   walk_at "w"
   intro c
   refine ⟨_,aj (aj (aj aN)),?_⟩
   have:=h c
   simp only [wayL,my,Bool.false_eq_true,if_false,List.map_map] at this
   exact this
def cP:FS:=fun ls post=>∃(p am:Rat) (w:Bool),ls=[.d (frD p),.d (.str (wayS w)),.d (frD am)]∧RB 4400 p∧RB 4400 am∧post (.d (frD (bhQ p w am))) ls
def fk:W Fl:=(wRet (wIfE (aI (wBin opEq (wVar 1) (wC (.str "on")))) (aP oX (aVal (wVar 0) (aVal (wVar 2) aNil))) (aP jO (aVal (wVar 0) (aVal (wVar 2) aNil)))))
theorem mQ:∀ls post,ls.length=3→cP ls post→fk (ls++List.replicate 0 .un) (a7 ls post):=by
 rintro ls post - ⟨p,am,w,rfl,hp,ha,h⟩
 unfold fk
 unfold bhQ at h
 walk_at "w"
 cases w with
 | true =>
  walk_at "w"
  exact A7 hp ha ⟨_,aj (aj (aj aN)),h⟩
 | false =>
  walk_at "w"
  exact qQ hp ha ⟨_,aj (aj (aj aN)),h⟩
def gz:FS:=fun ls post=>∃(ps:List Rat) (s:dU),ls=[.d (.lst (ps.map frD)),.d (slD s)]∧ps.length≤20∧s.k <ps.length∧s.l <ps.length∧s.k≠s.l∧(∀p∈ps,RB 4000 p)∧RB 4000 s.am∧∀a,post (.own a ((slL ps s).map frD)) ls
def i9:W Fl:=(wSeq (wSet 2 (aL jv (aVal (wVar 0) aNil)))
  (wSeq (n6 2 (wBin opIx (wVar 1) (wC (.int 0))) (aP cP (aVal (cA 2 (wIxV 2 (wBin opIx (wVar 1) (wC (.int 0)))) (wBin opIx (wVar 2) (wBin opIx (wVar 1) (wC (.int 0))))) (aVal (wBin opIx (wVar 1) (wC (.int 1))) (aVal (wBin opIx (wVar 1) (wC (.int 4))) aNil)))))
  (wSeq (n6 2 (wBin opIx (wVar 1) (wC (.int 2))) (aP cP (aVal (cA 2 (wIxV 2 (wBin opIx (wVar 1) (wC (.int 2)))) (wBin opIx (wVar 2) (wBin opIx (wVar 1) (wC (.int 2))))) (aVal (wBin opIx (wVar 1) (wC (.int 3))) (aVal (wBin opIx (wVar 1) (wC (.int 4))) aNil)))))
  (wRet (lz 2)))))
theorem y1 {n k:Nat} (h:k <n):ixN n (k:Int)=some k:=by
 unfold ixN
 rw [if_pos (by omega),if_pos (by omega)]
 simp
theorem o5:∀ls post,ls.length=2→gz ls post→i9 (ls++List.replicate 1 .un) (a7 ls post):=by
 rintro ls post - ⟨ps,s,rfl,h20,hk,hl,hkl,hp,ha,h⟩
 unfold i9
 simp only [slD]
 walk_at "w"
 have r1:=hp _ (List.getElem_mem hk)
 have r2:=hp _ (List.getElem_mem hl)
 refine fun a=>⟨_,bK hk,ps[s.k],s.am,s.kw,rfl,r1.mono (by decide),ha.mono (by decide),?_⟩
 walk_at "w"
 have hl':s.l <(ps.set s.k (bhQ ps[s.k] s.kw s.am)).length:=by rw [List.length_set];exact hl
 have e1:(ps.set s.k (bhQ ps[s.k] s.kw s.am))[s.l]=ps[s.l]:=by rw [List.getElem_set_ne hkl]
 refine ⟨s.k,y1 hk,?_⟩
 rw [← List.map_set]
 refine ⟨_,bK hl',_,s.am,s.lw,rfl,by rw [e1];exact r2.mono (by decide),ha.mono (by decide),?_⟩
 walk_at "w"
 refine ⟨s.l,y1 (by simpa using hl),_,aj (aj aN),?_⟩
 have h:=h a
 unfold slL at h
 rw [cu hk,cu hl',List.map_set] at h
 exact h
def dP:FS:=fun ls post=>∃(R:Ring) (k l:Nat) (kw lw:Bool) (hk:k <R.asks.length) (hl:l <R.asks.length),ls=[.d (aH R),.d (.int (k:Int)),.d (.str (wayS kw)),.d (.int (l:Int)),.d (.str (wayS lw))]∧R.Ok∧post (.d (.bl (sS R.n R.asks[k] kw R.asks[l] lw))) ls
def fK:W L:=(wBin (rZ false) (wVar 0) (wVar 1))
def eA:W Fl:=(wSeq (wSet 5 (wFrz (aP g7 (aVal (wVar 0) (aVal (wVar 3) (aVal (wVar 4) aNil))))))
  (wRet (w8 (aI (aL ED (aVal (wFrz (og 1 [5] (wSrc (aP g7 (aVal (wVar 0) (aVal (wVar 1) (aVal (wVar 2) aNil))))) (cj 0) oe fK)) aNil))))))
theorem lH:∀ls post,ls.length=5→dP ls post→eA (ls++List.replicate 1 .un) (a7 ls post):=by
 rintro ls post - ⟨R,k,l,kw,lw,hk,hl,rfl,hR,h⟩
 unfold eA
 walk_at "w"
 refine ⟨R,l,lw,hl,rfl,hR,fun c=>?_⟩
 walk_at "w"
 refine ⟨R,k,kw,hk,rfl,hR,fun c2=>?_⟩
 walk_at "w"
 have hlen:=C9 (hR.ask _ (List.getElem_mem hk)) kw
 have hhi:=hR.hi
 refine ⟨qG (by omega),lQ (h:=fun t=>.bl (decide (t∈wayL R.n R.asks[l] lw))) (wayL R.n R.asks[k] kw) [] _ (fun t hm Q hq=>?_) fun l' a0=>?_⟩
 ·
  unfold fK
  walk_at "w"
  refine ⟨rfl,by simp [kg],?_⟩
  rw [oG]
  exact hq
 ·
  rw [List.nil_append]
  refine ⟨(wayL R.n R.asks[k] kw).map fun t=>decide (t∈wayL R.n R.asks[l] lw),by rw [List.map_map];rfl,?_⟩
  walk_at "w"
  refine ⟨_,aj (aj (aj (aj (aj aN)))),?_⟩
  unfold sS at h
  simpa [List.any_map] using h
def bY:FS:=fun ls post=>∃(d:D) (n:Nat),ls=[.d d,.d (.int (n:Int))]∧post (.d (.bl (lF n d))) ls
def cf:W Fl:=(wSeq (wIf (wOr (wNot (aI (wUn (fP "tuple") (wVar 0)))) (aI (wBin opNe (aL cz (aVal (wVar 0) aNil)) (wC (.int 5))))) (wRet (wC (.bl false))) bq)
  (wSeq (wIf (wOr (wNot (aI (aP bN (aVal (wBin opIx (wVar 0) (wC (.int 0))) (aVal (wVar 1) aNil))))) (wNot (aI (aP bN (aVal (wBin opIx (wVar 0) (wC (.int 2))) (aVal (wVar 1) aNil)))))) (wRet (wC (.bl false))) bq)
  (wRet (jq (aP jQ (aVal (wBin opIx (wVar 0) (wC (.int 1))) aNil)) (jq (aP jQ (aVal (wBin opIx (wVar 0) (wC (.int 3))) aNil)) (aP i8 (aVal (wBin opIx (wVar 0) (wC (.int 4))) aNil)))))))
theorem gA:∀ls post,ls.length=2→bY ls post→cf (ls++List.replicate 0 .un) (a7 ls post):=by
 rintro ls post - ⟨d,n,rfl,h⟩
 unfold cf
 cases d with
 | tup xs =>
  by_cases h5:xs.length=5
  ·
   obtain ⟨a,b,c,d,e,rfl⟩:=five h5
   rw [oQ] at h
   walk_at "w"
   refine ⟨_,_,rfl,?_⟩
   cases e1:hG a n with
   | false =>
    rw [e1] at h
    walk_at "w"
    exact ⟨_,aj (aj aN),h⟩
   | true =>
    rw [e1,Bool.true_and] at h
    walk_at "w"
    refine ⟨_,_,rfl,?_⟩
    cases e2:hG c n with
    | false =>
     rw [e2] at h
     walk_at "w"
     exact ⟨_,aj (aj aN),h⟩
    | true =>
     rw [e2,Bool.true_and] at h
     walk_at "w"
     refine ⟨_,rfl,?_⟩
     cases e3:wayB b with
     | false =>
      rw [e3] at h
      walk_at "w"
      exact ⟨_,aj (aj aN),h⟩
     | true =>
      rw [e3,Bool.true_and] at h
      walk_at "w"
      refine ⟨_,rfl,?_⟩
      cases e4:wayB d with
      | false =>
       rw [e4] at h
       walk_at "w"
       exact ⟨_,aj (aj aN),h⟩
      | true =>
       rw [e4,Bool.true_and] at h
       walk_at "w"
       exact ⟨_,rfl,_,aj (aj aN),h⟩
  ·
   rw [qH h5] at h
   walk_at "w"
   have:¬((xs.length:Int)=5):=by omega
   simp only [this,not_false_eq_true,decide_true,if_true,ite_true]
   exact ⟨_,aj (aj aN),h⟩
 | _ =>
  rw [vb (by intro xs e;cases e)] at h
  walk_at "w"
  exact ⟨_,aj (aj aN),h⟩
def fm:FS:=fun ls post=>∃(R:Ring) (ps:List Rat) (k:Nat) (w:Bool),ls=[.d (aH R),.d (.lst (ps.map frD)),.d (.int (k:Int)),.d (.str (wayS w))]∧SlOk R ps∧k <ps.length∧post (.d (frD (nsQ R ps k w))) ls
def kG:W Fl:=(wRet (wIfE (aI (wBin opEq (wVar 3) (wC (.str "on")))) (aP jO (aVal (wBin opIx (wBin opIx (wBin opIx (wVar 0) (wC (.int 1))) (wVar 2)) (wC (.int 3))) (aVal (wBin opIx (wVar 1) (wVar 2)) aNil))) (wBin opIx (wVar 1) (wVar 2))))
theorem qR:∀ls post,ls.length=4→fm ls post→kG (ls++List.replicate 0 .un) (a7 ls post):=by
 rintro ls post - ⟨R,ps,k,w,rfl,hS,hk,h⟩
 have hk':k <R.asks.length:=by rw [← hS.len];exact hk
 have r1:=hS.sz_rb hk
 have r2:=hS.rb hk
 rw [g9 hk'] at r1
 rw [cu hk] at r2
 unfold nsQ at h
 rw [g9 hk',cu hk] at h
 unfold kG
 walk_at "w"
 cases w with
 | true =>
  walk_at "w"
  refine ⟨_,bK hk',?_⟩
  walk_at "w"
  refine ⟨_,bK hk,?_⟩
  walk_at "w"
  exact qQ (r1.mono (by decide)) (r2.mono (by decide)) ⟨_,aj (aj (aj (aj aN))),h⟩
 | false =>
  walk_at "w"
  exact ⟨_,bK hk,_,aj (aj (aj (aj aN))),h⟩
def gB:FS:=fun ls post=>∃(R:Ring) (ps:List Rat) (k l:Nat) (kw lw:Bool) (more:List D),ls=[.d (aH R),.d (.lst (ps.map frD)),.d (.tup (.int (k:Int)::.str (wayS kw)::.int (l:Int)::.str (wayS lw)::more))]∧SlOk R ps∧k <ps.length∧l <ps.length∧post (.d (frD (msQ R ps k kw l lw))) ls
def ja:W Fl:=(wRet (aP mI (aVal (wFrz (aP fm (aVal (wVar 0) (aVal (wVar 1) (aVal (wBin opIx (wVar 2) (wC (.int 0))) (aVal (wBin opIx (wVar 2) (wC (.int 1))) aNil)))))) (aVal (wFrz (aP fm (aVal (wVar 0) (aVal (wVar 1) (aVal (wBin opIx (wVar 2) (wC (.int 2))) (aVal (wBin opIx (wVar 2) (wC (.int 3))) aNil)))))) aNil))))
theorem o6:∀ls post,ls.length=3→gB ls post→ja (ls++List.replicate 0 .un) (a7 ls post):=by
 rintro ls post - ⟨R,ps,k,l,kw,lw,more,rfl,hS,hk,hl,h⟩
 unfold ja
 walk_at "w"
 refine ⟨R,ps,k,kw,rfl,hS,hk,?_⟩
 walk_at "w"
 refine ⟨R,ps,l,lw,rfl,hS,hl,?_⟩
 walk_at "w"
 exact ⟨_,_,rfl,(lD hS hk kw).mono (by decide),(lD hS hl lw).mono (by decide),_,aj (aj (aj aN)),h⟩
def isSl (R:Ring) (ps:List Rat) (s:dU):Bool:=!decide (s.k=s.l) && (sS R.n (cq R s.k) s.kw (cq R s.l) s.lw && (decide (0 <s.am) && !decide (msQ R ps s.k s.kw s.l s.lw <s.am)))
def jb:FS:=fun ls post=>∃(R:Ring) (ps:List Rat) (d:D),ls=[.d (aH R),.d (.lst (ps.map frD)),.d d]∧SlOk R ps∧(∀s,slOf d=some s→s.k <ps.length→s.l <ps.length→RB 400000 s.am)∧post (.d (.bl (slT R ps d))) ls
def kH:W Fl:=(wSeq (wIf (wOr (wNot (aI (aP bY (aVal (wVar 2) (aVal (wFrz (aL cz (aVal (wBin opIx (wVar 0) (wC (.int 1))) aNil))) aNil))))) (aI (wBin opEq (wBin opIx (wVar 2) (wC (.int 0))) (wBin opIx (wVar 2) (wC (.int 2)))))) (wRet (wC (.bl false))) bq)
  (wSeq (wIf (wNot (aI (aP dP (aVal (wVar 0) (aVal (wBin opIx (wVar 2) (wC (.int 0))) (aVal (wBin opIx (wVar 2) (wC (.int 1))) (aVal (wBin opIx (wVar 2) (wC (.int 2))) (aVal (wBin opIx (wVar 2) (wC (.int 3))) aNil)))))))) (wRet (wC (.bl false))) bq)
  (wRet (jq (aP jP (aVal (wC (.tup [(.int 0),(.int 1)])) (aVal (wBin opIx (wVar 2) (wC (.int 4))) aNil))) (w8 (aI (aP jP (aVal (wFrz (aP gB (aVal (wVar 0) (aVal (wVar 1) (aVal (wVar 2) aNil))))) (aVal (wBin opIx (wVar 2) (wC (.int 4))) aNil)))))))))
theorem GH {R:Ring} {ps:List Rat} (h:SlOk R ps) {k l:Nat} (hk:k <ps.length) (hl:l <ps.length) (kw lw:Bool):RB 400000 (msQ R ps k kw l lw):=by
 rcases (h.ms hk hl kw lw).2.2.2 with e|e
 ·
  rw [e];exact (lD h hk _).mono (by decide)
 ·
  rw [e];exact (lD h hl _).mono (by decide)
theorem qS:∀ls post,ls.length=3→jb ls post→kH (ls++List.replicate 0 .un) (a7 ls post):=by
 rintro ls post - ⟨R,ps,d,rfl,hS,ha,h⟩
 unfold kH
 walk_at "w"
 refine ⟨_,R.asks.length,rfl,?_⟩
 cases ef:lF R.asks.length d with
 | false =>
  have e:slT R ps d=false:=by
   unfold lF at ef
   unfold slT
   rw [hS.len]
   split
   ·
    rename_i s e
    rw [e] at ef
    have ef:(decide (s.k <R.asks.length) && decide (s.l <R.asks.length))=false:=ef
    rw [← Bool.and_assoc,ef]
    rfl
   ·
    rfl
  rw [e] at h
  walk_at "w"
  exact ⟨_,aj (aj (aj aN)),h⟩
 | true =>
 obtain ⟨s,es,hk',hl'⟩:∃s,slOf d=some s∧s.k <R.asks.length∧s.l <R.asks.length:=by
  unfold lF at ef
  split at ef
  ·
   rename_i s e
   rw [Bool.and_eq_true,decide_eq_true_eq,decide_eq_true_eq] at ef
   exact ⟨s,e,ef.1,ef.2⟩
  ·
   cases ef
 have hk:s.k <ps.length:=by rw [hS.len];exact hk'
 have hl:s.l <ps.length:=by rw [hS.len];exact hl'
 have ha2:=ha s es hk hl
 have:=sV es
 subst this
 rw [BD hk hl] at h
 unfold slB at h
 rw [lW hk',lW hl'] at h
 simp only [slD] at h ⊢
 walk_at "w"
 by_cases e:s.k=s.l
 ·
  rw [if_pos (by omega)]
  rw [decide_eq_true e] at h
  exact ⟨_,aj (aj (aj aN)),h⟩
 rw [if_neg (by omega)]
 rw [decide_eq_false e] at h
 refine ⟨R,s.k,s.l,s.kw,s.lw,hk',hl',rfl,hS.ok,?_⟩
 walk_at "w"
 cases e1:sS R.n R.asks[s.k] s.kw R.asks[s.l] s.lw with
 | false =>
  rw [e1] at h
  walk_at "w"
  exact ⟨_,aj (aj (aj aN)),h⟩
 | true =>
  rw [e1] at h
  walk_at "w"
  refine ⟨0,s.am,rfl,RB.zero.mono (by decide),ha2,?_⟩
  walk_at "w"
  by_cases e2:0 <s.am
  ·
   rw [decide_eq_true e2] at h
   rw [if_pos e2]
   refine ⟨R,ps,s.k,s.l,s.kw,s.lw,_,rfl,hS,hk,hl,?_⟩
   walk_at "w"
   refine ⟨_,s.am,rfl,GH hS hk hl _ _,ha2,?_⟩
   walk_at "w"
   refine ⟨_,aj (aj (aj aN)),?_⟩
   simpa using h
  ·
   rw [decide_eq_false e2] at h
   rw [if_neg e2]
   exact ⟨_,aj (aj (aj aN)),h⟩
def stD (ps:List Rat) (d:D):List Rat:=match slOf d with
 | some s=>slL ps s
 | none=>ps
def runD (R:Ring) (ps:List Rat) (ss:List D):List Rat:=ss.foldl stD ps
def badD (R:Ring):Nat→List Rat→List D→Option Nat
 | _,_,[]=>none
 | i,ps,d::ss=>if slT R ps d then badD R (i+1) (stD ps d) ss else some i
def eK:FSX:=fun ds post xp=>∃(R:Ring) (ps:List Rat) (ss:List D) (D:Nat),ds=[aH R,.lst (ps.map frD),.lst ss]∧SlOk R ps∧ss.length≤99∧(∀d∈ss,∀s,slOf d=some s→RB 4000 s.am∧s.am.den∣D)∧(0 <D∧D <2 ^ 1500∧(∀a∈R.asks,a.size.den∣D)∧(∀p∈ps,p.den∣D)) ∧
 (badD R 0 ps ss=none→∀ a,post (.own a ((runD R ps ss).map frD)))∧∀ i,badD R 0 ps ss=some i→xp ⟨"NoSlide",["number"],[.int (i:Int)]⟩
def mR (xp:Xc→Prop):W Fl:=(wSeq (wIf (wNot (aI (aP jb (aVal (wVar 0) (aVal (wVar 3) (aVal (wVar 5) aNil)))))) (qk "NoSlide" ["number"] xp (aVal (wVar 4) aNil)) bq)
  (wSet 3 (aP gz (aVal (wVar 3) (aVal (wVar 5) aNil)))))
def mS (xp:Xc→Prop):W Fl:=(wSeq (wIf (wNot (aI (wUn (fP "list") (wVar 2)))) (qk "NoSlide" ["number"] xp (aVal (wC .non) aNil)) bq)
  (wSeq (wSet 3 (aL jv (aVal (wVar 1) aNil)))
  (wSeq (wFor (Co (wVar 2)) (lA [4,5]) (mR xp))
  (wRet (lz 3)))))
theorem y2 {R:Ring} {ps:List Rat} {s:dU} (h:SlOk R ps) (hk:s.k <ps.length) (hl:s.l <ps.length) (e:slB R ps s=true):SlDo R ps s:=by
 unfold slB at e
 simp only [Bool.and_eq_true,Bool.not_eq_true',decide_eq_false_iff_not,decide_eq_true_eq] at e
 obtain ⟨e1,_,e3,e4⟩:=e
 obtain ⟨m1,m2,m3,_⟩:=h.ms hk hl s.kw s.lw
 have le:=Rat.not_lt.mp e4
 exact ⟨hk,hl,e1,Rat.le_of_lt e3,Rat.le_trans le m2,Rat.le_trans le m3⟩
structure SlD (R:Ring) (ps:List Rat) (D:Nat):Prop where
 ok:SlOk R ps
 d0:0 <D
 d1:D <2 ^ 1500
 da:∀a∈R.asks,a.size.den∣D
 dp:∀p∈ps,p.den∣D
theorem SlD.slid {R:Ring} {ps:List Rat} {D:Nat} {s:dU} (h:SlD R ps D) (hs:SlDo R ps s) (dm:s.am.den∣D):SlD R (slL ps s) D:=by
 have dk:∀k,k <ps.length→(ps.getD k 0).den∣D:=fun k hk=>h.dp _ (by rw [cu hk];exact List.getElem_mem hk)
 have db:∀(k:Nat) (w:Bool),k <ps.length→(bhQ (ps.getD k 0) w s.am).den∣D:=fun k w hk=>by
  unfold bhQ
  cases w
  ·
   exact yO h.d0 (dk k hk) dm
  ·
   exact sT h.d0 (dk k hk) dm
 have dp':∀p∈slL ps s,p.den∣D:=fun p hp=>by
  obtain ⟨i,hi,rfl⟩:=List.getElem_of_mem hp
  rw [← cu hi,BA hs.k hs.l hs.kl]
  rw [oO] at hi
  split
  ·
   exact db _ _ hs.k
  ·
   split
   ·
    exact db _ _ hs.l
   ·
    exact dk i hi
 refine ⟨⟨h.ok.ok,by rw [oO];exact h.ok.len,fun i hi=>?_,D,h.d0,h.d1,h.da,dp'⟩,h.d0,h.d1,h.da,dp'⟩
 rw [oO] at hi
 rw [BA hs.k hs.l hs.kl]
 split
 ·
  rename_i e;subst e
  exact BB (h.ok.lo _ hs.k).1 (h.ok.lo _ hs.k).2 hs.nn hs.kn
 ·
  split
  ·
   rename_i e;subst e
   exact BB (h.ok.lo _ hs.l).1 (h.ok.lo _ hs.l).2 hs.nn hs.ln
  ·
   exact h.ok.lo i hi
theorem BF {R:Ring} {ps:List Rat} (h:SlOk R ps):∀p∈ps,RB 4000 p:=fun p hp=>by
 obtain ⟨i,hi,rfl⟩:=List.getElem_of_mem hp
 rw [← cu hi]
 exact (h.rb hi).mono (by decide)
theorem y3 {R:Ring} {ss:List D} {j:Nat} {qs:List Rat} (h:j <ss.length):badD R j qs (ss.drop j)=if slT R qs ss[j] then badD R (j+1) (stD qs ss[j]) (ss.drop (j+1)) else some j:=by
 rw [List.drop_eq_getElem_cons h]
 rfl
theorem A8 {ss:List D} {j:Nat} {x:D} (hj:(iM ss)[j]?=some x):∃h:j <ss.length,x=.tup [.int (j:Int),ss[j]]:=by
 have hj':j <ss.length:=by
  have:=(List.getElem?_eq_some_iff.mp hj).1
  simpa [iM] using this
 refine ⟨hj',?_⟩
 have:(iM ss)[j]?=some (.tup [.int (j:Int),ss[j]]):=by simp [iM,hj']
 rw [this] at hj
 exact (Option.some.inj hj).symm
theorem tM:∀ds post xp,ds.length=3→eK ds post xp→mS xp (ds.map .d++List.replicate 3 .un) (okX post):=by
 rintro ds post xp - ⟨R,ps,ss,D,rfl,hS,h20,hs,⟨d0,d1,da,dp⟩,h,hx⟩
 unfold mS
 walk_at "w"
 refine fun a0=>gX _ (fun j ρ=>∃(qs:List Rat) (a:Addr) (x4 x5:L),ρ=[.d (aH R),.d (.lst (ps.map frD)),.d (.lst ss),.own a (qs.map frD),x4,x5]∧SlD R qs D∧qs.length=ps.length∧badD R j qs (ss.drop j)=badD R 0 ps ss∧runD R qs (ss.drop j)=runD R ps ss) _ ⟨ps,_,_,_,rfl,⟨hS,d0,d1,da,dp⟩,rfl,rfl,rfl⟩ ?_ ?_
 ·
  rintro j x ρ hj ⟨qs,a,x4,x5,rfl,hD,hl,hb,hr⟩ Q h1 h2 h3' h4
  obtain ⟨hj',ex⟩:=A8 hj
  subst ex
  have hm:=List.getElem_mem hj'
  have s3:=hs _ hm
  rw [y3 hj'] at hb
  have hr':runD R (stD qs ss[j]) (ss.drop (j+1))=runD R ps ss:=by
   rw [← hr,List.drop_eq_getElem_cons hj']
   rfl
  unfold mR
  walk_at "w"
  refine ⟨R,qs,ss[j],rfl,hD.ok,fun s e _ _=>(s3 s e).1.mono (by decide),?_⟩
  walk_at "w"
  cases e:slT R qs ss[j] with
  | false =>
   rw [e,if_neg (by decide)] at hb
   walk_at "w"
   exact ⟨.inr trivial,by decide,hx j hb.symm⟩
  | true =>
   rw [e,if_pos rfl] at hb
   obtain ⟨s,es,hk,hl',e'⟩:=yT e
   have dd:=y2 hD.ok hk hl' e'
   have es':slOf ss[j]=some s:=by rw [es];exact kx s
   obtain ⟨s4,s5⟩:=s3 s es'
   have est:stD qs ss[j]=slL qs s:=by unfold stD;rw [es']
   rw [est] at hb hr'
   rw [es]
   walk_at "w"
   refine ⟨qs,s,rfl,by rw [hD.ok.len];exact hD.ok.ok.few,hk,hl',dd.kl,BF hD.ok,s4,fun c=>?_⟩
   walk_at "w"
   exact h1 _ ⟨_,_,_,_,rfl,hD.slid dd s5,by rw [oO];exact hl,hb,hr'⟩
 ·
  rintro ρ ⟨qs,a,x4,x5,rfl,hD,hl,hb,hr⟩
  have e:ss.drop (iM ss).length=[]:=by simp [iM]
  rw [e] at hb hr
  walk_at "w"
  have h:=h hb.symm a
  rw [← hr] at h
  exact h
def bE:FS:=fun ls post=>∃(ns:List Int) (k:Int),ls=[.d (.lst (ns.map .int)),.d (.int k)]∧0≤k∧k≤100∧∀a xs,StOk xs→post (.own a xs) ls
def gC:W Fl:=(wSeq (wSet 2 (wC (.int 0)))
  (wSeq (wIf (aI (wBin opLt (wVar 1) (aL cz (aVal (wVar 0) aNil)))) (wSet 2 (wBin opIx (wVar 0) (wVar 1))) bq)
  (wRet (wLst (aVal (wVar 2) (aVal (wBin c8 (wBin bH (wBin bH (wBin c8 (wVar 2) (wC (.int 2147483587))) (wBin bf (wBin bf (wC (.int 48271)) (wVar 1)) (wVar 1))) (wC (.int 13))) (wC (.int 2147483587))) (aVal (wBin opGe (wVar 2) (wBin vD (wC (.int 10)) (wC (.int 18)))) aNil)))))))
theorem ng:∀ls post,ls.length=2→bE ls post→gC (ls++List.replicate 1 .un) (a7 ls post):=by
 rintro ls post - ⟨ns,k,rfl,h0,h1,h⟩
 unfold gC
 have fin:∀(c:Int) (ρ:Ev) (e:ρ=[.d (.lst (ns.map .int)),.d (.int k),.d (.int c)]),∀a:Addr,a7 [.d (.lst (ns.map .int)),.d (.int k)] post (.rt (.own a [.int c,.int ((c.fmod 2147483587+48271*k*k+13).fmod 2147483587),.bl (decide ((10:Int) ^ 18≤c))])) ρ:=fun c ρ e a=>by
  refine ⟨_,aj (aj aN),h a _ ⟨_,_,_,rfl,?_,?_⟩⟩
  ·
   rw [Int.fmod_eq_emod_of_nonneg _ (by decide)];exact Int.emod_nonneg _ (by decide)
  ·
   rw [Int.fmod_eq_emod_of_nonneg _ (by decide)]
   have:=Int.emod_lt_of_pos (c.fmod 2147483587+48271*k*k+13) (b:=2147483587) (by decide)
   omega
 have hb1:bZ 48271:=a5 (by decide)
 have hb2:bZ k:=a5 (Nat.lt_of_le_of_lt (show k.natAbs≤100 by omega) (by decide))
 have hb3:bZ (48271*k):=a5 (Nat.lt_of_le_of_lt (show (48271*k).natAbs≤4827100 by omega) (by decide))
 walk_at "w"
 try rw [List.length_map]
 split
 ·
  rename_i hk
  have hk:k <(ns.length:Int):=by simpa using hk
  have hi:k.toNat <ns.length:=by omega
  refine ⟨.int ns[k.toNat],yb h0 (by rw [List.getElem?_map,List.getElem?_eq_getElem hi];rfl),?_⟩
  exact ⟨by decide,hb1,hb2,hb3,hb2,by decide,by decide,by decide,by decide,by decide,fin _ _ rfl⟩
 ·
  exact ⟨by decide,hb1,hb2,hb3,hb2,by decide,by decide,by decide,by decide,by decide,fin _ _ rfl⟩
def az:FS:=fun ls post=>∃(a:Addr) (xs:List D) (m:Int),ls=[.own a xs,.d (.int m)]∧StOk xs∧0 <m∧m≤10 ^ 60∧∀(r:Int) (ys:List D),StOk ys→0≤r→r <m→post (.d (.int r)) [.own a ys,.d (.int m)]
def fo:W Fl:=(wSeq (n6 0 (wC (.int 1)) (wBin c8 (wBin bH (wBin bf (cA 0 (wIxV 0 (wC (.int 1))) (wBin opIx (wVar 0) (wC (.int 1)))) (wC (.int 39373))) (wC (.int 17))) (wC (.int 2147483647))))
  (wSet 3 (wFrz (wBin bH (wBin bf (wVar 3) (wC (.int 2147483629))) (wBin c8 (wBin bf (cA 0 (wIxV 0 (wC (.int 1))) (wBin opIx (wVar 0) (wC (.int 1)))) (cA 0 (wIxV 0 (wC (.int 1))) (wBin opIx (wVar 0) (wC (.int 1))))) (wC (.int 2147483629)))))))
def jc:W Fl:=(wSeq (wIf (aI (cA 0 (wIxV 0 (wC (.int 2))) (wBin opIx (wVar 0) (wC (.int 2))))) (wSeq (wSet 2 (wBin c8 (cA 0 (wIxV 0 (wC (.int 0))) (wBin opIx (wVar 0) (wC (.int 0)))) (wVar 1)))
  (wSeq (n6 0 (wC (.int 0)) (wBin m6 (cA 0 (wIxV 0 (wC (.int 0))) (wBin opIx (wVar 0) (wC (.int 0)))) (wVar 1)))
  (wSeq (n6 0 (wC (.int 2)) (wBin opGt (cA 0 (wIxV 0 (wC (.int 0))) (wBin opIx (wVar 0) (wC (.int 0)))) (wC (.int 0))))
  (wRet (lz 2))))) bq)
  (wSeq (wSet 3 (wC (.int 0)))
  (wSeq (wFor (p5 (wBin bH (wC (.int 1)) (wBin bf (wC (.int 8)) (aL rX (aVal (wBin opGt (wVar 1) (wBin vD (wC (.int 10)) (wC (.int 6)))) aNil))))) (cj 4) fo)
  (wRet (wBin c8 (wBin m6 (wVar 3) (wC (.int 64))) (wVar 1))))))
theorem qT {a:Addr} {c:Int} {m x2:L} {post:Fl→Ev→Prop}:∀(items:List D) (sd dr:Int) (j:Nat) (x4:L),j+items.length≤100→0≤sd→sd <2147483647→0≤dr→dr <2 ^ (40*j) →
  (∀sd' dr' x',0≤sd'→sd' < 2147483647→0≤dr'→post .nx [.own a [.int c,.int sd',.bl false],m,x2,.d (.int dr'),x']) →
  cB (cj 4) fo items [.own a [.int c,.int sd,.bl false],m,x2,.d (.int dr),x4] post
 | [],sd,dr,j,x4,_,h0,h1,h2,h3,h=>h sd dr x4 h0 h1 h2
 | y::items,sd,dr,j,x4,hl,h0,h1,h2,h3,h=>by
  unfold cB fo
  walk_at "w"
  obtain ⟨r0,r1⟩:=dZ (sd*39373+17) (m:=2147483647) (by decide)
  generalize (sd*39373+17).fmod 2147483647=s' at r0 r1 ⊢
  obtain ⟨q0,q1⟩:=dZ (s'*s') (m:=2147483629) (by decide)
  generalize (s'*s').fmod 2147483629=t' at q0 q1 ⊢
  have hl':j+(items.length+1)≤100:=hl
  have b1:bZ sd:=sy (n:=40) h0 (by omega) (by decide)
  have b2:bZ s':=sy (n:=40) r0 (by omega) (by decide)
  have b3:bZ dr:=sy (n:=40*j) h2 h3 (by omega)
  have b4:bZ 39373:=a5 (by decide)
  have b5:bZ 2147483629:=a5 (by decide)
  refine ⟨b1,b4,by decide,b3,b5,b2,b2,by decide,?_⟩
  refine qT items s' (dr*2147483629+t') (j+1) _ (by omega) r0 r1 (by omega) ?_ h
  have e:(2:Int) ^ (40*(j+1))=2 ^ (40*j)*1099511627776:=by
   rw [Nat.mul_succ,Int.pow_add];rfl
  omega
theorem o7:∀ls post,ls.length=2→az ls post→jc (ls++List.replicate 3 .un) (a7 ls post):=by
 rintro ls post - ⟨a,xs,m,rfl,⟨c,sd,t,rfl,h0,h1⟩,hm,hM,h⟩
 unfold jc
 have hm0:m≠0:=by omega
 have hmz:=qo (by omega) hM
 cases t with
 | true =>
  walk_at "w"
  obtain ⟨r0,r1⟩:=dZ c hm
  exact ⟨hm0,hm0,hmz,_,dj List.mem_cons_self (aj aN),h _ _ ⟨_,_,_,rfl,h0,h1⟩ r0 r1⟩
 | false =>
  walk_at "w"
  refine ⟨by decide,by decide,by decide,a5 (by decide),a5 (by split<;>decide),⟨by split<;>decide,by split<;>decide⟩,?_⟩
  refine qT (c:=c) _ sd 0 0 _ (by simp only [rngD,List.length_map,List.length_range];split<;>decide) h0 h1 (by decide) (by decide) fun sd' dr' x' g0 g1 g2=>?_
  walk_at "w"
  obtain ⟨r0,r1⟩:=dZ (dr'.fdiv 64) hm
  exact ⟨by decide,by decide,hm0,_,dj List.mem_cons_self (aj aN),h _ _ ⟨_,_,_,rfl,g0,g1⟩ r0 r1⟩
def ft:FS:=fun ls post=>∃(a:Addr) (xs:List D) (many:Nat),ls=[.own a xs,.d (.int many)]∧StOk xs∧many≤26 ∧
 ∀(zs:List Str) (c:Addr) (ys:List D),StOk ys→zs.length=many→(∀z∈zs,NmOk z)→zs.Nodup→post (.own c (zs.map .str)) [.own a ys,.d (.int many)]
def ib:W L:=(wBin bH (wBin bH (wSl2 (wVar 1) none (some (wVar 2))) (wBin opIx (wVar 3) (wBin c8 (wBin bH (wVar 4) (wVar 0)) (wC (.int 26))))) (wSl2 (wVar 1) (some (wBin bH (wVar 2) (wC (.int 1)))) none))
def ic:W Fl:=(wRet (og 1 [3,4,2,5] (p5 (wVar 1)) (cj 0) oe ib))
def ie:W Fl:=(wSeq (wSet 5 (wFrz (aZ az 0 0 (aVar 0 (aVal (wC (.int 26)) aNil)))))
  ic)
def ig:W L:=(wBin opIx (wVar 1) (aZ az 0 2 (aVar 2 (aVal (wC (.int 26)) aNil))))
def ij:W Fl:=(wSeq (wSet 4 (wFrz (aZ az 0 0 (aVar 0 (aVal (wFrz (aL cz (aVal (wVar 3) aNil))) aNil)))))
  ie)
def ik:W Fl:=(wSeq (wSet 3 (wFrz (Cm "" (og 1 [2,0] (p5 (wBin bH (wC (.int 1)) (aZ az 0 0 (aVar 0 (aVal (wC (.int 8)) aNil))))) (cj 0) oe ig))))
  ij)
def gD:W Fl:=(wSeq (wSet 2 (wC (.str "abcdefghijklmnopqrstuvwxyz")))
  ik)
theorem nh:∀ls post,ls.length=2→ft ls post→gD (ls++List.replicate 4 .un) (a7 ls post):=by
 rintro ls post - ⟨a,xs,many,rfl,hx,hm,h⟩
 unfold gD
 walk_at "w"
 unfold ik
 walk_at "w"
 refine ⟨a,xs,8,rfl,hx,by decide,by decide,fun r ys hy r0 r1=>⟨ys,rfl,?_⟩⟩
 walk_at "w"
 refine ⟨⟨by omega,by omega⟩,?_⟩
 rw [jG]
 refine ⟨by rw [List.length_map,List.length_range];exact Nat.le_trans (show (1+r).toNat≤8 by omega) (by decide),?_⟩
 refine uH _ (fun j ρ acc=>∃(l:L) (ys:List D) (cs:List Nat),ρ=[l,.d (.str oB),.own a ys]∧StOk ys∧acc=cs.map (fun c=>D.str ⟨#[c]⟩)∧cs.length=j∧∀c∈cs,mx c) _ _ ⟨_,ys,[],rfl,hy,rfl,rfl,fun c hc=>by simp at hc⟩ ?_ ?_
 ·
  rintro j x ρ acc hx ⟨l,ys,cs,rfl,hy,rfl,hl,hc⟩ Q hQ
  unfold oe ig
  walk_at "w"
  refine ⟨a,ys,26,rfl,hy,by decide,by decide,fun q ws hw q0 q1=>⟨ws,rfl,by decide,_,nP q0 q1,?_⟩⟩
  refine hQ _ _ ⟨_,ws,cs++[q.toNat+97],rfl,hw,by simp,by simp [hl],fun c hm=>?_⟩
  rcases List.mem_append.mp hm with hm|hm
  ·
   exact hc c hm
  ·
   rw [List.mem_singleton.mp hm]
   unfold mx
   omega
 ·
  rintro ρ acc ⟨l,ys,cs,rfl,hy,rfl,hl,hc⟩
  rw [List.length_map,List.length_range] at hl
  walk_at "w"
  intro aa
  refine ⟨cs.map fun c=>⟨#[c]⟩,by simp,by rw [uM,List.length_map];show cs.length+cs.length*0≤_;omega,?_⟩
  have hb:NmOk (Txt.join "" (cs.map fun c=>(⟨#[c]⟩:Str))):=by
   refine ⟨?_,?_,?_⟩
   ·
    rw [ki];omega
   ·
    rw [ki];omega
   ·
    rw [ki];exact hc
  generalize Txt.join "" (cs.map fun c=>(⟨#[c]⟩:Str))=base at hb ⊢
  have hbl:=gY base
  have hb1:=hb.lo
  have hb2:=hb.hi
  unfold ij
  walk_at "w"
  refine ⟨Nat.le_trans (show base.length≤8 by omega) (by decide),a,ys,base.length,rfl,hy,by omega,by omega,fun p ws hw p0 p1=>⟨ws,rfl,?_⟩⟩
  unfold ie
  walk_at "w"
  refine ⟨a,ws,26,rfl,hw,by decide,by decide,fun t vs hv t0 t1=>⟨vs,rfl,?_⟩⟩
  unfold ic
  walk_at "w"
  refine ⟨⟨by omega,by omega⟩,?_⟩
  rw [jG]
  refine ⟨by rw [List.length_map,List.length_range];exact Nat.le_trans (show ((many:Int)).toNat≤26 by omega) (by decide),?_⟩
  refine lQ (h:=fun k=>D.str (nameAt base p.toNat t.toNat k)) _ _ _ (fun k hk Q q=>?_) fun l'=>?_
  ·
   have hk:k <many:=by have:=List.mem_range.mp hk;omega
   unfold ib
   walk_at "w"
   refine ⟨Nat.le_trans (show base.length≤8 by omega) (by decide),by decide,by decide,_,nP (i:=(t+(k:Int)).fmod 26) (dZ _ (by decide)).1 (dZ _ (by decide)).2,?_⟩
   have e1:=AI (x:=base) p0 (by omega)
   have e2:=vU (x:=base) (i:=p+1) (by omega) (by omega)
   have l1:(Txt.slice base none (some p)).length≤8:=by rw [gY,e1,List.length_take];omega
   have l2:(Txt.slice base (some (p+1)) none).length≤8:=by rw [gY,e2,List.length_drop];omega
   have e3:((t+(k:Int)).fmod 26).toNat=(t.toNat+k) % 26:=by
    rw [Int.fmod_eq_emod_of_nonneg _ (by decide)]
    omega
   have e4:Txt.slice base none (some p)++(⟨#[((t+(k:Int)).fmod 26).toNat+97]⟩:Str)++Txt.slice base (some (p+1)) none=nameAt base p.toNat t.toNat k:=by
    apply C8
    rw [jI,jI,e1,e2,e3]
    have:(p+1).toNat=p.toNat+1:=by omega
    simp [L2.nameAt,this]
   have one:∀c:Nat,(⟨#[c]⟩:Str).length=1:=fun _=>rfl
   have lc:(Txt.slice base none (some p)++(⟨#[((t+(k:Int)).fmod 26).toNat+97]⟩:Str)).length≤9:=by
    rw [gY,jI,List.length_append,← gY,← gY,one];omega
   refine ⟨Nat.le_trans (show _≤9 by rw [one];omega) (by decide),Nat.le_trans (show base.length≤8 by omega) (by decide),Nat.le_trans (Nat.add_le_add lc l2) (by decide),?_⟩
   rw [e4]
   exact q
  ·
   walk_at "w"
   intro c
   refine ⟨_,dj (ys:=vs) (by simp) (aj aN),?_⟩
   have e:List.map (fun k=>D.str (nameAt base p.toNat t.toNat k)) (List.range ((many:Int)).toNat)=((List.range many).map fun k=>nameAt base p.toNat t.toNat k).map D.str:=by
    rw [List.map_map,Int.toNat_natCast]
    rfl
   rw [e]
   refine h _ c vs hv (by simp) (fun z hz=>?_) (qx List.nodup_range fun x hx y hy=>?_)
   ·
    obtain ⟨k,_,rfl⟩:=List.mem_map.mp hz
    exact yu hb (by omega)
   ·
    exact vV (by omega) (by have:=List.mem_range.mp hx;omega) (by have:=List.mem_range.mp hy;omega)
def bF:FS:=fun ls post=>∃t b:Int,ls=[.d (.int t),.d (.int b)]∧b≠0∧b.natAbs <2 ^ 9000∧post (.d (frD (Rat.divInt t b))) ls
def kZ:W Fl:=(wPar 2 3 (wBin c8 (wVar 3) (wVar 2)) (wVar 2))
def kI:W Fl:=(wSeq (wSet 2 (wFrz (aL vE (aVal (wVar 0) aNil))))
  (wSeq (wSet 3 (wFrz (aL vE (aVal (wVar 1) aNil))))
  (wSeq (nD (aI (wBin opNe (wVar 2) (wC (.int 0)))) kZ)
  (wSeq (wIf (aI (wBin opLt (wVar 1) (wC (.int 0)))) (wSet 3 (wBin fO (wC (.int 0)) (wVar 3))) bq)
  (wRet (wTup (aVal (wBin m6 (wVar 0) (wVar 3)) (aVal (wBin m6 (wVar 1) (wVar 3)) aNil))))))))
theorem qU:∀ls post,ls.length=2→bF ls post→kI (ls++List.replicate 2 .un) (a7 ls post):=by
 rintro ls post - ⟨t,b,rfl,hb,hz,h⟩
 unfold kI
 walk_at "w"
 have h1:=uq (t:=t) hb
 have h2:=Nat.lt_of_le_of_lt (ur (t:=t) hb) hz
 have fin:∀{g:Int} {ρ:Ev},g=bX t b→g≠0∧g.natAbs <2 ^ 9000∧g≠0∧g.natAbs <2 ^ 9000∧2≤sizeLine∧a7 [.d (.int t),.d (.int b)] post (.rt (.d (.tup [.int (t.fdiv g),.int (b.fdiv g)]))) ρ:=fun {g ρ} e=>by
  have e1:g≠0:=by rw [e];exact h1
  have e2:g.natAbs <2 ^ 9000:=by rw [e];exact h2
  refine ⟨e1,e2,e1,e2,by decide,_,aj (aj aN),?_⟩
  rw [uJ hb e]
  exact h
 refine ⟨fun n ρ=>∃x y:Int,ρ=[.d (.int t),.d (.int b),.d (.int x),.d (.int y)]∧0≤x∧0≤y∧Int.gcd x y=Int.gcd t b∧n=x.natAbs,⟨_,_,_,rfl,by split<;>omega,by split<;>omega,?_,rfl⟩,?_⟩
 ·
  have e1:(if t <0 then -t else t)=(t.natAbs:Int):=by split<;>omega
  have e2:(if b <0 then -b else b)=(b.natAbs:Int):=by split<;>omega
  rw [e1,e2]
  simp [Int.gcd]
 ·
  rintro n ρ ⟨x,y,rfl,x0,y0,hg,rfl⟩
  unfold kZ
  walk_at "w"
  split
  ·
   rename_i hx
   have hx:x≠0:=by simpa using hx
   refine ⟨hx,_,hX y hx,_,_,rfl,(dZ y (by omega)).1,x0,?_,rfl⟩
   rw [Int.gcd_comm,uo,Int.gcd_comm]
   exact hg
  ·
   rename_i hx
   have hx:x=0:=by simpa using hx
   subst hx
   have hy:y=(Int.gcd t b:Int):=by rw [← hg,Int.gcd_zero_left];omega
   split
   ·
    rename_i hlt
    exact fin (by simp [bX,hlt,hy])
   ·
    rename_i hlt
    exact fin (by simp [bX,hlt,hy])
def b7:FS:=fun ls post=>∃(a:Addr) (xs:List D) (least kind:Int),ls=[.own a xs,.d (.int least),.d (.int kind)]∧StOk xs∧0≤least∧least≤1∧0≤kind∧kind <5 ∧
 ∀(q:Rat) (ys:List D),StOk ys→0≤q→(least=1→0 <q)→RB 60 q→post (.d (frD q)) [.own a ys,.d (.int least),.d (.int kind)]
def fu:W Fl:=(wSeq (wSet 3 (wFrz (wBin bH (wC (.int 1)) (aZ az 0 0 (aVar 0 (aVal (wBin opIx (wLst (aVal (wC (.int 1)) (aVal (wC (.int 1)) (aVal (wC (.int 4)) (aVal (wC (.int 12)) (aVal (wC (.int 12)) aNil)))))) (wVar 2)) aNil))))))
  (wSeq (wSet 4 (wFrz (wBin bH (wVar 1) (aZ az 0 0 (aVar 0 (aVal (wBin opIx (wLst (aVal (wC (.int 3)) (aVal (wC (.int 10)) (aVal (wC (.int 10)) (aVal (wC (.int 40)) (aVal (wBin vD (wC (.int 10)) (wC (.int 12))) aNil)))))) (wVar 2)) aNil))))))
  (wRet (aP bF (aVal (wVar 4) (aVal (wVar 3) aNil))))))
theorem y4 {t b:Int} (h0:0≤t) (h1:t <2 ^ 59) (h2:0 <b) (h3:b <2 ^ 59):0≤Rat.divInt t b∧(0 <t→0 <Rat.divInt t b)∧RB 60 (Rat.divInt t b):=by
 have e:=Rat.divInt_nonneg (a:=t) (b:=b) h0 (by omega)
 refine ⟨e,fun ht=>?_,RB.of_divInt (by omega) ?_ ?_⟩
 ·
  refine Rat.lt_of_le_of_ne e fun z=>?_
  have:Rat.divInt 0 1=Rat.divInt t b:=by rw [← z];rfl
  rw [Rat.divInt_eq_divInt_iff (by decide) (by omega)] at this
  omega
 ·
  have:(2:Int) ^ 59=((2 ^ 59:Nat):Int):=by decide
  have:(2:Nat) ^ 59 <2 ^ 60:=by decide
  omega
 ·
  have:(2:Int) ^ 59=((2 ^ 59:Nat):Int):=by decide
  have:(2:Nat) ^ 59 <2 ^ 60:=by decide
  omega
theorem mT:∀ls post,ls.length=3→b7 ls post→fu (ls++List.replicate 2 .un) (a7 ls post):=by
 rintro ls post - ⟨a,xs,least,kind,rfl,hx,l0,l1,k0,k1,h⟩
 have hk:kind=0∨kind=1∨kind=2∨kind=3∨kind=4:=by omega
 have fin:∀(ys:List D) (r s:Int) (ρ:Ev),StOk ys→0≤r→r <12→0≤s→s <10 ^ 12→.own a ys∈ρ→bF [.d (.int (least+s)),.d (.int (1+r))] fun r' _=>a7 [.own a xs,.d (.int least),.d (.int kind)] post (.rt r') ρ:=by
  intro ys r s ρ hy r0 r1 s0 s1 hm
  obtain ⟨a1,a2,a3⟩:=y4 (t:=least+s) (b:=1+r) (by omega) (by omega) (by omega) (by omega)
  exact ⟨_,_,rfl,by omega,qo (by omega) (by omega),_,dj hm (aj (aj aN)),h _ ys hy a1 (fun e=>a2 (by omega)) a3⟩
 unfold fu
 rcases hk with rfl|rfl|rfl|rfl|rfl
 all_goals
  walk_at "w"
  refine ⟨by decide,fun _=>?_⟩
  refine ⟨a,xs,_,rfl,hx,by decide,by decide,fun r ys hy r0 r1=>⟨ys,rfl,?_⟩⟩
  walk_at "w"
  refine ⟨by decide,by decide,by decide,by decide,fun _=>?_⟩
  refine ⟨a,ys,_,rfl,hy,by decide,by decide,fun s zs hz s0 s1=>⟨zs,rfl,?_⟩⟩
  walk_at "w"
  exact fin zs r s _ hz r0 (by omega) s0 (Int.lt_of_lt_of_le s1 (by decide)) (by simp)
def fv:FS:=fun ls post=>∃(a:Addr) (xs:List D) (n:Nat) (kind:Int),ls=[.own a xs,.d (.int n),.d (.int kind)]∧StOk xs∧1≤n∧n≤1000∧0≤kind∧kind <5 ∧
 ∀(qs:List Rat) (c:Addr) (ys:List D),StOk ys→qs.length=n→(∀q∈qs,0 <q∧RB 60 q)→post (.own c (qs.map frD)) [.own a ys,.d (.int n),.d (.int kind)]
def ip:W Fl:=(wSeq (wSet 6 (wFrz (aZ b7 0 0 (aVar 0 (aVal (wC (.int 1)) (aVal (wVar 2) aNil))))))
  (m5 (wApp 5 (wBin opIx (wLst (aVal (wVar 4) (aVal (wVar 6) aNil))) (aL rX (aVal (wBin opEq (wVar 3) (wC (.int 2))) aNil))))))
def iq:W Fl:=(wRet (lz 5))
def ir:W Fl:=(wSeq (nD (aI (wBin opLt (cA 5 (xm 5) (aL cz (aVal (wVar 5) aNil))) (wVar 1))) ip)
  iq)
def eB:W Fl:=(wSeq (wSet 5 (wLst (aVal (wVar 4) aNil)))
  ir)
def iu:W Fl:=(wSeq (wIf (aI (wBin opEq (wVar 3) (wC (.int 0)))) (wSet 4 (wTup (aVal (wC (.int 1)) (aVal (wC (.int 1)) aNil)))) bq)
  eB)
def iw:W Fl:=(wSeq (wSet 4 (wFrz (aZ b7 0 0 (aVar 0 (aVal (wC (.int 1)) (aVal (wVar 2) aNil))))))
  iu)
def gE:W Fl:=(wSeq (wSet 3 (wFrz (aZ az 0 0 (aVar 0 (aVal (wC (.int 3)) aNil)))))
  iw)
theorem ni:∀ls post,ls.length=3→fv ls post→gE (ls++List.replicate 4 .un) (a7 ls post):=by
 rintro ls post - ⟨a,xs,n,kind,rfl,hx,n1,n2,k0,k1,h⟩
 have one:frD 1=.tup [.int 1,.int 1]:=rfl
 have rest:∀(alike:Int) (p:Rat) (ys:List D),StOk ys→0 <p→RB 60 p →
   eB [.own a ys,.d (.int n),.d (.int kind),.d (.int alike),.d (frD p),.un,.un] (a7 [.own a xs,.d (.int n),.d (.int kind)] post):=by
  intro alike p ys hy hp hb
  unfold eB
  walk_at "w"
  refine ⟨by decide,fun c=>?_⟩
  unfold ir
  walk_at "w"
  refine ⟨fun m ρ=>∃(qs:List Rat) (zs:List D) (l:L),ρ=[.own a zs,.d (.int n),.d (.int kind),.d (.int alike),.d (frD p),.own c (qs.map frD),l]∧StOk zs∧qs.length≤n∧m=n - qs.length∧∀q∈qs,0 <q∧RB 60 q,⟨_,[p],ys,_,rfl,hy,n1,rfl,by intro q hq;rw [List.mem_singleton.mp hq];exact ⟨hp,hb⟩⟩,?_⟩
  rintro m ρ ⟨qs,zs,l,rfl,hz,hl,rfl,hq⟩
  walk_at "w"
  try rw [List.length_map]
  split
  ·
   rename_i hlt
   unfold ip
   walk_at "w"
   refine ⟨a,zs,1,kind,rfl,hz,by decide,by decide,k0,k1,fun q ws hw q0 q1 qb=>⟨ws,rfl,?_⟩⟩
   walk_at "w"
   have hs:qs.length <sizeLine:=by exact Nat.lt_of_le_of_lt (show qs.length≤1000 by omega) (by decide)
   have more:∀q':Rat,0 <q'→RB 60 q'→∃m,m <n - qs.length∧∃(qs':List Rat) (zs:List D) (l:L),[L.own a ws,.d (.int n),.d (.int kind),.d (.int alike),.d (frD p),.own c (qs.map frD++[frD q']),.d (frD q)]=[.own a zs,.d (.int n),.d (.int kind),.d (.int alike),.d (frD p),.own c (qs'.map frD),l]∧StOk zs∧qs'.length≤n∧m=n - qs'.length∧∀q∈qs',0 <q∧RB 60 q:=by
    intro q' p0 pb
    refine ⟨n - (qs++[q']).length,by rw [List.length_append];simp only [List.length_singleton];omega,qs++[q'],ws,.d (frD q),by rw [List.map_append];rfl,hw,by rw [List.length_append];simp only [List.length_singleton];omega,rfl,fun z hz=>?_⟩
    rcases List.mem_append.mp hz with hz|hz
    ·
     exact hq z hz
    ·
     rw [List.mem_singleton.mp hz];exact ⟨p0,pb⟩
   refine ⟨by decide,fun _=>?_⟩
   by_cases h2:alike=2
   ·
    refine ⟨frD q,?_,hs,more q (q1 rfl) qb⟩
    simp [h2,nc]
   ·
    refine ⟨frD p,?_,hs,more p hp hb⟩
    simp [h2,ou]
  ·
   have e:qs.length=n:=by omega
   unfold iq
   walk_at "w"
   exact ⟨_,dj (by simp) (aj (aj aN)),h qs c zs hz e hq⟩
 unfold gE
 walk_at "w"
 refine ⟨a,xs,3,rfl,hx,by decide,by decide,fun r ys hy r0 r1=>⟨ys,rfl,?_⟩⟩
 unfold iw
 walk_at "w"
 refine ⟨a,ys,1,kind,rfl,hy,by decide,by decide,k0,k1,fun q zs hz q0 q1 qb=>⟨zs,rfl,?_⟩⟩
 unfold iu
 walk_at "w"
 split
 ·
  exact ⟨by decide,rest r 1 zs hz (by decide) ⟨by decide,by decide⟩⟩
 ·
  exact rest r q zs hz (q1 rfl) qb
def gF:FS:=fun ls post=>∃(a:Addr) (xs:List D) (shape k:Int) (n:Nat),ls=[.own a xs,.d (.int shape),.d (.int n),.d (.int k)]∧StOk xs∧2≤n∧n≤1000∧0≤k∧k≤1000 ∧
 ∀(i j:Nat) (ys:List D),StOk ys→i <n→j <n→i≠j→post (.d (.tup [.int i,.int j])) [.own a ys,.d (.int shape),.d (.int n),.d (.int k)]
def jd:W Fl:=(wSeq (wSet 4 (wFrz (aZ az 0 0 (aVar 0 (aVal (wVar 2) aNil)))))
  (wSeq (wSet 5 (wBin c8 (wBin bH (wBin bH (wVar 4) (wC (.int 1))) (aZ az 0 0 (aVar 0 (aVal (wBin fO (wVar 2) (wC (.int 1))) aNil)))) (wVar 2)))
  (wSeq (wIf (aI (wBin opEq (wVar 1) (wC (.int 1)))) (wRet (wTup (aVal (wBin c8 (wVar 3) (wVar 2)) (aVal (wBin c8 (wBin bH (wVar 3) (wBin m6 (wVar 2) (wC (.int 2)))) (wVar 2)) aNil)))) bq)
  (wSeq (wIf (aI (wBin opEq (wVar 1) (wC (.int 2)))) (wRet (wTup (aVal (wFrz (wBin bf (wBin c8 (wVar 3) (wC (.int 2))) (wBin fO (wVar 2) (wC (.int 1))))) (aVal (wFrz (wBin bf (wBin fO (wC (.int 1)) (wBin c8 (wVar 3) (wC (.int 2)))) (wBin fO (wVar 2) (wC (.int 1))))) aNil)))) bq)
  (wSeq (wIf (aI (wBin opEq (wVar 1) (wC (.int 3)))) (wRet (wTup (aVal (wC (.int 0)) (aVal (wFrz (wBin bH (wC (.int 1)) (wBin c8 (wVar 5) (wBin fO (wVar 2) (wC (.int 1)))))) aNil)))) bq)
  (wRet (wTup (aVal (wVar 4) (aVal (wVar 5) aNil)))))))))
theorem o8:∀ls post,ls.length=4→gF ls post→jd (ls++List.replicate 2 .un) (a7 ls post):=by
 rintro ls post - ⟨a,xs,shape,k,n,rfl,hx,n2,n3,k0,k1,h⟩
 have fin:∀(ys:List D) (i j:Int) (ρ:Ev),StOk ys→0≤i→i <n→0≤j→j <n→i≠j→.own a ys∈ρ→a7 [.own a xs,.d (.int shape),.d (.int n),.d (.int k)] post (.rt (.d (.tup [.int i,.int j]))) ρ:=by
  intro ys i j ρ hy i0 i1 j0 j1 hij hm
  have:=h i.toNat j.toNat ys hy (by omega) (by omega) (by omega)
  rw [Int.toNat_of_nonneg i0,Int.toNat_of_nonneg j0] at this
  exact ⟨_,dj hm (aj (aj (aj aN))),this⟩
 unfold jd
 walk_at "w"
 refine ⟨a,xs,n,rfl,hx,by omega,by omega,fun r ys hy r0 r1=>⟨ys,rfl,?_⟩⟩
 walk_at "w"
 refine ⟨a,ys,n - 1,rfl,hy,by omega,by omega,fun s zs hz s0 s1=>⟨zs,rfl,?_⟩⟩
 walk_at "w"
 refine ⟨by omega,?_⟩
 have e1:=Int.fmod_eq_emod_of_nonneg (r+1+s) (b:=n) (by omega)
 have e2:=Int.fmod_eq_emod_of_nonneg k (b:=n) (by omega)
 have e3:=Int.fdiv_eq_ediv_of_nonneg (n:Int) (b:=2) (by omega)
 have e4:=Int.fmod_eq_emod_of_nonneg (k+(n:Int) / 2) (b:=n) (by omega)
 have e5:=Int.fmod_eq_emod_of_nonneg k (b:=2) (by omega)
 have e6:=Int.fmod_eq_emod_of_nonneg ((r+1+s) % (n:Int)) (b:=(n:Int) - 1) (by omega)
 rw [e1]
 have o0:=Int.emod_nonneg (r+1+s) (b:=n) (by omega)
 have o1:=Int.emod_lt_of_pos (r+1+s) (b:=n) (by omega)
 have o2:(r+1+s) % (n:Int)≠r:=fun z=>by
  by_cases q:r+1+s <n
  ·
   rw [Int.emod_eq_of_lt (by omega) q] at z;omega
  ·
   have:(r+1+s) % (n:Int)=r+1+s - n:=by
    rw [← Int.sub_emod_right,Int.emod_eq_of_lt (by omega) (by omega)]
   omega
 split
 ·
  walk_at "w"
  rw [e2,e3,e4]
  refine ⟨by omega,by decide,by decide,by omega,by decide,fin zs _ _ _ hz (Int.emod_nonneg _ (by omega)) (Int.emod_lt_of_pos _ (by omega)) (Int.emod_nonneg _ (by omega)) (Int.emod_lt_of_pos _ (by omega)) (fun z=>?_) (by simp)⟩
  have h1:(k+(n:Int) / 2 - k) % n=0:=Int.emod_eq_emod_iff_emod_sub_eq_zero.mp z.symm
  have e9:k+(n:Int) / 2 - k=n / 2:=by omega
  rw [e9,Int.emod_eq_of_lt (by omega) (by omega)] at h1
  omega
 ·
  walk_at "w"
  split
  ·
   walk_at "w"
   rw [e5]
   have m0:=Int.emod_two_eq k
   refine ⟨by decide,a5 (by omega),a5 (by omega),by decide,a5 (by omega),a5 (by omega),by decide,?_⟩
   rcases m0 with m0|m0
   ·
    rw [m0]
    exact fin zs _ _ _ hz (by omega) (by omega) (by omega) (by omega) (by omega) (by simp)
   ·
    rw [m0]
    exact fin zs _ _ _ hz (by omega) (by omega) (by omega) (by omega) (by omega) (by simp)
  ·
   walk_at "w"
   split
   ·
    walk_at "w"
    rw [e6]
    have p0:=Int.emod_nonneg ((r+1+s) % (n:Int)) (b:=(n:Int) - 1) (by omega)
    have p1:=Int.emod_lt_of_pos ((r+1+s) % (n:Int)) (b:=(n:Int) - 1) (by omega)
    exact ⟨by omega,by decide,fin zs _ _ _ hz (by omega) (by omega) (by omega) (by omega) (by omega) (by simp)⟩
   ·
    walk_at "w"
    exact ⟨by decide,fin zs _ _ _ hz (by omega) (by omega) (by omega) (by omega) (Ne.symm o2) (by simp)⟩
structure Drawn (most count:Nat) (R:Ring):Prop where
 ok:R.Ok
 hi:R.n≤most
 few:R.asks.length≤count
 nms:(∀a∈R.asks,NmOk a.nm)∧(R.asks.map (·.nm)).Nodup
 tt:∀a∈R.asks,RB 60 a.size
theorem Drawn.nt {m c:Nat} {R:Ring} (h:Drawn m c R):∀a∈R.asks,NmOk a.nm∧RB 60 a.size:=fun a ha=>⟨h.nms.1 a ha,h.tt a ha⟩
def gG:FS:=fun ls post=>∃(ns:List Int) (at_ most count:Nat),ls=[.d (.lst (ns.map .int)),.d (.int at_),.d (.int most),.d (.int count)]∧at_≤90∧2≤most∧most≤12∧count≤20 ∧
 ∀R:Ring,Drawn most count R→post (.d (aH R)) ls
def fw:W Fl:=(wSeq (rY [13,14] (aZ gF 0 4 (aVar 4 (aVal (wVar 8) (aVal (wVar 5) (aVal (wVar 12) aNil))))))
  (m5 (wApp 11 (wTup (aVal (wBin opIx (wVar 9) (wVar 12)) (aVal (wVar 13) (aVal (wVar 14) (aVal (wFrz (aZ b7 0 4 (aVar 4 (aVal (wC (.int 0)) (aVal (wBin opIx (wVar 7) (wC (.int 1))) aNil))))) aNil))))))))
def jR:W Fl:=(wRet (wTup (aVal (wVar 10) (aVal (wVar 11) aNil))))
def jS:W Fl:=(wSeq (wFor (p5 (wVar 6)) (cj 12) fw)
  jR)
def jT:W Fl:=(wSeq (wSet 11 (wLst aNil))
  jS)
def jU:W Fl:=(wSeq (wSet 4 (aP bE (aVal (wVar 0) (aVal (wFrz (wBin bH (wVar 1) (wC (.int 2)))) aNil))))
  jT)
def jV:W Fl:=(wSeq (wSet 10 (wFrz (aP fv (aVal (aP bE (aVal (wVar 0) (aVal (wFrz (wBin bH (wVar 1) (wC (.int 1)))) aNil))) (aVal (wVar 5) (aVal (wBin opIx (wVar 7) (wC (.int 0))) aNil))))))
  jU)
def jW:W Fl:=(wSeq (wSet 9 (wFrz (aZ ft 0 4 (aVar 4 (aVal (wVar 6) aNil)))))
  jV)
def jX:W Fl:=(wSeq (wSet 8 (wFrz (aZ az 0 4 (aVar 4 (aVal (wC (.int 6)) aNil)))))
  jW)
def jY:W Fl:=(wSeq (wSet 7 (wFrz (wLst (aVal (wFrz (aZ az 0 4 (aVar 4 (aVal (wC (.int 5)) aNil)))) (aVal (wFrz (aZ az 0 4 (aVar 4 (aVal (wC (.int 5)) aNil)))) aNil)))))
  jX)
def jZ:W Fl:=(wSeq (wSet 6 (wFrz (aZ az 0 4 (aVar 4 (aVal (wFrz (wBin bH (wVar 3) (wC (.int 1)))) aNil)))))
  jY)
def j2:W Fl:=(wSeq (wSet 5 (wFrz (wBin bH (wC (.int 2)) (aZ az 0 4 (aVar 4 (aVal (wBin fO (wVar 2) (wC (.int 1))) aNil))))))
  jZ)
def je:W Fl:=(wSeq (wSet 4 (aP bE (aVal (wVar 0) (aVal (wVar 1) aNil))))
  j2)
theorem y6 {S a1 m3 c3 rms:D} {b c:Addr} {n shape kind:Nat} {zs:List Str} {post:Fl→Ev→Prop} (hn:2≤n) (hn2:n≤12) (hk:kind <5) (k0:Nat) (hzl:zs.length≤20) (hz:∀z∈zs,NmOk z) (xs:List D) (hx:StOk xs) (x13 x14:L)
  (fin:∀(as:List Ask) (ys:List D) (x12 x13 x14:L),(∀a∈as,en n a∧RB 60 a.size)→as.map (·.nm)=zs→post .nx [.d S,.d a1,.d m3,.d c3,.own b ys,.d (.int n),.d (.int (zs.length:Int)),.d (.lst [.int k0,.int kind]),.d (.int shape),.d (.lst (zs.map .str)),.d rms,.own c (as.map askD),x12,x13,x14]) :
  cB (cj 12) fw ((List.range zs.length).map fun (i:Nat)=>D.int (i:Int)) [.d S,.d a1,.d m3,.d c3,.own b xs,.d (.int n),.d (.int (zs.length:Int)),.d (.lst [.int k0,.int kind]),.d (.int shape),.d (.lst (zs.map .str)),.d rms,.own c [],.un,x13,x14] post:=by
 refine gX _ (fun j ρ=>∃(as:List Ask) (ys:List D) (x12 x13 x14:L),ρ=[.d S,.d a1,.d m3,.d c3,.own b ys,.d (.int n),.d (.int (zs.length:Int)),.d (.lst [.int k0,.int kind]),.d (.int shape),.d (.lst (zs.map .str)),.d rms,.own c (as.map askD),x12,x13,x14]∧StOk ys∧(∀a∈as,en n a∧RB 60 a.size)∧as.map (·.nm)=zs.take j) _ ⟨[],xs,_,_,_,rfl,hx,fun a ha=>by simp at ha,rfl⟩ ?_ ?_
 ·
  rintro j x ρ hj ⟨as,ys,x12,x13,x14,rfl,hy,ha,hn'⟩ Q h1 h2 h3 h4
  have hj':j <zs.length:=by
   have:=(List.getElem?_eq_some_iff.mp hj).1
   simpa using this
  have ex:x=.int (j:Int):=by
   rw [List.getElem?_map,List.getElem?_range hj'] at hj
   exact (Option.some.inj hj).symm
  subst ex
  unfold fw
  walk_at "w"
  refine ⟨b,ys,shape,j,n,rfl,hy,hn,by omega,by omega,by omega,fun i k ws hw i1 k1 hik=>⟨ws,rfl,?_⟩⟩
  walk_at "w"
  refine ⟨.str zs[j],bK hj',?_⟩
  refine ⟨b,ws,0,kind,rfl,hw,by decide,by decide,by omega,by omega,fun q vs hv q0 _ qb=>⟨vs,rfl,?_⟩⟩
  walk_at "w"
  have hlen:as.length=j:=by
   have:=congrArg List.length hn'
   rw [List.length_map,List.length_take] at this
   omega
  refine ⟨by decide,by rw [hlen];exact Nat.lt_of_lt_of_le hj' (Nat.le_trans hzl (by decide)),h1 _ ⟨as++[⟨zs[j],i,k,q⟩],vs,_,_,_,by rw [List.map_append];rfl,hv,fun a hm=>?_,?_⟩⟩
  ·
   rcases List.mem_append.mp hm with hm|hm
   ·
    exact ha a hm
   ·
    rw [List.mem_singleton.mp hm]
    exact ⟨⟨i1,k1,hik,q0,AK qb,(hz _ (List.getElem_mem hj')).ok⟩,qb⟩
  ·
   rw [List.map_append,hn',List.take_succ,List.getElem?_eq_getElem hj']
   rfl
 ·
  rintro ρ ⟨as,ys,x12,x13,x14,rfl,hy,ha,hn'⟩
  rw [List.length_map,List.length_range,List.take_of_length_le (Nat.le_refl _)] at hn'
  exact fin as ys x12 x13 x14 ha hn'
theorem o9:∀ls post,ls.length=4→gG ls post→je (ls++List.replicate 11 .un) (a7 ls post):=by
 rintro ls post - ⟨ns,at_,most,count,rfl,ha,m2,m12,c20,h⟩
 unfold je
 walk_at "w"
 refine ⟨ns,at_,rfl,by omega,by omega,fun b xs hx=>?_⟩
 unfold j2
 walk_at "w"
 refine ⟨b,xs,(most:Int) - 1,rfl,hx,by omega,by omega,fun r ys hy r0 r1=>⟨ys,rfl,?_⟩⟩
 unfold jZ
 walk_at "w"
 refine ⟨b,ys,(count:Int)+1,rfl,hy,by omega,by omega,fun s zs hz s0 s1=>⟨zs,rfl,?_⟩⟩
 unfold jY
 walk_at "w"
 refine ⟨b,zs,5,rfl,hz,by decide,by decide,fun k1 ws hw k10 k11=>⟨ws,rfl,?_⟩⟩
 walk_at "w"
 refine ⟨b,ws,5,rfl,hw,by decide,by decide,fun k2 vs hv k20 k21=>⟨vs,rfl,?_⟩⟩
 walk_at "w"
 refine ⟨by decide,fun kk=>?_⟩
 unfold jX
 walk_at "w"
 refine ⟨b,vs,6,rfl,hv,by decide,by decide,fun sh us hu sh0 sh1=>⟨us,rfl,?_⟩⟩
 unfold jW
 walk_at "w"
 obtain ⟨many,rfl⟩:=Int.eq_ofNat_of_zero_le s0
 obtain ⟨pl,epl⟩:∃pl:Nat,2+r=(pl:Int):=Int.eq_ofNat_of_zero_le (by omega)
 obtain ⟨sh',rfl⟩:=Int.eq_ofNat_of_zero_le sh0
 obtain ⟨k1',rfl⟩:=Int.eq_ofNat_of_zero_le k10
 obtain ⟨k2',rfl⟩:=Int.eq_ofNat_of_zero_le k20
 rw [epl]
 refine ⟨b,us,many,rfl,hu,by omega,fun nms c ts ht hnl hnm hnd=>⟨ts,rfl,?_⟩⟩
 unfold jV
 walk_at "w"
 refine ⟨ns,at_+1,rfl,by omega,by omega,fun b2 xs2 hx2=>?_⟩
 refine ⟨b2,xs2,pl,k1',rfl,hx2,by omega,by omega,by omega,by omega,fun qs c2 ys2 hy2 hql hq=>?_⟩
 unfold jU
 walk_at "w"
 refine ⟨ns,at_+2,rfl,by omega,by omega,fun b3 xs3 hx3=>?_⟩
 unfold jT
 walk_at "w"
 refine ⟨by decide,fun c3=>?_⟩
 unfold jS
 walk_at "w"
 refine ⟨⟨by omega,by omega⟩,?_⟩
 rw [jG,Int.toNat_natCast,← hnl]
 refine y6 (n:=pl) (by omega) (by omega) (by omega) k1' (by omega) hnm xs3 hx3 _ _ fun as ys' x12 x13 x14 hao han=>?_
 walk_at "w"
 unfold jR
 walk_at "w"
 refine ⟨by decide,_,aj (aj (aj (aj aN))),h ⟨qs,as⟩ ?_⟩
 have hal:as.length=nms.length:=by rw [← han,List.length_map]
 refine ⟨⟨?_,?_,?_,hq,?_,Gr (fun a ha=>(hao a ha).2) (by show as.length≤20;omega)⟩,?_,?_,⟨?_,?_⟩,fun a ha=>(hao a ha).2⟩
 ·
  show 2≤qs.length;omega
 ·
  show qs.length≤12;omega
 ·
  show as.length≤20;omega
 ·
  show ∀a∈as,en qs.length a;rw [hql];exact fun a ha=>(hao a ha).1
 ·
  show qs.length≤most;omega
 ·
  show as.length≤count;omega
 ·
  intro a ha
  exact hnm _ (by rw [← han];exact List.mem_map_of_mem ha)
 ·
  show (as.map (·.nm)).Nodup
  rw [han]
  exact hnd
structure y7 (R:Ring) (ps:List Rat):Prop extends Dc R ps 70 where
 tw:Tw R ps
def fA:FS:=fun ls post=>∃(a:Addr) (xs:List D) (R:Ring),ls=[.own a xs,.d (aH R)]∧StOk xs∧R.Ok∧(∀a∈R.asks,RB 60 a.size)∧∀(ps:List Rat) (c:Addr) (ys:List D),StOk ys→y7 R ps→post (.own c (ps.map frD)) [.own a ys,.d (aH R)]
def ix:W Fl:=(wSeq (wSet 7 (wFrz (aZ az 0 0 (aVar 0 (aVal (wC (.int 4)) aNil)))))
  (wSeq (wSet 8 (wFrz (aZ az 0 0 (aVar 0 (aVal (wC (.int 13)) aNil)))))
  (m5 (wApp 2 (wBin opIx (wLst (aVal (wTup (aVal (wC (.int 0)) (aVal (wC (.int 1)) aNil))) (aVal (wVar 6) (aVal (wFrz (aP bF (aVal (wFrz (wBin bf (wBin opIx (wVar 6) (wC (.int 0))) (wVar 8))) (aVal (wFrz (wBin bf (wBin opIx (wVar 6) (wC (.int 1))) (wC (.int 12)))) aNil)))) aNil)))) (aL xl (aVal (wVar 7) (aVal (wC (.int 2)) aNil))))))))
def gH:W Fl:=(wSeq (wSet 2 (wLst aNil))
  (wSeq (wFor (wSrc (wBin opIx (wVar 1) (wC (.int 1)))) (lA [3,4,5,6]) ix)
  (wRet (lz 2))))
def Tw1 (z p:Rat):Prop:=∃v:Int,0≤v∧v≤12∧p=z*Rat.divInt v 12
theorem GI {R:Ring} {ps:List Rat} (hl:ps.length=R.asks.length) (h:∀x∈R.asks.zip ps,Tw1 x.1.size x.2):Tw R ps:=fun k hk=>by
 have h1:k <ps.length:=by omega
 have:=h (R.asks[k],ps[k]) (by
  rw [List.mem_iff_getElem]
  exact ⟨k,by rw [List.length_zip];omega,by rw [List.getElem_zip]⟩)
 rw [Dd h1,Gu hk]
 exact this
theorem y9 {s:Rat} {v:Int} (h0:0≤s) (hb:RB 60 s) (v0:0≤v) (v1:v <13):(0≤Rat.divInt (s.num*v) ((s.den:Int)*12)∧Rat.divInt (s.num*v) ((s.den:Int)*12)≤s)∧RB 70 (Rat.divInt (s.num*v) ((s.den:Int)*12)):=by
 have e:Rat.divInt (s.num*v) ((s.den:Int)*12)=s*Rat.divInt v 12:=by
  rw [← Rat.divInt_mul_divInt,Rat.num_divInt_den]
 have f0:0≤Rat.divInt v 12:=Rat.divInt_nonneg v0 (by decide)
 have f1:0≤1 - Rat.divInt v 12:=by
  have e1:1 - Rat.divInt v 12=Rat.divInt (12 - v) 12:=by
   have:(1:Rat)=Rat.divInt 12 12:=rfl
   rw [this,Rat.divInt_sub_divInt _ _ (by decide) (by decide),Rat.divInt_eq_divInt_iff (by decide) (by decide)]
   omega
  rw [e1]
  exact Rat.divInt_nonneg (by omega) (by decide)
 have m0:=Rat.mul_nonneg h0 f0
 have m1:=Rat.mul_nonneg h0 f1
 have hd:=den_pos s
 refine ⟨⟨by rw [e];exact m0,by rw [e];grind⟩,RB.of_divInt (Int.mul_ne_zero (by omega) (by decide)) ?_ ?_⟩
 ·
  rw [Int.natAbs_mul]
  exact Nat.lt_of_lt_of_le (bJ (n:=10) hb.1 (show v.natAbs <2 ^ 10 by omega)) (Nat.le_refl _)
 ·
  rw [Int.natAbs_mul]
  exact Nat.lt_of_lt_of_le (bJ (m:=60) (n:=10) (by rw [Int.natAbs_natCast];exact hb.2) (show (12:Int).natAbs <2 ^ 10 by decide)) (Nat.le_refl _)
theorem nj:∀ls post,ls.length=2→fA ls post→gH (ls++List.replicate 7 .un) (a7 ls post):=by
 rintro ls post - ⟨a,xs,R,rfl,hx,hR,hT,h⟩
 have hfew:=hR.few
 unfold gH
 walk_at "w"
 refine ⟨by decide,fun c=>?_⟩
 refine Ao (enc:=askD) R.asks (fun pre ρ=>∃(ps:List Rat) (ys:List D) (x3 x4 x5 x6 x7 x8:L),ρ=[.own a ys,.d (aH R),.own c (ps.map frD),x3,x4,x5,x6,x7,x8]∧StOk ys∧ps.length=pre.length∧(∀x∈pre.zip ps,0≤x.2∧x.2≤x.1.size)∧(∀p∈ps,RB 70 p)∧∀x∈pre.zip ps,Tw1 x.1.size x.2) _ ⟨[],xs,_,_,_,_,_,_,rfl,hx,rfl,(fun x hx=>by simp at hx),(fun x hx=>by simp at hx),fun x hx=>by simp at hx⟩ ?_ ?_
 ·
  rintro pre A suf ρ hsp ⟨ps,ys,x3,x4,x5,x6,x7,x8,rfl,hy,hl,hlo,hb,hw1⟩ Q h1 h2 h3 h4
  have hA:en R.n A:=hR.ask A (by rw [hsp];simp)
  have hAb:RB 60 A.size:=hT A (by rw [hsp];simp)
  have hlen:pre.length <20:=by
   have:=congrArg List.length hsp
   rw [List.length_append,List.length_cons] at this
   omega
  unfold ix
  walk_at "w"
  refine ⟨a,ys,4,rfl,hy,by decide,by decide,fun r zs hz r0 r1=>⟨zs,rfl,?_⟩⟩
  walk_at "w"
  refine ⟨a,zs,13,rfl,hz,by decide,by decide,fun v ws hw v0 v1=>⟨ws,rfl,?_⟩⟩
  walk_at "w"
  obtain ⟨p1,p2⟩:=y9 hA.size hAb v0 v1
  have hd:=den_pos A.size
  have fin:∀p:Rat,(0≤p∧p≤A.size)→RB 70 p→Tw1 A.size p→Q .nx [.own a ws,.d (aH R),.own c (ps.map frD++[frD p]),.d (.str A.nm),.d (.int A.one),.d (.int A.other),.d (frD A.size),.d (.int r),.d (.int v)]:=by
   intro p hp hpb hpw
   refine h1 _ ⟨ps++[p],ws,_,_,_,_,_,_,by rw [List.map_append];rfl,hw,by rw [List.length_append,List.length_append,hl];rfl,fun x hx=>?_,fun q hq=>?_,fun x hx=>?_⟩
   ·
    rw [List.zip_append (by omega)] at hx
    rcases List.mem_append.mp hx with hx|hx
    ·
     exact hlo x hx
    ·
     have:x=(A,p):=by simpa using hx
     subst this
     exact hp
   ·
    rcases List.mem_append.mp hq with hq|hq
    ·
     exact hb q hq
    ·
     rw [List.mem_singleton.mp hq];exact hpb
   ·
    rw [List.zip_append (by omega)] at hx
    rcases List.mem_append.mp hx with hx|hx
    ·
     exact hw1 x hx
    ·
     have:x=(A,p):=by simpa using hx
     subst this
     exact hpw
  have hsz:ps.length <sizeLine:=Nat.lt_of_lt_of_le (show ps.length <20 by omega) (by decide)
  refine ⟨by decide,hAb.bn (by decide),a5 (by omega),hAb.bd (by decide),a5 (by decide),A.size.num*v,(A.size.den:Int)*12,rfl,Int.mul_ne_zero (by omega) (by decide),?_,?_⟩
  ·
   rw [Int.natAbs_mul]
   exact Nat.lt_of_lt_of_le (bJ (m:=60) (n:=10) (by rw [Int.natAbs_natCast];exact hAb.2) (show (12:Int).natAbs <2 ^ 10 by decide)) (Nat.pow_le_pow_right (by decide) (by decide))
  ·
   walk_at "w"
   refine ⟨by decide,fun _=>?_⟩
   have hr:r=0∨r=1∨r=2∨r=3:=by omega
   rcases hr with rfl|rfl|rfl|rfl
   ·
    exact ⟨frD 0,ou,hsz,fin 0 ⟨by decide,hA.size⟩ (RB.zero.mono (by decide)) ⟨0,by decide,by decide,by rw [show Rat.divInt 0 12=0 from rfl,Rat.mul_zero]⟩⟩
   ·
    exact ⟨frD A.size,nc,hsz,fin A.size ⟨hA.size,Rat.le_refl⟩ (hAb.mono (by decide)) ⟨12,by decide,by decide,by rw [show Rat.divInt 12 12=1 from rfl,Rat.mul_one]⟩⟩
   ·
    exact ⟨_,Ap,hsz,fin _ p1 p2 ⟨v,v0,by omega,by rw [← Rat.divInt_mul_divInt,Rat.num_divInt_den]⟩⟩
   ·
    exact ⟨_,Ap,hsz,fin _ p1 p2 ⟨v,v0,by omega,by rw [← Rat.divInt_mul_divInt,Rat.num_divInt_den]⟩⟩
 ·
  rintro ρ ⟨ps,ys,x3,x4,x5,x6,x7,x8,rfl,hy,hl,hlo,hb,hw1⟩
  walk_at "w"
  exact ⟨_,dj (ys:=ys) (by simp) (aj aN),h ps c ys hy ⟨⟨hl,hlo,hb⟩,GI hl hw1⟩⟩
def bG:FS:=fun ls post=>∃p q:Rat,ls=[.d (frD p),.d (frD q)]∧RB 4400 p∧RB 4400 q∧post (.d (frD (p - q))) ls
def gI:W Fl:=(wRet (aP bF (aVal (wBin fO (wBin bf (wBin opIx (wVar 0) (wC (.int 0))) (wBin opIx (wVar 1) (wC (.int 1)))) (wBin bf (wBin opIx (wVar 1) (wC (.int 0))) (wBin opIx (wVar 0) (wC (.int 1))))) (aVal (wFrz (wBin bf (wBin opIx (wVar 0) (wC (.int 1))) (wBin opIx (wVar 1) (wC (.int 1))))) aNil))))
theorem nk:∀ls post,ls.length=2→bG ls post→gI (ls++List.replicate 0 .un) (a7 ls post):=by
 rintro ls post - ⟨p,q,rfl,hp,hq,h⟩
 unfold gI
 walk_at "w"
 refine ⟨hp.bn (by decide),hq.bd (by decide),hq.bn (by decide),hp.bd (by decide),hp.bd (by decide),hq.bd (by decide),_,_,rfl,oy p q,?_,_,aj (aj aN),?_⟩
 ·
  rw [lR]
  exact Nat.lt_of_lt_of_le (bJ hp.2 hq.2) (Nat.pow_le_pow_right (by decide) (by decide))
 ·
  rw [Bo]
  exact h
def cY:FS:=fun ls post=>∃(R:Ring) (ps:List Rat) (k:Nat) (w:Bool),ls=[.d (aH R),.d (.lst (ps.map frD)),.d (.int (k:Int)),.d (.str (wayS w))]∧SlOk R ps∧k <ps.length∧post (.d (frD (nsQ R ps k (!w)))) ls
def jf:W Fl:=(wSeq (wIf (aI (wBin opEq (wVar 3) (wC (.str "on")))) (wRet (wBin opIx (wVar 1) (wVar 2))) bq)
  (wRet (aP bG (aVal (wBin opIx (wBin opIx (wBin opIx (wVar 0) (wC (.int 1))) (wVar 2)) (wC (.int 3))) (aVal (wBin opIx (wVar 1) (wVar 2)) aNil)))))
theorem pd:∀ls post,ls.length=4→cY ls post→jf (ls++List.replicate 0 .un) (a7 ls post):=by
 rintro ls post - ⟨R,ps,k,w,rfl,hS,hk,h⟩
 have hk':k <R.asks.length:=by rw [← hS.len];exact hk
 have r1:=hS.sz_rb hk
 have r2:=hS.rb hk
 rw [g9 hk'] at r1
 rw [cu hk] at r2
 unfold nsQ at h
 rw [g9 hk',cu hk] at h
 unfold jf
 walk_at "w"
 cases w with
 | true =>
  walk_at "w"
  exact ⟨_,bK hk,_,aj (aj (aj (aj aN))),h⟩
 | false =>
  walk_at "w"
  refine ⟨_,bK hk',?_⟩
  walk_at "w"
  refine ⟨_,bK hk,?_⟩
  walk_at "w"
  exact ⟨_,_,rfl,r1.mono (by decide),r2.mono (by decide),_,aj (aj (aj (aj aN))),h⟩
def du:FS:=fun ls post=>∃p q:Rat,ls=[.d (frD p),.d (frD q)]∧RB 400000 p∧RB 400000 q∧post (.d (.bl (decide (p <q)))) ls
def gJ:W Fl:=(wRet (wBin opLt (wBin bf (wBin opIx (wVar 0) (wC (.int 0))) (wBin opIx (wVar 1) (wC (.int 1)))) (wBin bf (wBin opIx (wVar 1) (wC (.int 0))) (wBin opIx (wVar 0) (wC (.int 1))))))
theorem nq:∀ls post,ls.length=2→du ls post→gJ (ls++List.replicate 0 .un) (a7 ls post):=by
 rintro ls post - ⟨p,q,rfl,hp,hq,h⟩
 unfold gJ
 walk_at "w"
 refine ⟨hp.bn (by decide),hq.bd (by decide),hq.bn (by decide),hp.bd (by decide),_,aj (aj aN),?_⟩
 rw [EW]
 exact h
def dz:FS:=fun ls post=>∃(a:Addr) (xs:List D) (R:Ring) (ps:List Rat),ls=[.own a xs,.d (aH R),.d (.lst (ps.map frD))]∧StOk xs∧SlOk R ps∧0 <ps.length ∧
 ∀(s:dU) (v:Nat) (ys:List D),StOk ys→s.k <ps.length→s.l <ps.length→1≤v→v≤12→s.am=Rat.divInt ((msQ R ps s.k s.kw s.l s.lw).num*v) (((msQ R ps s.k s.kw s.l s.lw).den:Int)*12)→post (.d (slD s)) [.own a ys,.d (aH R),.d (.lst (ps.map frD))]
def iy:W Fl:=(wRet (wTup (aVal (wVar 4) (aVal (wVar 6) (aVal (wVar 5) (aVal (wVar 7) (aVal (wFrz (aP bF (aVal (wFrz (wBin bf (wBin opIx (wVar 10) (wC (.int 0))) (wVar 11))) (aVal (wFrz (wBin bf (wBin opIx (wVar 10) (wC (.int 1))) (wC (.int 12)))) aNil)))) aNil)))))))
def iz:W Fl:=(wSeq (wSet 11 (wBin opIx (wLst (aVal (wC (.int 12)) (aVal (wFrz (wBin bH (wC (.int 1)) (aZ az 0 0 (aVar 0 (aVal (wC (.int 12)) aNil))))) aNil))) (aZ az 0 0 (aVar 0 (aVal (wC (.int 2)) aNil)))))
  iy)
def iA:W Fl:=(wSeq (wSet 10 (wBin opIx (wLst (aVal (wVar 8) (aVal (wVar 9) aNil))) (aL rX (aVal (wFrz (aP du (aVal (wVar 9) (aVal (wVar 8) aNil)))) aNil))))
  iz)
def iB:W Fl:=(wSeq (wSet 9 (wFrz (aP bG (aVal (wBin opIx (wBin opIx (wBin opIx (wVar 1) (wC (.int 1))) (wVar 5)) (wC (.int 3))) (aVal (wFrz (aP cY (aVal (wVar 1) (aVal (wVar 2) (aVal (wVar 5) (aVal (wVar 7) aNil)))))) aNil)))))
  iA)
def iC:W Fl:=(wSeq (wSet 8 (wFrz (aP bG (aVal (wBin opIx (wBin opIx (wBin opIx (wVar 1) (wC (.int 1))) (wVar 4)) (wC (.int 3))) (aVal (wFrz (aP cY (aVal (wVar 1) (aVal (wVar 2) (aVal (wVar 4) (aVal (wVar 6) aNil)))))) aNil)))))
  iB)
def iD:W Fl:=(wSeq (wSet 7 (wBin opIx (wLst (aVal (wC (.str "on")) (aVal (wC (.str "back")) aNil))) (aZ az 0 0 (aVar 0 (aVal (wC (.int 2)) aNil)))))
  iC)
def iE:W Fl:=(wSeq (wSet 6 (wBin opIx (wLst (aVal (wC (.str "on")) (aVal (wC (.str "back")) aNil))) (aZ az 0 0 (aVar 0 (aVal (wC (.int 2)) aNil)))))
  iD)
def iF:W Fl:=(wSeq (wSet 5 (wBin c8 (wBin bH (wBin bH (wVar 4) (wC (.int 1))) (aZ az 0 0 (aVar 0 (aVal (wFrz (aL xk (aVal (wC (.int 1)) (aVal (wBin fO (wVar 3) (wC (.int 1))) aNil)))) aNil)))) (wVar 3)))
  iE)
def iG:W Fl:=(wSeq (wSet 4 (wFrz (aZ az 0 0 (aVar 0 (aVal (wVar 3) aNil)))))
  iF)
def gK:W Fl:=(wSeq (wSet 3 (wFrz (aL cz (aVal (wBin opIx (wVar 1) (wC (.int 1))) aNil))))
  iG)
theorem BG {r:Int} (h0:0≤r) (h1:r < 2):∃ w:Bool,atI [D.str (Str.ofString "on"),D.str (Str.ofString "back")] r=some (.str (wayS w)):=by
 have:r=0∨r=1:=by omega
 rcases this with rfl|rfl
 ·
  exact ⟨true,rfl⟩
 ·
  exact ⟨false,rfl⟩
theorem GJ {x y:Rat}:atI [frD x,frD y] (if y <x then 1 else 0)=some (frD (if y <x then y else x)):=by
 rw [yc]
 split<;>rfl
theorem A9 {r5 r6:Int} (h0:0≤r5) (h1:r5 <12) (g0:0≤r6) (g1:r6 <2):∃v:Nat,atI [D.int 12,D.int (1+r5)] r6=some (.int (v:Int))∧1≤v∧v≤12:=by
 have:r6=0∨r6=1:=by omega
 rcases this with rfl|rfl
 ·
  exact ⟨12,rfl,by decide,by decide⟩
 ·
  obtain ⟨v,e⟩:=Int.eq_ofNat_of_zero_le (show 0≤1+r5 by omega)
  exact ⟨v,by rw [nc,e],by omega,by omega⟩
theorem nr:∀ls post,ls.length=3→dz ls post→gK (ls++List.replicate 9 .un) (a7 ls post):=by
 rintro ls post - ⟨a,xs,R,ps,rfl,hx,hS,hp,h⟩
 have hfew:=hS.ok.few
 have hl:=hS.len
 unfold gK
 walk_at "w"
 unfold iG
 walk_at "w"
 refine ⟨a,xs,(R.asks.length:Int),rfl,hx,by omega,by omega,fun k x1 hx1 k0 k1=>⟨x1,rfl,?_⟩⟩
 walk_at "w"
 unfold iF
 walk_at "w"
 refine ⟨a,x1,_,rfl,hx1,by split<;>omega,by split<;>omega,fun m x2 hx2 m0 m1=>⟨x2,rfl,?_⟩⟩
 walk_at "w"
 refine ⟨by omega,?_⟩
 obtain ⟨k',rfl⟩:=Int.eq_ofNat_of_zero_le k0
 have lr:=dZ ((k':Int)+1+m) (m:=(R.asks.length:Int)) (by omega)
 obtain ⟨l',el⟩:=Int.eq_ofNat_of_zero_le lr.1
 rw [el] at lr ⊢
 have hk:k' < R.asks.length:=by omega
 have hll:l' < R.asks.length:=by omega
 have hk2:k' < ps.length:=by omega
 have hl2:l' < ps.length:=by omega
 unfold iE
 walk_at "w"
 refine ⟨by decide,fun _=>⟨a,x2,2,rfl,hx2,by decide,by decide,fun r3 x3 hx3 r30 r31=>⟨x3,rfl,?_⟩⟩⟩
 obtain ⟨kw,ekw⟩:=BG r30 r31
 walk_at "w"
 refine ⟨_,ekw,?_⟩
 walk_at "w"
 unfold iD
 walk_at "w"
 refine ⟨by decide,fun _=>⟨a,x3,2,rfl,hx3,by decide,by decide,fun r4 x4 hx4 r40 r41=>⟨x4,rfl,?_⟩⟩⟩
 obtain ⟨lw,elw⟩:=BG r40 r41
 walk_at "w"
 refine ⟨_,elw,?_⟩
 walk_at "w"
 unfold iC
 walk_at "w"
 refine ⟨_,bK hk,?_⟩
 walk_at "w"
 refine ⟨R,ps,k',kw,rfl,hS,hk2,?_⟩
 walk_at "w"
 have sk:=hS.sz_rb hk2
 have sl:=hS.sz_rb hl2
 rw [g9 hk] at sk
 rw [g9 hll] at sl
 have tk:=sU (R:=R) (ps:=ps) (k:=k') kw
 have tl:=sU (R:=R) (ps:=ps) (k:=l') lw
 rw [g9 hk] at tk
 rw [g9 hll] at tl
 refine ⟨_,_,rfl,sk.mono (by decide),(lD hS hk2 _).mono (by decide),?_⟩
 rw [tk]
 walk_at "w"
 unfold iB
 walk_at "w"
 refine ⟨_,bK hll,?_⟩
 walk_at "w"
 refine ⟨R,ps,l',lw,rfl,hS,hl2,?_⟩
 walk_at "w"
 refine ⟨_,_,rfl,sl.mono (by decide),(lD hS hl2 _).mono (by decide),?_⟩
 rw [tl]
 walk_at "w"
 unfold iA
 walk_at "w"
 refine ⟨by decide,fun _=>⟨_,_,rfl,(lD hS hl2 _).mono (by decide),(lD hS hk2 _).mono (by decide),?_⟩⟩
 walk_at "w"
 refine ⟨_,GJ,?_⟩
 walk_at "w"
 unfold iz
 walk_at "w"
 refine ⟨a,x4,12,rfl,hx4,by decide,by decide,fun r5 x5 hx5 r50 r51=>⟨x5,rfl,?_⟩⟩
 walk_at "w"
 refine ⟨by decide,fun _=>⟨a,x5,2,rfl,hx5,by decide,by decide,fun r6 x6 hx6 r60 r61=>⟨x6,rfl,?_⟩⟩⟩
 obtain ⟨v,ev,v1,v2⟩:=A9 r50 r51 r60 r61
 walk_at "w"
 refine ⟨_,ev,?_⟩
 walk_at "w"
 unfold iy
 rw [show (if nsQ R ps l' lw <nsQ R ps k' kw then nsQ R ps l' lw else nsQ R ps k' kw)=msQ R ps k' kw l' lw from rfl]
 have hm:RB 3700 (msQ R ps k' kw l' lw):=by
  rcases (hS.ms hk2 hl2 kw lw).2.2.2 with z|z
  ·
   rw [z];exact lD hS hk2 _
  ·
   rw [z];exact lD hS hl2 _
 walk_at "w"
 have dpos:=(msQ R ps k' kw l' lw).den_pos
 have hden:=hm.2
 refine ⟨hm.bn (by decide),a5 (by have:(2:Nat) ^ 4≤2 ^ 200:=Nat.pow_le_pow_right (by decide) (by decide);simp;omega),hm.bd (by decide),a5 (by decide),_,_,rfl,by omega,?_,?_⟩
 ·
  rw [Int.natAbs_mul,Int.natAbs_natCast]
  have e:(2:Nat) ^ 3700*2 ^ 4≤2 ^ 9000:=by rw [← Nat.pow_add];exact Nat.pow_le_pow_right (by decide) (by decide)
  refine Nat.lt_of_lt_of_le ?_ e
  show (msQ R ps k' kw l' lw).den*12 <_
  exact Nat.mul_lt_mul_of_lt_of_le hden (by decide) (by decide)
 walk_at "w"
 refine ⟨by decide,_,dj (ys:=x6) List.mem_cons_self (aj (aj aN)),?_⟩
 exact h ⟨k',kw,l',lw,_⟩ v x6 hx6 hk2 hl2 v1 v2 rfl
def qV (n:Nat) (a:Ask) (w:Bool):List Nat:=if w then onL n a.one a.other else onL n a.other a.one
def d6:FS:=fun ls post=>∃(R:Ring) (k:Nat) (w:Bool) (hk:k <R.asks.length),ls=[.d (aH R),.d (.int k),.d (.str (wayS w))]∧R.Ok∧∀c,post (.own c ((qV R.n R.asks[k] w).map fun (t:Nat)=>D.int (t:Int))) ls
def fB:W Fl:=(wSeq (m5 (wApp 7 (wVar 4)))
  (wSet 4 (wBin c8 (wBin bH (wVar 4) (wC (.int 1))) (aL cz (aVal (wBin opIx (wVar 0) (wC (.int 0))) aNil)))))
def jg:W Fl:=(wSeq (rY [3,4,5,6] (wBin opIx (wBin opIx (wVar 0) (wC (.int 1))) (wVar 1)))
  (wSeq (wIf (aI (wBin opEq (wVar 2) (wC (.str "back")))) (wPar 4 5 (wVar 5) (wVar 4)) bq)
  (wSeq (wSet 7 (wLst aNil))
  (wSeq (nD (aI (wBin opNe (wVar 4) (wVar 5))) fB)
  (wRet (lz 7))))))
theorem nu {f:Nat→Nat} {s m:Nat} (h:s <m):((List.range m).map f).take (s+1)=((List.range m).map f).take s++[f s]:=by
 rw [List.take_succ,List.getElem?_map,List.getElem?_range h]
 rfl
theorem qW {R:Ring} (hR:R.Ok) {x1 x2 x3 x6:L} {i j:Nat} (hi:i <R.n) (hj:j <R.n) (c:Addr) {post:Fl→Ev→Prop} (fin:post .nx [.d (aH R),x1,x2,x3,.d (.int j),.d (.int j),x6,.own c ((onL R.n i j).map fun (t:Nat)=>D.int (t:Int))]) :
  nD (aI (wBin opNe (wVar 4) (wVar 5))) fB [.d (aH R),x1,x2,x3,.d (.int i),.d (.int j),x6,.own c []] post:=by
 have hhi:=hR.hi
 have hlo:=hR.lo
 refine ⟨fun m ρ=>∃s,ρ=[.d (aH R),x1,x2,x3,.d (.int (((i+s) % R.n:Nat):Int)),.d (.int j),x6,.own c (((onL R.n i j).take s).map fun (t:Nat)=>D.int (t:Int))]∧s≤far R.n i j∧m=far R.n i j - s,⟨_,0,by rw [Nat.add_zero,Nat.mod_eq_of_lt hi];rfl,Nat.zero_le _,rfl⟩,?_⟩
 rintro m ρ ⟨s,rfl,hs,rfl⟩
 have hf:far R.n i j <R.n:=Nat.mod_lt _ (by omega)
 have hfe:=kY hi hj
 have hm:(i+s) % R.n=if i+s <R.n then i+s else i+s - R.n:=jJ (by omega)
 walk_at "w"
 by_cases hne:(i+s) % R.n=j
 ·
  have hs':s=far R.n i j:=by
   rw [hm] at hne
   rw [hfe] at hs ⊢
   split at hne<;>split at hs<;>split<;>omega
  rw [if_neg (fun z=>z (by rw [hne]))]
  rw [List.take_of_length_le (by rw [nR];omega),hne]
  exact fin
 ·
  have hs':s <far R.n i j:=by
   refine Nat.lt_of_le_of_ne hs fun z=>hne ?_
   rw [z,hfe] at hm
   rw [z,hfe,hm]
   split<;>split<;>omega
  rw [if_pos (fun z=>hne (Int.ofNat_inj.mp z))]
  unfold fB
  walk_at "w"
  refine ⟨?_,by omega,?_⟩
  ·
   rw [List.length_take]
   exact Nat.lt_of_le_of_lt (Nat.min_le_left _ _) (Nat.lt_of_lt_of_le (show s <12 by omega) (by decide))
  refine ⟨far R.n i j - (s+1),by omega,s+1,?_,hs',rfl⟩
  have e1:(onL R.n i j).take (s+1)=(onL R.n i j).take s++[(i+s) % R.n]:=nu hs'
  have e2:((((i+s) % R.n:Nat):Int)+1).fmod (R.n:Int)=(((i+(s+1)) % R.n:Nat):Int):=by
   have:=uN (n:=R.n) (i:=(i+s) % R.n) (s:=1)
   rw [Nat.mod_add_mod,Nat.add_assoc] at this
   exact this
  rw [e1,List.map_append]
  rw [e2]
  rfl
theorem pf:∀ls post,ls.length=3→d6 ls post→jg (ls++List.replicate 5 .un) (a7 ls post):=by
 rintro ls post - ⟨R,k,w,hk,rfl,hR,h⟩
 have ha:=hR.ask _ (List.getElem_mem hk)
 unfold jg
 walk_at "w"
 refine ⟨askD R.asks[k],bK hk,?_⟩
 walk_at "w"
 cases w with
 | true =>
  simp only [Bool.true_eq_false,if_false]
  refine ⟨by decide,fun c=>?_⟩
  refine qW hR ha.one ha.other c ?_
  walk_at "w"
  exact ⟨_,aj (aj (aj aN)),h c⟩
 | false =>
  simp only [if_true]
  refine ⟨by decide,fun c=>?_⟩
  refine qW hR ha.other ha.one c ?_
  walk_at "w"
  exact ⟨_,aj (aj (aj aN)),h c⟩
def df:FS:=fun ls post=>∃(d:D),ls=[.d d]∧(∀i j,d=.tup [.int i,.int j]→j.natAbs <2 ^ 9000)∧post (.d (.bl (ratB d))) ls
def br:W Fl:=(wIf (wOr (wNot (aI (wUn (fP "int") (wVar 1)))) (aI (wUn (fP "bool") (wVar 1)))) (wRet (wC (.bl false))) bq)
def dQ:W Fl:=(wSeq (wIf (wOr (wNot (aI (wUn (fP "tuple") (wVar 0)))) (aI (wBin opNe (aL cz (aVal (wVar 0) aNil)) (wC (.int 2))))) (wRet (wC (.bl false))) bq)
  (wSeq (wFor (wSrc (wVar 0)) (cj 1) br)
  (wSeq (wIf (aI (wBin opLt (wBin opIx (wVar 0) (wC (.int 1))) (wC (.int 1)))) (wRet (wC (.bl false))) bq)
  (wRet (wBin opEq (wVar 0) (aP bF (aVal (wBin opIx (wVar 0) (wC (.int 0))) (aVal (wBin opIx (wVar 0) (wC (.int 1))) aNil))))))))
theorem Dx {xs:List D} (h:xs.length≠2):ratB (.tup xs)=false:=kr fun i j e=>by
 cases e
 exact h rfl
theorem zb {x:D} (h:∀i,x≠.int i) {Q:Fl→Ev→Prop} {x0:L} (hq:∀ρ,ρ=[x0,.d x]→Q (.rt (.d (.bl false))) ρ):br [x0,.d x] Q:=by
 unfold br
 cases x with
 | int i=>exact absurd rfl (h i)
 | _ =>
  walk_at "w"
  exact hq _ rfl
theorem BH {i:Int} {Q:Fl→Ev→Prop} {x0:L} (hq:Q .nx [x0,.d (.int i)]):br [x0,.d (.int i)] Q:=by
 unfold br
 walk_at "w"
 simpa using hq
theorem FC {i j:Int} (h:0 <j):eqD (.tup [.int i,.int j]) (frD (Rat.divInt i j))=ratB (.tup [.int i,.int j]):=by
 cases e:ratB (.tup [.int i,.int j]) with
 | true =>
  obtain ⟨q,hq⟩:=Dm e
  have hq':D.tup [.int i,.int j]=.tup [.int q.num,.int (q.den:Int)]:=hq
  injection hq' with hq'
  have e1:=(List.cons.inj hq').1
  have e2:=(List.cons.inj (List.cons.inj hq').2).1
  injection e1 with e1
  injection e2 with e2
  rw [hq,e1,e2,Rat.num_divInt_den,xB]
  simp
 | false =>
  cases z:eqD (.tup [.int i,.int j]) (frD (Rat.divInt i j)) with
  | false=>rfl
  | true =>
   have z':eqD (.tup [.int i,.int j]) (.tup [.int (Rat.divInt i j).num,.int ((Rat.divInt i j).den:Int)])=true:=z
   rw [sf,cV,cV,jz,gf,gf,Bool.and_true,Bool.and_eq_true,decide_eq_true_iff,decide_eq_true_iff] at z'
   have w:=va (Rat.divInt i j)
   unfold frD at w
   rw [← z'.1,← z'.2,e] at w
   cases w
theorem kJ:∀ls post,ls.length=1→df ls post→dQ (ls++List.replicate 1 .un) (a7 ls post):=by
 rintro ls post - ⟨d,rfl,hs,h⟩
 unfold dQ
 have no:∀(ρ:Ev),ratB d=false→a7 [.d d] post (.rt (.d (.bl false))) ρ:=fun ρ e=>by
  rw [e] at h
  exact ⟨_,aj aN,h⟩
 cases d with
 | tup xs =>
  walk_at "w"
  by_cases e2:xs.length=2
  ·
   obtain ⟨a,b,rfl⟩:∃a b,xs=[a,b]:=by
    match xs,e2 with
    | [a,b],_=>exact ⟨a,b,rfl⟩
   rw [if_neg (by simp)]
   by_cases ha:∃i,a=.int i
   ·
    obtain ⟨i,rfl⟩:=ha
    unfold cB
    refine BH ?_
    by_cases hb:∃j,b=.int j
    ·
     obtain ⟨j,rfl⟩:=hb
     unfold cB
     refine BH ?_
     unfold cB
     walk_at "w"
     by_cases hj:j <1
     ·
      rw [if_pos hj]
      exact no _ (by show (decide (1≤j) && _)=false;rw [decide_eq_false (by omega)];rfl)
     ·
      rw [if_neg hj]
      refine ⟨i,j,rfl,by omega,hs i j rfl,?_⟩
      refine ⟨cm (n:=1) (by simp [okD,okDs]) (by decide),uw _,_,aj aN,?_⟩
      rw [FC (by omega)]
      exact h
    ·
     have hn:∀j,b≠.int j:=fun j e=>hb ⟨j,e⟩
     unfold cB
     refine zb hn fun ρ e=>?_
     exact no _ (kr fun i' j' e=>by cases e;exact hn _ rfl)
   ·
    have hn:∀j,a≠.int j:=fun j e=>ha ⟨j,e⟩
    unfold cB
    refine zb hn fun ρ e=>?_
    exact no _ (kr fun i' j' e=>by cases e;exact hn _ rfl)
  ·
   rw [if_pos (by omega)]
   exact no _ (Dx e2)
 | _ =>
  walk_at "w"
  exact no _ rfl
def b9:FS:=fun ls post=>∃(R:Ring) (ps:List Rat) (d:D),ls=[.d (aH R),.d (.lst (ps.map frD)),.d d]∧SlOk R ps∧(∀s,slOf d=some s→RB 4400 s.am)∧(∀a b c e i j,d=.tup [a,b,c,e,.tup [.int i,.int j]]→j.natAbs <2 ^ 9000)∧post (.d (.bl (slT R ps d))) ls
def eL:W L:=(wVar 0)
def eM:W Fl:=(wRet (wBin opEq (og 1 [11] (wSrc (aP d6 (aVal (wVar 0) (aVal (wVar 3) (aVal (wVar 4) aNil))))) (cj 0) (aI (wBin (rZ false) (wVar 0) (wVar 1))) eL) (wLst aNil)))
def cJ:W Fl:=(wSeq (wSet 10 (wFrz (aP bG (aVal (wBin opIx (wBin opIx (wBin opIx (wVar 0) (wC (.int 1))) (wVar 8)) (wC (.int 3))) (aVal (wFrz (aP cY (aVal (wVar 0) (aVal (wVar 1) (aVal (wVar 8) (aVal (wVar 9) aNil)))))) aNil)))))
  (wIf (aI (aP du (aVal (wVar 10) (aVal (wVar 7) aNil)))) (wRet (wC (.bl false))) bq))
def eN:W Fl:=(wSeq (wSet 11 (wFrz (aP d6 (aVal (wVar 0) (aVal (wVar 5) (aVal (wVar 6) aNil))))))
  eM)
def eO:W Fl:=(wSeq (wFor (wSrc (wLst (aVal (wTup (aVal (wVar 3) (aVal (wVar 4) aNil))) (aVal (wTup (aVal (wVar 5) (aVal (wVar 6) aNil))) aNil)))) (lA [8,9]) cJ)
  eN)
def cK:W Fl:=(wSeq (wIf (wOr (wNot (aI (wUn (fP "int") (wVar 8)))) (wOr (aI (wUn (fP "bool") (wVar 8))) (wNot (aI (nG opLe opLt (wC (.int 0)) (wVar 8) (aL cz (aVal (wBin opIx (wVar 0) (wC (.int 1))) aNil))))))) (wRet (wC (.bl false))) bq)
  (wIf (wOr (wNot (aI (wUn (fP "str") (wVar 9)))) (aI (wBin (rZ true) (wVar 9) (wTup (aVal (wC (.str "on")) (aVal (wC (.str "back")) aNil)))))) (wRet (wC (.bl false))) bq))
def eP:W Fl:=(wSeq (wIf (wOr (aI (wBin opEq (wVar 3) (wVar 5))) (wOr (wNot (aI (aP df (aVal (wVar 7) aNil)))) (aI (wBin opLe (wBin opIx (wVar 7) (wC (.int 0))) (wC (.int 0)))))) (wRet (wC (.bl false))) bq)
  eO)
def eQ:W Fl:=(wSeq (wFor (wSrc (wLst (aVal (wTup (aVal (wVar 3) (aVal (wVar 4) aNil))) (aVal (wTup (aVal (wVar 5) (aVal (wVar 6) aNil))) aNil)))) (lA [8,9]) cK)
  eP)
def eR:W Fl:=(wSeq (rY [3,4,5,6,7] (wVar 2))
  eQ)
def dR:W Fl:=(wSeq (wIf (wOr (wNot (aI (wUn (fP "tuple") (wVar 2)))) (aI (wBin opNe (aL cz (aVal (wVar 2) aNil)) (wC (.int 5))))) (wRet (wC (.bl false))) bq)
  eR)
theorem GK (w:Bool):inF (D.str (wayS w)) [D.str (Str.ofString "on"),D.str (Str.ofString "back")]=true:=by cases w <;> decide +kernel
theorem vc {q:Rat}:0 <q↔0 <q.num:=by
 rw [Rat.lt_iff]
 simp
theorem l4 {n:Nat} {a:Ask} (h:en n a) (w:Bool) (t:Nat):t∈qV n a w↔t∈wayL n a w:=by
 cases w with
 | true=>exact Iff.rfl
 | false =>
  show t∈onL n a.other a.one↔t∈my n a.one a.other
  rw [Bt h.other,uR h.one h.other h.ne]
  refine and_congr_right fun ht=>?_
  have:=yz h ht
  unfold isOn yy at this
  simp only at this
  rw [← decide_eq_true_iff (p:=far n a.other t <far n a.other a.one),this]
  simp
theorem wj {n:Nat} {a b:Ask} (ha:en n a) (hb:en n b) (aw bw:Bool):sS n a aw b bw=decide ((((qV n a aw).filter fun t=>decide (t∈qV n b bw)).map fun (t:Nat)=>(t:Int))=[]):=by
 unfold sS
 rw [Bool.eq_iff_iff,Bool.not_eq_true',List.any_eq_false,decide_eq_true_iff,List.map_eq_nil_iff,List.filter_eq_nil_iff]
 constructor
 ·
  intro h t ht
  rw [decide_eq_true_iff,l4 hb]
  have:=h t ((l4 ha aw t).mp ht)
  simpa using this
 ·
  intro h t ht
  have:=h t ((l4 ha aw t).mpr ht)
  rw [decide_eq_true_iff,l4 hb] at this
  simpa using this
theorem zc (p:Nat→Bool):∀l:List Nat,(l.filterMap fun t=>if p t=true then some (D.int (t:Nat)) else none)=((l.filter p).map fun (t:Nat)=>(t:Int)).map D.int
 | []=>rfl
 | a::l=>by
  rw [List.filterMap_cons,List.filter_cons,zc p l]
  cases p a<;>simp
theorem FM (w:Bool):kg (D.str (wayS w))=true:=by cases w<;>decide +kernel
theorem b5a {p q r s t:Bool} (h:(p && r)=false):(p && (q && (r && (s && t))))=false:=by revert h;cases p<;>cases q<;>cases r<;>simp
theorem b5b {p q r s t:Bool} (h:(q && s)=false):(p && (q && (r && (s && t))))=false:=by revert h;cases p<;>cases q<;>cases r<;>cases s<;>simp
theorem vd {R:Ring} {x1 x2 x3 x4 x5 x6 x7 x10 x11:L} {u w:D} {Q:Fl→Ev→Prop}
  (h:(hG u (R.asks.length:Int) && wayB w)=true→Q .nx [.d (aH R),x1,x2,x3,x4,x5,x6,x7,.d u,.d w,x10,x11])
  (h':(hG u (R.asks.length:Int) && wayB w)=false→Q (.rt (.d (.bl false))) [.d (aH R),x1,x2,x3,x4,x5,x6,x7,.d u,.d w,x10,x11]) :
  cK [.d (aH R),x1,x2,x3,x4,x5,x6,x7,.d u,.d w,x10,x11] Q:=by
 unfold cK
 have no:hG u (R.asks.length:Int)=false→(hG u (R.asks.length:Int) && wayB w)=false:=fun e=>by rw [e];rfl
 cases u with
 | int i =>
  walk_at "w"
  have e0:hG (.int i) (R.asks.length:Int)=decide (0≤i∧i <(R.asks.length:Int)):=rfl
  by_cases c:0≤i∧i <(R.asks.length:Int)
  ·
   rw [decide_eq_true c] at e0
   rw [e0,Bool.true_and] at h h'
   rw [if_pos c.1,if_neg (by omega)]
   cases w with
   | str z =>
    walk_at "w"
    rw [yP]
    refine ⟨by decide,rfl,rfl,?_⟩
    cases e:wayB (.str z) with
    | true =>
     walk_at "w"
     exact h e
    | false =>
     walk_at "w"
     exact h' e
   | _ =>
    walk_at "w"
    exact h' rfl
  ·
   rw [decide_eq_false c] at e0
   have h':=h' (no e0)
   by_cases c0:0≤i
   ·
    rw [if_pos c0,if_pos (by omega)]
    exact h'
   ·
    rw [if_neg c0]
    exact h'
 | _ =>
  walk_at "w"
  exact h' (no rfl)
theorem ve {R:Ring} {ps:List Rat} {x2 x3 x4 x5 x6 x10 x11:L} {am:Rat} {k:Nat} {w:Bool} {Q:Fl→Ev→Prop} (hS:SlOk R ps) (hk:k <ps.length) (ha:RB 4400 am)
  (h1:nsQ R ps k w <am→∀ρ,Back ρ [.d (aH R),.d (.lst (ps.map frD)),x2] [.d (aH R),.d (.lst (ps.map frD)),x2]→Q (.rt (.d (.bl false))) ρ) (h2:¬nsQ R ps k w <am→∀x10,Q .nx [.d (aH R),.d (.lst (ps.map frD)),x2,x3,x4,x5,x6,.d (frD am),.d (.int (k:Int)),.d (.str (wayS w)),x10,x11]) (hx:∃d,x2=.d d) :
  cJ [.d (aH R),.d (.lst (ps.map frD)),x2,x3,x4,x5,x6,.d (frD am),.d (.int (k:Int)),.d (.str (wayS w)),x10,x11] Q:=by
 have hk':k <R.asks.length:=by rw [← hS.len];exact hk
 have e:R.asks[k].size - nsQ R ps k (!w)=nsQ R ps k w:=by
  rw [← g9 hk']
  exact sU w
 obtain ⟨d,rfl⟩:=hx
 unfold cJ
 walk_at "w"
 refine ⟨_,bK hk',?_⟩
 walk_at "w"
 refine ⟨R,ps,k,w,rfl,hS,hk,?_⟩
 walk_at "w"
 have r1:=hS.sz_rb hk
 rw [g9 hk'] at r1
 have r2:RB 4400 (nsQ R ps k (!w)):=(lD hS hk _).mono (by decide)
 refine ⟨_,_,rfl,r1.mono (by decide),r2,?_⟩
 rw [e]
 walk_at "w"
 refine ⟨_,am,rfl,((lD hS hk w).mono (by decide)),ha.mono (by decide),?_⟩
 walk_at "w"
 by_cases q:nsQ R ps k w <am
 ·
  rw [if_pos q]
  exact h1 q _ (aj (aj (aj aN)))
 ·
  rw [if_neg q]
  exact h2 q _
theorem kK:∀ls post,ls.length=3→b9 ls post→dR (ls++List.replicate 9 .un) (a7 ls post):=by
 rintro ls post - ⟨R,ps,d,rfl,hS,ha0,hj,h⟩
 unfold dR
 have no:slT R ps d=false→∀ρ,Back ρ [.d (aH R),.d (.lst (ps.map frD)),.d d] [.d (aH R),.d (.lst (ps.map frD)),.d d]→a7 [.d (aH R),.d (.lst (ps.map frD)),.d d] post (.rt (.d (.bl false))) ρ:=fun e ρ b=>by
  rw [e] at h
  exact ⟨_,b,h⟩
 have nof:lF R.asks.length d=false→slT R ps d=false:=fun ef=>by
  unfold lF at ef
  unfold slT
  rw [hS.len]
  split
  ·
   rename_i s e
   rw [e] at ef
   have ef:(decide (s.k <R.asks.length) && decide (s.l <R.asks.length))=false:=ef
   rw [← Bool.and_assoc,ef]
   rfl
  ·
   rfl
 by_cases ht:∃xs,d=.tup xs
 rotate_left
 ·
  have e:=no (nof (vb fun xs e=>ht ⟨xs,e⟩))
  cases d with
  | tup xs=>exact absurd ⟨_,rfl⟩ ht
  | _ =>
   walk_at "w"
   exact e _ (aj (aj (aj aN)))
 obtain ⟨xs,rfl⟩:=ht
 by_cases h5:xs.length=5
 rotate_left
 ·
  have e:=no (nof (qH h5))
  walk_at "w"
  rw [if_pos (by omega)]
  exact e _ (aj (aj (aj aN)))
 obtain ⟨a,b,c,d,e,rfl⟩:=five h5
 walk_at "w"
 unfold eR
 walk_at "w"
 unfold eQ
 walk_at "w"
 rw [if_neg (by simp)]
 refine ⟨by decide,by decide,by decide,fun _=>?_⟩
 have nf1:(hG a (R.asks.length:Int) && wayB b)=false→slT R ps (.tup [a,b,c,d,e])=false:=fun z=>nof (by
  rw [oQ]
  exact b5a z)
 have nf2:(hG c (R.asks.length:Int) && wayB d)=false→slT R ps (.tup [a,b,c,d,e])=false:=fun z=>nof (by
  rw [oQ]
  exact b5b z)
 unfold cB
 refine vd (fun f1=>?_) fun f=>no (nf1 f) _ (aj (aj (aj aN)))
 unfold cB
 refine vd (fun f2=>?_) fun f=>no (nf2 f) _ (aj (aj (aj aN)))
 unfold cB
 rw [Bool.and_eq_true] at f1 f2
 obtain ⟨k,ek,hk'⟩:∃k,iO a=some k∧k <R.asks.length:=by
  have f:=f1.1
  rw [lZ] at f
  cases z:iO a with
  | none=>rw [z] at f;cases f
  | some k=>rw [z] at f;exact ⟨k,rfl,of_decide_eq_true f⟩
 obtain ⟨l,el,hl'⟩:∃k,iO c=some k∧k <R.asks.length:=by
  have f:=f2.1
  rw [lZ] at f
  cases z:iO c with
  | none=>rw [z] at f;cases f
  | some k=>rw [z] at f;exact ⟨k,rfl,of_decide_eq_true f⟩
 obtain ⟨kw,ekw⟩:∃w,ku b=some w:=Option.isSome_iff_exists.mp (by rw [← oP];exact f1.2)
 obtain ⟨lw,elw⟩:∃w,ku d=some w:=Option.isSome_iff_exists.mp (by rw [← oP];exact f2.2)
 have q1:=lY ek
 have q2:=lY el
 have q3:=lX ekw
 have q4:=lX elw
 subst q1 q2 q3 q4
 have hk:k <ps.length:=by rw [hS.len];exact hk'
 have hl:l <ps.length:=by rw [hS.len];exact hl'
 unfold eP
 walk_at "w"
 by_cases e1:k=l
 ·
  rw [if_pos (by omega)]
  refine no ?_ _ (aj (aj (aj aN)))
  unfold slT
  split
  ·
   rename_i s es
   have:=sV es
   simp only [slD] at this
   injection this with this
   injection this with t1 t2
   injection t2 with t2 t3
   injection t3 with t3 t4
   injection t1 with t1
   injection t3 with t3
   have:s.k=s.l:=by omega
   unfold slB
   simp [this]
  ·
   rfl
 rw [if_neg (by omega)]
 refine ⟨e,rfl,fun i j z=>?_,?_⟩
 ·
  subst z
  exact hj _ _ _ _ i j rfl
 cases er:ratB e with
 | false =>
  walk_at "w"
  refine no (nof ?_) _ (aj (aj (aj aN)))
  rw [oQ,er]
  simp
 | true =>
 obtain ⟨am,eam⟩:∃q,lE e=some q:=Option.isSome_iff_exists.mp (by rw [← yS];exact er)
 have q5:=u9 eam
 subst q5
 obtain ⟨s,hs⟩:∃s:dU,s=⟨k,kw,l,lw,am⟩:=⟨_,rfl⟩
 have es:slOf (.tup [.int (k:Int),.str (wayS kw),.int (l:Int),.str (wayS lw),frD am])=some s:=by rw [hs];exact kx ⟨k,kw,l,lw,am⟩
 have ha:=ha0 s es
 have eT:slT R ps (.tup [.int (k:Int),.str (wayS kw),.int (l:Int),.str (wayS lw),frD am])=slB R ps s:=by
  rw [hs]
  exact BD (s:=⟨k,kw,l,lw,am⟩) hk hl
 rw [eT] at h
 obtain rfl:k=s.k:=by rw [hs]
 obtain rfl:kw=s.kw:=by rw [hs]
 obtain rfl:l=s.l:=by rw [hs]
 obtain rfl:lw=s.lw:=by rw [hs]
 obtain rfl:am=s.am:=by rw [hs]
 clear hs
 walk_at "w"
 have ff:slB R ps s=false→∀ρ,Back ρ [.d (aH R),.d (.lst (ps.map frD)),.d (.tup [.int (s.k:Int),.str (wayS s.kw),.int (s.l:Int),.str (wayS s.lw),frD s.am])] [.d (aH R),.d (.lst (ps.map frD)),.d (.tup [.int (s.k:Int),.str (wayS s.kw),.int (s.l:Int),.str (wayS s.lw),frD s.am])] →
   a7 [.d (aH R),.d (.lst (ps.map frD)),.d (.tup [.int (s.k:Int),.str (wayS s.kw),.int (s.l:Int),.str (wayS s.lw),frD s.am])] post (.rt (.d (.bl false))) ρ:=fun e ρ b=>by
  rw [e] at h
  exact ⟨_,b,h⟩
 have hb:∀ρ,Back ρ [.d (aH R),.d (.lst (ps.map frD)),.d (.tup [.int (s.k:Int),.str (wayS s.kw),.int (s.l:Int),.str (wayS s.lw),frD s.am])] [.d (aH R),.d (.lst (ps.map frD)),.d (.tup [.int (s.k:Int),.str (wayS s.kw),.int (s.l:Int),.str (wayS s.lw),frD s.am])]:=fun ρ=>aj (aj (aj aN))
 by_cases e2:0 <s.am
 ·
  rw [if_neg (by have:=vc.mp e2;omega)]
  unfold eO
  walk_at "w"
  refine ⟨by decide,by decide,by decide,fun _=>?_⟩
  unfold cB
  refine ve hS hk ha (fun q ρ b=>?_) (fun q1 x10=>?_) ⟨_,rfl⟩
  ·
   exact ff (by unfold slB;rw [decide_eq_true (p:=msQ R ps s.k s.kw s.l s.lw <s.am) (Dp.mpr (.inl q))];simp) _ b
  unfold cB
  refine ve hS hl ha (fun q ρ b=>?_) (fun q2 x10=>?_) ⟨_,rfl⟩
  ·
   exact ff (by unfold slB;rw [decide_eq_true (p:=msQ R ps s.k s.kw s.l s.lw <s.am) (Dp.mpr (.inr q))];simp) _ b
  unfold cB
  unfold eN
  walk_at "w"
  refine ⟨R,s.l,s.lw,hl',rfl,hS.ok,fun c=>?_⟩
  walk_at "w"
  unfold eM
  walk_at "w"
  refine ⟨R,s.k,s.kw,hk',rfl,hS.ok,fun c2=>?_⟩
  walk_at "w"
  have aok:=hS.ok.ask _ (List.getElem_mem hk')
  have bok:=hS.ok.ask _ (List.getElem_mem hl')
  have hlen:(qV R.n R.asks[s.k] s.kw).length≤99:=by
   have hhi:=hS.ok.hi
   unfold qV
   cases s.kw
   ·
    have:=qy (n:=R.n) (i:=R.asks[s.k].other) (j:=R.asks[s.k].one) (by have:=hS.ok.lo;omega)
    simp only [Bool.false_eq_true,if_false,nR]
    omega
   ·
    have:=qy (n:=R.n) (i:=R.asks[s.k].one) (j:=R.asks[s.k].other) (by have:=hS.ok.lo;omega)
    simp only [if_true,nR]
    omega
  refine ⟨qG hlen,jF (h:=fun t=>if decide (t∈qV R.n R.asks[s.l] s.lw)=true then some (D.int (t:Nat)) else none) _ [] _ (fun t hm Q hq=>?_) fun l' a1=>?_⟩
  ·
   unfold eL
   walk_at "w"
   refine ⟨rfl,by simp [kg],?_⟩
   rw [oG]
   by_cases q:t∈qV R.n R.asks[s.l] s.lw
   ·
    simp only [decide_eq_true q,if_true] at hq ⊢
    exact hq
   ·
    simp only [decide_eq_false q,Bool.false_eq_true,if_false] at hq ⊢
    exact hq
  ·
   rw [List.nil_append,zc]
   refine ⟨by decide,fun _=>⟨nN _,nN [],?_⟩⟩
   rw [show (D.lst [])=D.lst (([]:List Int).map D.int) from rfl,As,← wj aok bok]
   refine ⟨_,hb _,?_⟩
   unfold slB at h
   rw [decide_eq_false e1,decide_eq_true e2,decide_eq_false (p:=msQ R ps s.k s.kw s.l s.lw <s.am) (fun z=>(Dp.mp z).elim q1 q2),lW hk',lW hl'] at h
   simpa using h
 ·
  rw [if_pos (by have:¬0 <s.am.num:=fun z=>e2 (vc.mpr z);omega)]
  exact ff (by unfold slB;simp [e2]) _ (hb _)
def d7:FS:=fun ls post=>∃(R:Ring) (ps:List Rat) (ss:List D) (E:Nat),ls=[.d (aH R),.d (.lst (ps.map frD)),.d (.lst ss)]∧SlOk R ps∧ss.length≤99∧(∀d∈ss,∀s,slOf d=some s→RB 4000 s.am∧s.am.den∣E)∧(0 <E∧E <2 ^ 1500∧(∀a∈R.asks,a.size.den∣E)∧(∀p∈ps,p.den∣E)) ∧
 (badD R 0 ps ss=none→∀a b,post (.bx (some a) [.own b ((runD R ps ss).map frD),.d .non]) ls)∧∀i,badD R 0 ps ss=some i→∀a,post (.bx (some a) [.d .non,.d (.int (i:Int))]) ls
def jh:W Fl:=(wSeq (wSet 3 (wC .non))
  (wSeq (wSet 4 (wC .non))
  (wSeq (xT (fun xt=>(wSet 3 (uC eK xt (aVal (wVar 0) (aVal (wVar 1) (aVal (wVar 2) aNil)))))) "LoadError" 5 (wSeq (wIf (wAnd (aI (wUn (Ai "NoSlide") (wVar 5))) (aI (wUn (fP "ValueError") (wVar 5)))) (wSet 4 (wUn (xV "number") (wVar 5))) bq)
  (wIf (wOr (aI (wUn (uD ["NoChange","NoNumber","NoRing","NoTree","TooMany"]) (wVar 5))) (aI (wUn (fP "bool") (wVar 4)))) (wSet 4 (wC .non)) bq)))
  (wRet (CA (aVal (lz 3) (aVal (lz 4) aNil)))))))
theorem tdA:(Str.ofString "NoSlide" == Str.ofString "NoSlide" || Str.ofString "NoSlide" == Str.ofString "LoadError")=true:=by rw [beq_self_eq_true,Bool.true_or]
theorem tdV (i:Nat):isTy "ValueError" (.exc (Str.ofString "NoSlide") [Str.ofString "number"] [.int (i:Int)])=true:=by first | rfl | simp [isTy] | decide +kernel
theorem tdL {i:Nat}:List.lookup (Str.ofString "number") ([Str.ofString "number"].zip [D.int (i:Int)])=some (D.int (i:Int)):=by
 show List.lookup (Str.ofString "number") [(Str.ofString "number",D.int (i:Int))]=_
 rw [List.lookup_cons_self]
theorem tdN:([Str.ofString "NoChange",Str.ofString "NoNumber",Str.ofString "NoRing",Str.ofString "NoTree",Str.ofString "TooMany"].any fun c=>c == Str.ofString "NoSlide" || c == Str.ofString "LoadError")=false:=by decide +kernel
theorem ph:∀ls post,ls.length=3→d7 ls post→jh (ls++List.replicate 3 .un) (a7 ls post):=by
 rintro ls post - ⟨R,ps,ss,E,rfl,hS,hl,hs,hE,h1,h2⟩
 unfold jh
 walk_at "w"
 refine ⟨R,ps,ss,E,rfl,hS,hl,hs,hE,fun e a=>?_,fun i e=>?_⟩
 ·
  walk_at "w"
  exact ⟨by decide,fun b=>⟨_,aj (aj (aj aN)),h1 e b a⟩⟩
 ·
  dsimp only
  rw [if_pos tdA,if_pos (tdV i),tdL]
  dsimp only
  rw [if_neg (by rw [tdN];decide)]
  walk_at "w"
  exact ⟨Bool.or_true _,by decide,fun b=>⟨_,aj (aj (aj aN)),h2 i e b⟩⟩
def cZ:FS:=fun ls post=>∃p q:Rat,ls=[.d (frD p),.d (frD q)]∧RB 400000 p∧RB 400000 q∧p.den*q.den <2 ^ 9000∧post (.d (frD (p+q))) ls
def ji:W Fl:=(wRet (aP bF (aVal (wFrz (wBin bH (wBin bf (wBin opIx (wVar 0) (wC (.int 0))) (wBin opIx (wVar 1) (wC (.int 1)))) (wBin bf (wBin opIx (wVar 1) (wC (.int 0))) (wBin opIx (wVar 0) (wC (.int 1)))))) (aVal (wFrz (wBin bf (wBin opIx (wVar 0) (wC (.int 1))) (wBin opIx (wVar 1) (wC (.int 1))))) aNil))))
theorem pj:∀ls post,ls.length=2→cZ ls post→ji (ls++List.replicate 0 .un) (a7 ls post):=by
 rintro ls post - ⟨p,q,rfl,hp,hq,hz,h⟩
 unfold ji
 walk_at "w"
 refine ⟨hp.bn (by decide),hq.bd (by decide),hq.bn (by decide),hp.bd (by decide),hp.bd (by decide),hq.bd (by decide),_,_,rfl,oy p q,by rw [lR];exact hz,_,aj (aj aN),?_⟩
 rw [uu]
 exact h
theorem qX {p q:Rat} {post:L→List L→Prop} (hp:RB 4400 p) (hq:RB 4400 q) (h:post (.d (frD (p+q))) [.d (frD p),.d (frD q)]):cZ [.d (frD p),.d (frD q)] post :=
 ⟨p,q,rfl,hp.mono (by decide),hq.mono (by decide),Nat.lt_of_lt_of_le (bJ hp.2 hq.2) (Nat.pow_le_pow_right (by decide) (by decide)),h⟩
def OddD (am:Rat) (d:D):Prop:=∀u,slOf d=some u→oddA am u.am
structure OddR (d:D):Prop where
 ok:okD 5 d=true
 sh:a9 d=true
 sg:sgnD d≤5000
 dn:∀a b c e i j,d=.tup [a,b,c,e,.tup [.int i,.int j]]→j.natAbs <2 ^ 9000
def jj:FS:=fun ls post=>∃(a:Addr) (xs:List D) (s:dU) (m:Nat),ls=[.own a xs,.d (slD s),.d (.int (m:Int))]∧StOk xs∧RB 1800 s.am∧s.k <20∧s.l <20∧m≤20∧∀(d:D) (ys:List D),StOk ys→OddD s.am d→OddR d→post (.d d) [.own a ys,.d (slD s),.d (.int (m:Int))]
def j3:W Fl:=(wRet (cA 9 (wIxV 9 (aZ az 0 0 (aVar 0 (aVal (wC (.int 25)) aNil)))) (wBin opIx (wVar 9) (aZ az 0 0 (aVar 0 (aVal (wC (.int 25)) aNil))))))
def j4:W Fl:=(wSeq (m5 (wApp 9 (wTup (aVal (wVar 3) (aVal (wVar 4) (aVal (wVar 5) (aVal (wVar 6) (aVal (wTup (aVal (wBin opIx (wVar 7) (wC (.int 0))) (aVal (wC (.bl true)) aNil))) aNil))))))))
  j3)
def j5:W Fl:=(wSeq (wSet 9 (wBin bH (wVar 9) (wLst (aVal (wTup (aVal (wVar 3) (aVal (wVar 4) (aVal (wVar 5) (aVal (wC (.str "up")) (aVal (wVar 7) aNil)))))) (aVal (wTup (aVal (wVar 3) (aVal (wVar 4) (aVal (wVar 5) (aVal (wC (.str "On")) (aVal (wVar 7) aNil)))))) aNil)))))
  j4)
def j6:W Fl:=(wSeq (wSet 9 (wBin bH (wVar 9) (wLst (aVal (wTup (aVal (wVar 3) (aVal (wVar 4) (aVal (wVar 2) (aVal (wVar 6) (aVal (wVar 7) aNil)))))) (aVal (wTup (aVal (wVar 3) (aVal (wVar 4) (aVal (wC (.bl true)) (aVal (wVar 6) (aVal (wVar 7) aNil)))))) aNil)))))
  j5)
def j7:W Fl:=(wSeq (wSet 9 (wBin bH (wVar 9) (wLst (aVal (wTup (aVal (wUn rT (wC (.int 1))) (aVal (wVar 4) (aVal (wVar 5) (aVal (wVar 6) (aVal (wVar 7) aNil)))))) (aVal (wTup (aVal (wVar 2) (aVal (wVar 4) (aVal (wVar 5) (aVal (wVar 6) (aVal (wVar 7) aNil)))))) aNil)))))
  j6)
def k6:W Fl:=(wSeq (wSet 9 (wBin bH (wVar 9) (wLst (aVal (wTup (aVal (wVar 3) (aVal (wVar 4) (aVal (wVar 5) (aVal (wVar 6) (aVal (wVar 11) aNil)))))) (aVal (wTup (aVal (wVar 3) (aVal (wFrz (wLst (aVal (wVar 4) aNil))) (aVal (wVar 5) (aVal (wVar 6) (aVal (wVar 7) aNil)))))) aNil)))))
  j7)
def k7:W Fl:=(wSeq (wSet 9 (wBin bH (wVar 9) (wLst (aVal (wTup (aVal (wVar 3) (aVal (wVar 4) (aVal (wVar 5) (aVal (wVar 6) (aVal (wTup (aVal (wC (.int 2)) (aVal (wC (.int 4)) aNil))) aNil)))))) (aVal (wTup (aVal (wVar 3) (aVal (wVar 4) (aVal (wVar 5) (aVal (wVar 6) (aVal (wTup (aVal (wC (.bl true)) (aVal (wC (.int 1)) aNil))) aNil)))))) aNil)))))
  k6)
def k8:W Fl:=(wSeq (wSet 9 (wBin bH (wVar 9) (wLst (aVal (wTup (aVal (wVar 3) (aVal (wVar 4) (aVal (wVar 5) (aVal (wC .non) (aVal (wVar 7) aNil)))))) (aVal (wTup (aVal (wVar 3) (aVal (wVar 4) (aVal (wC (.int 20)) (aVal (wVar 6) (aVal (wVar 7) aNil)))))) (aVal (wTup (aVal (wVar 3) (aVal (wVar 4) (aVal (wVar 5) (aVal (wVar 6) (aVal (wC (.int 1)) aNil)))))) aNil))))))
  k7)
def k9:W Fl:=(wSeq (wSet 9 (wBin bH (wVar 9) (wLst (aVal (wTup (aVal (wVar 3) (aVal (wC (.str "up")) (aVal (wVar 5) (aVal (wVar 6) (aVal (wVar 7) aNil)))))) (aVal (wC .non) aNil)))))
  k8)
def la:W Fl:=(wSeq (wSet 9 (wBin bH (wVar 9) (wLst (aVal (wTup (aVal (wC (.bl true)) (aVal (wVar 4) (aVal (wVar 5) (aVal (wVar 6) (aVal (wVar 7) aNil)))))) (aVal (wTup (aVal (wVar 3) (aVal (wVar 4) (aVal (wUn rT (wC (.int 1))) (aVal (wVar 6) (aVal (wVar 7) aNil)))))) aNil)))))
  k9)
def lb:W Fl:=(wSeq (wSet 9 (wBin bH (wVar 9) (wLst (aVal (wTup (aVal (wVar 3) (aVal (wVar 4) (aVal (wVar 5) (aVal (wVar 6) (aVal (wTup (aVal (wC (.int 0)) (aVal (wC (.int 1)) aNil))) aNil)))))) (aVal (wTup (aVal (wVar 3) (aVal (wVar 4) (aVal (wVar 5) (aVal (wVar 6) (aVal (wVar 10) aNil)))))) (aVal (wFrz (aL jv (aVal (wVar 1) aNil))) (aVal (wFrz (wSl2 (wVar 1) none (some (wC (.int 4))))) aNil)))))))
  la)
def lg:W Fl:=(wSeq (wSet 11 (wTup (aVal (wBin fO (wC (.int 0)) (wBin opIx (wVar 7) (wC (.int 0)))) (aVal (wBin opIx (wVar 7) (wC (.int 1))) aNil))))
  lb)
def lh:W Fl:=(wSeq (wSet 10 (wFrz (aP cZ (aVal (wVar 7) (aVal (wTup (aVal (wC (.int 1)) (aVal (wC (.int 7)) aNil))) aNil)))))
  lg)
def lj:W Fl:=(wSeq (wSet 9 (wLst (aVal (wTup (aVal (wVar 5) (aVal (wVar 4) (aVal (wVar 5) (aVal (wVar 6) (aVal (wVar 7) aNil)))))) (aVal (wTup (aVal (wVar 3) (aVal (An 8 (wVar 4)) (aVal (wVar 5) (aVal (wVar 6) (aVal (wVar 7) aNil)))))) (aVal (wTup (aVal (wVar 3) (aVal (wVar 4) (aVal (wVar 5) (aVal (An 8 (wVar 6)) (aVal (wVar 7) aNil)))))) aNil)))))
  lh)
def ll:W Fl:=(wSeq (wSet 8 (wDct [(.inr "on",(.str "back")),(.inr "back",(.str "on"))]))
  lj)
def kM:W Fl:=(wSeq (rY [3,4,5,6,7] (wVar 1))
  ll)
theorem cg {am:Rat} {a b c d:D}:OddD am (.tup [a,b,c,d,frD am]):=odd5 fun q h=>by
 rw [jL] at h
 exact .inl (Option.some.inj h).symm
theorem pk {am:Rat} {a b c d e:D} (h:lE e=none):OddD am (.tup [a,b,c,d,e]):=odd5 fun q h'=>by
 rw [h] at h'
 cases h'
theorem lU (w:Bool):valD [(.inr (Str.ofString "on"),D.str (Str.ofString "back")),(.inr (Str.ofString "back"),D.str (Str.ofString "on"))] (.inr (wayS w))=some (.str (wayS !w)):=by cases w <;> rfl
theorem cut5 (a b c d e:D):cutD [a,b,c,d,e] none (some 4)=[a,b,c,d]:=rfl
theorem FD {xs:List D} {P Q:D→Prop} {r:Int} (h:∀d∈xs,P d) (r0:0≤r) (r1:r <(xs.length:Int)) (k:∀d,P d→Q d):∃v,atI xs r=some v∧Q v:=by
 obtain ⟨v,e,hm⟩:=Dq r0 r1
 exact ⟨v,e,k v (h v hm)⟩
theorem pq {am:Rat} {d:D} (h:slOf d=none):OddD am d:=fun u h'=>by
 rw [h] at h'
 cases h'
structure At (n:Nat) (d:D):Prop where
 ok:okD 4 d=true
 sh:a9 d=true
 sg:sgnD d≤n
theorem At.mono {n m:Nat} {d:D} (h:At n d) (hm:n≤m):At m d:=⟨h.ok,h.sh,Nat.le_trans h.sg hm⟩
theorem At.int {i:Int} (h:i.natAbs <2 ^ 1900):At 700 (.int i):=⟨by simp [okD],by simp only [a9,decide_eq_true_eq];exact h,by simp [sgnD]⟩
theorem At.nat {n:Nat} (h:n≤20):At 700 (.int (n:Int)):=At.int (by
 have:(2:Nat) ^ 5≤2 ^ 1900:=Nat.pow_le_pow_right (by decide) (by decide)
 rw [Int.natAbs_natCast]
 omega)
theorem At.one:At 700 (.int 1):=At.nat (n:=1) (by decide)
theorem At.neg:At 700 (.int (-1)):=At.int (by
 have:(2:Nat) ^ 5≤2 ^ 1900:=Nat.pow_le_pow_right (by decide) (by decide)
 show 1 <_
 omega)
theorem At.bl (b:Bool):At 700 (.bl b):=⟨by simp [okD],by simp [a9],by simp [sgnD]⟩
theorem At.non:At 700 .non:=⟨by simp [okD],by simp [a9],by simp [sgnD]⟩
theorem At.way (w:Bool):At 700 (.str (wayS w)):=by cases w<;>exact ⟨by decide +kernel,rfl,by decide +kernel⟩
theorem At.up:At 700 (.str (Str.ofString "up")):=⟨by decide +kernel,rfl,by decide +kernel⟩
theorem At.On:At 700 (.str (Str.ofString "On")):=⟨by decide +kernel,rfl,by decide +kernel⟩
theorem At.lway (w:Bool):At 700 (.lst [.str (wayS w)]):=by cases w<;>exact ⟨by decide +kernel,rfl,by decide +kernel⟩
theorem At.two {a b:D} (h1:okD 3 a=true) (h2:okD 3 b=true) (ha:At 602 a) (hb:At 602 b):At 1300 (.tup [a,b]):=by
 refine ⟨by simp only [okD,okDs,h1,h2,Bool.and_self,Bool.and_true],by simp only [a9,bR,ha.sh,hb.sh,Bool.and_self,Bool.and_true],?_⟩
 have:=ha.sg
 have:=hb.sg
 simp only [sgnD,mv]
 omega
theorem At.i602 {i:Int} (h:i.natAbs <2 ^ 1900):At 602 (.int i):=⟨by simp [okD],by simp only [a9,decide_eq_true_eq];exact h,by simp [sgnD]⟩
theorem At.b602 (b:Bool):At 602 (.bl b):=⟨by simp [okD],by simp [a9],by simp [sgnD]⟩
theorem At.ints {i j:Int} (h:i.natAbs <2 ^ 1900) (h':j.natAbs <2 ^ 1900):At 1300 (.tup [.int i,.int j]):=At.two (by simp [okD]) (by simp [okD]) (At.i602 h) (At.i602 h')
theorem At.fr {q:Rat} {n:Nat} (h:RB n q) (hn:n≤1900):At 1300 (frD q):=At.ints (mC h.1 hn) (by rw [Int.natAbs_natCast];exact mC h.2 hn)
theorem gL {i:Int} (h:i.natAbs≤4):i.natAbs <2 ^ 1900:=Nat.lt_of_le_of_lt h (Nat.lt_of_lt_of_le (show 4 <2 ^ 5 by decide) (Nat.pow_le_pow_right (by decide) (by decide)))
theorem dA {a b c d e:D} (h1:At 700 a) (h2:At 700 b) (h3:At 700 c) (h4:At 700 d) (h5:At 1300 e):OddR (.tup [a,b,c,d,e]):=by
 have s1:=h1.sg
 have s2:=h2.sg
 have s3:=h3.sg
 have s4:=h4.sg
 have s5:=h5.sg
 refine ⟨by simp only [okD,okDs,h1.ok,h2.ok,h3.ok,h4.ok,h5.ok,Bool.and_self,Bool.and_true],by simp only [a9,bR,h1.sh,h2.sh,h3.sh,h4.sh,h5.sh,Bool.and_self,Bool.and_true],by simp only [sgnD,mv];omega,fun a' b' c' e' i j z=>?_⟩
 injection z with z
 injection z with _ z
 injection z with _ z
 injection z with _ z
 injection z with _ z
 injection z with z _
 subst z
 have g5:=h5.sh
 simp only [a9,bR,Bool.and_true,Bool.and_eq_true,decide_eq_true_eq] at g5
 exact Nat.lt_of_lt_of_le g5.2 (Nat.pow_le_pow_right (by decide) (by decide))
theorem GL {a b c d e:D} (h1:At 700 a) (h2:At 700 b) (h3:At 700 c) (h4:At 700 d) (h5:At 1300 e):OddR (.lst [a,b,c,d,e]):=by
 have r:=dA h1 h2 h3 h4 h5
 exact ⟨by simpa only [okD] using r.ok,by simpa only [a9] using r.sh,by simpa only [sgnD] using r.sg,fun _ _ _ _ _ _ z=>by cases z⟩
theorem GM {a b c d:D} (h1:At 700 a) (h2:At 700 b) (h3:At 700 c) (h4:At 700 d):OddR (.tup [a,b,c,d]):=by
 have s1:=h1.sg
 have s2:=h2.sg
 have s3:=h3.sg
 have s4:=h4.sg
 exact ⟨by simp only [okD,okDs,h1.ok,h2.ok,h3.ok,h4.ok,Bool.and_self,Bool.and_true],by simp only [a9,bR,h1.sh,h2.sh,h3.sh,h4.sh,Bool.and_self,Bool.and_true],by simp only [sgnD,mv];omega,fun _ _ _ _ _ _ z=>by cases z⟩
def Odd2 (am:Rat) (d:D):Prop:=OddD am d∧OddR d
theorem Dy {am:Rat} {k l kw lw tk tl m:D} (ha:RB 1800 am) (hk:At 700 k) (hl:At 700 l) (hkw:At 700 kw) (hlw:At 700 lw) (htk:At 700 tk) (htl:At 700 tl) (hm:At 700 m) (hL:At 700 (.lst [kw])) :
  ∀d∈[D.tup [l,kw,l,lw,frD am],.tup [k,tk,l,lw,frD am],.tup [k,kw,l,tl,frD am],.tup [k,kw,l,lw,.tup [.int 0,.int 1]],.tup [k,kw,l,lw,frD (am+Rat.divInt 1 7)],.lst [k,kw,l,lw,frD am],.tup [k,kw,l,lw],
  .tup [.bl true,kw,l,lw,frD am],.tup [k,kw,.int (-1),lw,frD am],.tup [k,.str (Str.ofString "up"),l,lw,frD am],.non,.tup [k,kw,l,.non,frD am],.tup [k,kw,.int 20,lw,frD am],.tup [k,kw,l,lw,.int 1],.tup [k,kw,l,lw,.tup [.int 2,.int 4]],.tup [k,kw,l,lw,.tup [.bl true,.int 1]],
  .tup [k,kw,l,lw,.tup [.int (0 - am.num),.int (am.den:Int)]],.tup [k,.lst [kw],l,lw,frD am],.tup [.int (-1),kw,l,lw,frD am],.tup [m,kw,l,lw,frD am],.tup [k,kw,m,lw,frD am],.tup [k,kw,.bl true,lw,frD am],.tup [k,kw,l,.str (Str.ofString "up"),frD am],.tup [k,kw,l,.str (Str.ofString "On"),frD am],.tup [k,kw,l,lw,.tup [.int am.num,.bl true]]],Odd2 am d:=by
 have hf:At 1300 (frD am):=At.fr ha (by decide)
 have a1:=mC ha.1 (by decide)
 have a2:=mC ha.2 (by decide)
 simp only [List.forall_mem_cons]
 refine ⟨⟨cg,dA hl hkw hl hlw hf⟩,⟨cg,dA hk htk hl hlw hf⟩,⟨cg,dA hk hkw hl htl hf⟩,⟨odd5 fun q h=>?_,dA hk hkw hl hlw (At.ints (gL (by decide)) (gL (by decide)))⟩,⟨odd5 fun q h=>?_,dA hk hkw hl hlw (At.fr (ha.add (show RB 10 (Rat.divInt 1 7) from ⟨by decide,by decide⟩)) (by decide))⟩,⟨pq rfl,GL hk hkw hl hlw hf⟩,⟨pq rfl,GM hk hkw hl hlw⟩,
  ⟨cg,dA (At.bl _) hkw hl hlw hf⟩,⟨cg,dA hk hkw At.neg hlw hf⟩,⟨cg,dA hk At.up hl hlw hf⟩,⟨pq rfl,⟨by simp [okD],by simp [a9],by simp [sgnD],fun _ _ _ _ _ _ z=>by cases z⟩⟩,⟨cg,dA hk hkw hl At.non hf⟩,⟨cg,dA hk hkw (At.nat (n:=20) (by decide)) hlw hf⟩,⟨pk rfl,dA hk hkw hl hlw (At.one.mono (by decide))⟩,
  ⟨pk (by decide),dA hk hkw hl hlw (At.ints (gL (by decide)) (gL (by decide)))⟩,⟨pk rfl,dA hk hkw hl hlw (At.two (by simp [okD]) (by simp [okD]) (At.b602 _) (At.i602 (gL (by decide))))⟩,⟨odd5 fun q h=>?_,dA hk hkw hl hlw (At.ints (by rw [Int.zero_sub,Int.natAbs_neg];exact a1) (by rw [Int.natAbs_natCast];exact a2))⟩,⟨cg,dA hk hL hl hlw hf⟩,
  ⟨cg,dA At.neg hkw hl hlw hf⟩,⟨cg,dA hm hkw hl hlw hf⟩,⟨cg,dA hk hkw hm hlw hf⟩,⟨cg,dA hk hkw (At.bl _) hlw hf⟩,⟨cg,dA hk hkw hl At.up hf⟩,⟨cg,dA hk hkw hl At.On hf⟩,⟨pk rfl,dA hk hkw hl hlw (At.two (by simp [okD]) (by simp [okD]) (At.i602 a1) (At.b602 _))⟩,fun d h=>by cases h⟩
 ·
  rw [show D.tup [.int 0,.int 1]=frD 0 from rfl,jL] at h
  exact .inr (.inl (Option.some.inj h).symm)
 ·
  rw [jL] at h
  exact .inr (.inr (.inl (Option.some.inj h).symm))
 ·
  rw [vZ] at h
  exact .inr (.inr (.inr (Option.some.inj h).symm))
theorem qY:∀ls post,ls.length=3→jj ls post→kM (ls++List.replicate 9 .un) (a7 ls post):=by
 rintro ls post - ⟨a,xs,s,m,rfl,hx,ha,hk,hl,hm,h⟩
 unfold kM
 simp only [slD]
 walk_at "w"
 unfold ll
 walk_at "w"
 unfold lj
 walk_at "w"
 refine fun b=>⟨by decide,_,lU _,by decide,_,lU _,by decide,by decide,fun c0=>?_⟩
 walk_at "w"
 unfold lh
 walk_at "w"
 refine ⟨by decide,qX (q:=Rat.divInt 1 7) (ha.mono (by decide)) ⟨by decide,by decide⟩ ?_⟩
 walk_at "w"
 unfold lg
 walk_at "w"
 refine ⟨by decide,?_⟩
 unfold lb
 walk_at "w"
 refine ⟨by decide,by decide,by decide,fun _=>⟨by decide,by decide,fun _=>⟨by decide,fun _=>?_⟩⟩⟩
 rw [cut5]
 unfold la
 walk_at "w"
 repeat (first|(with_reducible intro _)|(with_reducible apply And.intro;· decide))
 unfold k9
 walk_at "w"
 repeat (first|(with_reducible intro _)|(with_reducible apply And.intro;· decide))
 unfold k8
 walk_at "w"
 repeat (first|(with_reducible intro _)|(with_reducible apply And.intro;· decide))
 unfold k7
 walk_at "w"
 repeat (first|(with_reducible intro _)|(with_reducible apply And.intro;· decide))
 unfold k6
 walk_at "w"
 repeat (first|(with_reducible intro _)|(with_reducible apply And.intro;· decide))
 unfold j7
 walk_at "w"
 repeat (first|(with_reducible intro _)|(with_reducible apply And.intro;· decide))
 unfold j6
 walk_at "w"
 repeat (first|(with_reducible intro _)|(with_reducible apply And.intro;· decide))
 unfold j5
 walk_at "w"
 repeat (first|(with_reducible intro _)|(with_reducible apply And.intro;· decide))
 unfold j4
 walk_at "w"
 refine ⟨by decide,by decide,by decide,?_⟩
 unfold j3
 walk_at "w"
 refine ⟨a,xs,25,rfl,hx,by decide,by decide,fun r ys hy r0 r1=>⟨ys,rfl,?_⟩⟩
 walk_at "w"
 refine FD (P:=Odd2 s.am) (Dy ha (At.nat (by omega)) (At.nat (by omega)) (At.way _) (At.way _) (At.way _) (At.way _) (At.nat hm) (At.lway _)) r0 (by simpa using r1) fun d hd=>?_
 exact ⟨_,dj (ys:=ys) List.mem_cons_self (aj (aj aN)),h d ys hy hd.1 hd.2⟩
def gM:FS:=fun ls post=>∃(ps:List Rat) (s:dU),ls=[.d (.lst (ps.map frD)),.d (slD s)]∧ps.length≤20∧s.k <ps.length∧s.l <ps.length∧s.k≠s.l∧(∀p∈ps,RB 4000 p)∧RB 4000 s.am∧∀a,post (.own a ((slL ps s).map frD)) ls
def fC:W Fl:=(wIf (aI (wBin opEq (wVar 9) (wC (.str "on")))) (n6 7 (wVar 8) (aP cZ (aVal (cA 7 (wIxV 7 (wVar 8)) (wBin opIx (wVar 7) (wVar 8))) (aVal (wVar 6) aNil)))) (n6 7 (wVar 8) (aP bG (aVal (cA 7 (wIxV 7 (wVar 8)) (wBin opIx (wVar 7) (wVar 8))) (aVal (wVar 6) aNil)))))
def jk:W Fl:=(wSeq (rY [2,3,4,5,6] (wVar 1))
  (wSeq (wSet 7 (aL jv (aVal (wVar 0) aNil)))
  (wSeq (wFor (wSrc (wLst (aVal (wTup (aVal (wVar 2) (aVal (wVar 3) aNil))) (aVal (wTup (aVal (wVar 4) (aVal (wVar 5) aNil))) aNil)))) (lA [8,9]) fC)
  (wRet (lz 7)))))
theorem vf {n k:Nat} (h:k <n):ixN n (k:Int)=some k:=by
 unfold ixN
 rw [if_pos (by omega),if_pos (by omega)]
 simp
theorem q8 {x0 x1 x2 x3 x4 x5:L} {am:Rat} {a:Addr} {qs:List Rat} {k:Nat} {w:Bool} {Q:Fl→Ev→Prop} (hk:k <qs.length) (hq:RB 4400 qs[k]) (ha:RB 4400 am)
  (h:Q .nx [x0,x1,x2,x3,x4,x5,.d (frD am),.own a ((qs.set k (bhQ (qs.getD k 0) w am)).map frD),.d (.int (k:Int)),.d (.str (wayS w))]) :
  fC [x0,x1,x2,x3,x4,x5,.d (frD am),.own a (qs.map frD),.d (.int (k:Int)),.d (.str (wayS w))] Q:=by
 rw [cu hk,List.map_set] at h
 unfold bhQ at h
 unfold fC
 walk_at "w"
 cases w with
 | true =>
  walk_at "w"
  refine ⟨_,bK hk,qX hq ha ?_⟩
  walk_at "w"
  exact ⟨k,vf hk,h⟩
 | false =>
  walk_at "w"
  refine ⟨_,bK hk,_,_,rfl,hq,ha,?_⟩
  walk_at "w"
  exact ⟨k,vf hk,h⟩
theorem pw:∀ls post,ls.length=2→gM ls post→jk (ls++List.replicate 8 .un) (a7 ls post):=by
 rintro ls post - ⟨ps,s,rfl,h20,hk,hl,hkl,hp,ha,h⟩
 unfold jk
 simp only [slD]
 walk_at "w"
 refine fun a=>⟨by decide,by decide,by decide,fun _=>?_⟩
 have r1:=hp _ (List.getElem_mem hk)
 have r2:=hp _ (List.getElem_mem hl)
 have hl':s.l <(ps.set s.k (bhQ (ps.getD s.k 0) s.kw s.am)).length:=by rw [List.length_set];exact hl
 have e1:(ps.set s.k (bhQ (ps.getD s.k 0) s.kw s.am))[s.l]=ps[s.l]:=by rw [List.getElem_set_ne hkl]
 unfold cB
 refine q8 hk (r1.mono (by decide)) (ha.mono (by decide)) ?_
 unfold cB
 refine q8 hl' (by rw [e1];exact r2.mono (by decide)) (ha.mono (by decide)) ?_
 unfold cB
 walk_at "w"
 exact ⟨_,aj (aj aN),h a⟩
def fs_law:FS:=fun ls post=>∃ns:List Int,ls=[.d (.lst (ns.map .int))]∧ns.length≤63∧post (.d (.bl true)) ls
theorem zd {ns:List Int} (hl:ns.length≤63):fs_law [.d (.lst (ns.map .int))] (fun r _=>r=.d (.bl true)):=⟨ns,rfl,hl,rfl⟩
def ze:W Fl:=(wRet (wBin opEq (z9 6 (qj eK (fun _=>False) (aVal (wVar 2) (aVal (wVar 3) (aVal (wVar 6) aNil))))) (wVar 5)))
def zf:W Fl:=(wSeq (wIf (wOr (aI (wBin opNe (wSl2 (wVar 12) none (some (wUn rT (wC (.int 1))))) (wVar 3))) (aI (wBin m9 (aL dc (aVal (wTup (aVal (wVar 2) (aVal (wVar 3) aNil))) aNil)) (wVar 4)))) (wRet (wC (.bl false))) bq)
  ze)
def zg:W Fl:=(wSeq (m5 (wApp 12 (wTup (aVal (wC (.int 0)) (aVal (wC (.int 1)) aNil)))))
  zf)
def pA:W Fl:=(wSeq (m5 (om 12 (wC (.int 0))))
  (m5 (wApp 6 (wVar 9))))
def tN:W Fl:=(wSeq (wSet 5 (wFrz (aP gM (aVal (wVar 5) (aVal (wVar 9) aNil)))))
  (wSet 10 (wFrz (wLst (aVal (wFrz (aL jv (aVal (wVar 5) aNil))) (aVal (wC .non) aNil))))))
def tO:W Fl:=(wSet 9 (wFrz (aZ jj 0 8 (aVar 8 (aVal (wVar 9) (aVal (wFrz (aL cz (aVal (wBin opIx (wVar 2) (wC (.int 1))) aNil))) aNil))))))
def tP:W Fl:=(wSeq (wSet 9 (wFrz (aZ dz 0 8 (aVar 8 (aVal (wVar 2) (aVal (wVar 5) aNil))))))
  (wSeq (wIf (aI (wBin opEq (aZ az 0 8 (aVar 8 (aVal (wC (.int 2)) aNil))) (wC (.int 0)))) tO bq)
  (wSeq (wSet 10 (wFrz (wLst (aVal (wC .non) (aVal (wFrz (cA 6 (xm 6) (aL cz (aVal (wVar 6) aNil)))) aNil)))))
  (wSeq (wIf (aI (aP b9 (aVal (wVar 2) (aVal (wVar 5) (aVal (wVar 9) aNil))))) tN bq)
  (wSeq (wSet 11 (wFrz (oq 6 (wLst (aVal (wVar 9) aNil)))))
  (wSeq (wSet 12 (aP d7 (aVal (wVar 2) (aVal (wVar 3) (aVal (wVar 11) aNil)))))
  (wSeq (wIf (wOr (nI 12 (aI (wBin opNe (wVar 12) (wVar 10)))) (wOr (aI (wBin m9 (aL dc (aVal (wVar 11) aNil)) (aL dc (aVal (wFrz (oq 6 (wLst (aVal (wVar 9) aNil)))) aNil)))) (aI (wBin m9 (aL dc (aVal (wTup (aVal (wVar 2) (aVal (wVar 3) aNil))) aNil)) (wVar 4))))) (wRet (wC (.bl false))) bq)
  (wIf (aI (wBin vI (wBin opIx (wVar 10) (wC (.int 1))) (wC .non))) pA bq))))))))
def nS:W Fl:=(wIf (aI (wBin opGt (aL cz (aVal (wBin opIx (wVar 2) (wC (.int 1))) aNil)) (wC (.int 0)))) tP bq)
def tQ:W Fl:=(wSeq (wSet 8 (aP bE (aVal (wVar 0) (aVal (wVar 7) aNil))))
  nS)
def tR:W Fl:=(wSeq (wSet 12 (qj eK (fun _=>False) (aVal (wVar 2) (aVal (wVar 3) (aVal (wFrz (wLst aNil)) aNil)))))
  zg)
def zh:W Fl:=(wSeq (wFor (B9 (wC (.int 4)) (aL xk (aVal (wC (.int 5)) (aVal (wFrz (aL xl (aVal (wFrz (aL cz (aVal (wVar 0) aNil))) (aVal (wC (.int 40)) aNil)))) aNil)))) (cj 7) tQ)
  tR)
def zi:W Fl:=(wSeq (wSet 6 (wLst aNil))
  zh)
def zj:W Fl:=(wSeq (wSet 5 (wFrz (aL jv (aVal (wVar 3) aNil))))
  zi)
def zk:W Fl:=(wSeq (wSet 4 (wFrz (aL dc (aVal (wTup (aVal (wVar 2) (aVal (wVar 3) aNil))) aNil))))
  zj)
def zl:W Fl:=(wSeq (wSet 3 (wFrz (aP fA (aVal (aP bE (aVal (wVar 0) (aVal (wC (.int 3)) aNil))) (aVal (wVar 2) aNil)))))
  zk)
def tS:W Fl:=(wSeq (wSet 2 (wFrz (aP gG (aVal (wVar 0) (aVal (wC (.int 0)) (aVal (wBin opIx (wLst (aVal (wC (.int 8)) (aVal (wC (.int 12)) aNil))) (wVar 1)) (aVal (wBin opIx (wLst (aVal (wC (.int 8)) (aVal (wC (.int 20)) aNil))) (wVar 1)) aNil)))))))
  zl)
def Dz:W Fl:=(wSeq (wSet 1 (wFrz (aL rX (aVal (jq (wBin opGt (aL cz (aVal (wVar 0) aNil)) (wC (.int 35))) (wBin opEq (wBin c8 (wBin opIx (wVar 0) (wC (.int 35))) (wC (.int 4))) (wC (.int 1)))) aNil))))
  tS)
def kpt (R:Ring) (ps:List Rat):Str:=Cy (.tup [aH R,.lst (ps.map frD)])
theorem Ba {R:Ring} {ps:List Rat} (hR:R.Ok) (hT:∀a∈R.asks,RB 60 a.size) (h:y7 R ps):∃E:Nat,SlD R ps E∧E≤2 ^ 1210:=by
 have d2:denL R.asks≤2 ^ 1200:=Nat.le_trans (sL hT) (Nat.pow_le_pow_right (by decide) (by have:=hR.few;omega))
 have d3:denL R.asks*12≤2 ^ 1210:=Nat.le_trans (Nat.mul_le_mul d2 (show 12≤2 ^ 10 by decide)) (by rw [← Nat.pow_add];exact Nat.le_refl _)
 have d4:denL R.asks*12 <2 ^ 1500:=Nat.lt_of_le_of_lt d3 (Nat.pow_lt_pow_right (by decide) (by decide))
 have d0:0 <denL R.asks*12:=Nat.mul_pos (oC _) (by decide)
 have da:∀a∈R.asks,a.size.den∣denL R.asks*12:=fun a ha=>Nat.dvd_trans (lT ha) (Nat.dvd_mul_right _ _)
 have dp:∀p∈ps,p.den∣denL R.asks*12:=fun p hp=>by
  obtain ⟨k,hk,rfl⟩:=List.getElem_of_mem hp
  have hk':k <R.asks.length:=by rw [← h.len];exact hk
  obtain ⟨v,v0,v1,e⟩:=h.tw k hk'
  rw [← cu hk,e]
  refine Nat.dvd_trans (iN _ _) (Nat.mul_dvd_mul ?_ ?_)
  ·
   rw [g9 hk']
   exact lT (List.getElem_mem hk')
  ·
   have:=oJ (t:=v) (b:=12) (by decide)
   exact this
 refine ⟨denL R.asks*12,⟨⟨hR,h.len,fun k hk=>?_,_,d0,d4,da,dp⟩,d0,d4,da,dp⟩,d3⟩
 have hk':k <R.asks.length:=by rw [← h.len];exact hk
 have hz:k <(R.asks.zip ps).length:=by rw [List.length_zip];omega
 have:=h.lo _ (List.getElem_mem hz)
 rw [List.getElem_zip] at this
 rw [cu hk,g9 hk']
 exact this
theorem SlD.up {R:Ring} {ps:List Rat} {D E:Nat} (h:SlD R ps D) (e0:0 <E) (e1:E <2 ^ 1500) (hd:D∣E):SlD R ps E:=⟨h.ok,e0,e1,fun a ha=>Nat.dvd_trans (h.da a ha) hd,fun p hp=>Nat.dvd_trans (h.dp p hp) hd⟩
structure Gd1 (E:Nat) (d:D):Prop where
 am:∀s,slOf d=some s→RB 4000 s.am∧s.am.den∣E
 wr:OddR d
theorem Gd1.up {E F:Nat} {d:D} (h:Gd1 E d) (hd:E∣F):Gd1 F d:=⟨fun s e=>⟨(h.am s e).1,Nat.dvd_trans (h.am s e).2 hd⟩,h.wr⟩
theorem okUp {m n:Nat} (d:D) (hm:m≤n) (h:okD m d=true):okD n d=true:=L2.okD_mono d hm h
theorem vg {n:Nat}:∀{ds:List D},(∀d∈ds,okD n d=true)→okDs n ds=true
 | [],_=>rfl
 | d::ds,h=>by simp only [okDs,h d List.mem_cons_self,vg fun x hx=>h x (List.mem_cons_of_mem _ hx),Bool.and_self]
theorem mU:∀{ds:List D},(∀d∈ds,a9 d=true)→bR ds=true
 | [],_=>rfl
 | d::ds,h=>by simp only [bR,h d List.mem_cons_self,mU fun x hx=>h x (List.mem_cons_of_mem _ hx),Bool.and_self]
theorem rf {n:Nat}:∀{ds:List D},(∀d∈ds,sgnD d≤n)→mv ds≤(n+2)*ds.length
 | [],_=>Nat.le_refl _
 | d::ds,h=>by
  have h1:=h d List.mem_cons_self
  have h2:=rf fun x hx=>h x (List.mem_cons_of_mem _ hx)
  simp only [mv,List.length_cons,Nat.mul_add,Nat.mul_one]
  omega
theorem mV {E:Nat} {ds:List D} (h:∀d∈ds,Gd1 E d) (hl:ds.length≤99):qm (.lst ds):=by
 refine qm.of ?_ ?_ ?_
 ·
  simp only [okD]
  exact vg fun d hd=>okUp d (show 5≤39 by decide) (h d hd).wr.ok
 ·
  simp only [a9]
  exact mU fun d hd=>(h d hd).wr.sh
 ·
  simp only [sgnD]
  have:=rf (n:=5000) fun d hd=>(h d hd).wr.sg
  have:=Nat.mul_le_mul_left 5002 hl
  omega
theorem pB {R:Ring} {d:D}:∀{ss:List D} {i:Nat} {ps:List Rat},badD R i ps ss=none→badD R i ps (ss++[d])=if slT R (runD R ps ss) d then none else some (i+ss.length)
 | [],i,ps,_=>rfl
 | s::ss,i,ps,h=>by
  unfold badD at h
  split at h
  ·
   rename_i e
   have ih:=pB (d:=d) h
   show (if slT R ps s then badD R (i+1) (stD ps s) (ss++[d]) else some i)=_
   rw [if_pos e,ih]
   show _=if slT R (runD R (stD ps s) ss) d then none else some (i+(ss.length+1))
   rw [show i+1+ss.length=i+(ss.length+1) by omega]
  ·
   cases h
theorem vh {R:Ring} {ps:List Rat} {ss:List D} {d:D}:runD R ps (ss++[d])=stD (runD R ps ss) d:=by
 unfold runD
 rw [List.foldl_append]
 rfl
structure Run (R:Ring) (ps qs:List Rat) (ss:List D) (E:Nat):Prop where
 p:SlD R ps E
 q:SlD R qs E
 bad:badD R 0 ps ss=none
 run:runD R ps ss=qs
 gd:∀d∈ss,Gd1 E d
 rk:qm (.tup [aH R,.lst (ps.map frD)])
 fl:noLs ss=true
theorem Run.up {R:Ring} {ps qs:List Rat} {ss:List D} {E F:Nat} (h:Run R ps qs ss E) (e0:0 <F) (e1:F <2 ^ 1500) (hd:E∣F):Run R ps qs ss F:=⟨h.p.up e0 e1 hd,h.q.up e0 e1 hd,h.bad,h.run,fun d hm=>(h.gd d hm).up hd,h.rk,h.fl⟩
theorem DA {R:Ring} {ps qs:List Rat} {ss xs:List D} {E:Nat} {b c:Addr} {x0 x1 x7 x9 x10 x11 x12:L} {Q:Fl→Ev→Prop} {k:W Fl} (hq:SlD R qs E) (hE:E*84 <2 ^ 1500) (hx:StOk xs) (hp:0 <qs.length) (h:∀(s:dU) (ys:List D),StOk ys→s.k <qs.length→s.l <qs.length→RB 1800 s.am→s.am.den∣E*12→k [x0,x1,.d (aH R),.d (.lst (ps.map frD)),.d (.str (kpt R ps)),.d (.lst (qs.map frD)),.own c ss,x7,.own b ys,.d (slD s),x10,x11,x12] Q) :
  wSeq (wSet 9 (wFrz (aZ dz 0 8 (aVar 8 (aVal (wVar 2) (aVal (wVar 5) aNil)))))) k [x0,x1,.d (aH R),.d (.lst (ps.map frD)),.d (.str (kpt R ps)),.d (.lst (qs.map frD)),.own c ss,x7,.own b xs,x9,x10,x11,x12] Q:=by
 have d0:=hq.d0
 walk_at "w"
 refine ⟨b,xs,R,qs,rfl,hx,hq.ok,hp,fun s v ys hy hk hl v1 v2 e=>⟨ys,rfl,?_⟩⟩
 obtain ⟨a1,a2⟩:=A0 hq.ok d0 (by omega) hq.da hq.dp hk hl v1 v2 e
 walk_at "w"
 exact h s ys hy hk hl a1 a2
theorem FE {R:Ring} {ps qs:List Rat} {ss xs:List D} {E:Nat} {b c:Addr} {x0 x1 x7 x10 x11 x12:L} {Q:Fl→Ev→Prop} {k:W Fl} {s:dU} (hR:R.Ok) (d0:0 <E) (hx:StOk xs) (hk:s.k <20) (hl:s.l <20) (a1:RB 1800 s.am) (a2:s.am.den∣E*12) (h:∀(d:D) (ys:List D),StOk ys→Gd1 (E*84) d→k [x0,x1,.d (aH R),.d (.lst (ps.map frD)),.d (.str (kpt R ps)),.d (.lst (qs.map frD)),.own c ss,x7,.own b ys,.d d,x10,x11,x12] Q) :
  wSeq (wIf (aI (wBin opEq (aZ az 0 8 (aVar 8 (aVal (wC (.int 2)) aNil))) (wC (.int 0)))) tO bq) k [x0,x1,.d (aH R),.d (.lst (ps.map frD)),.d (.str (kpt R ps)),.d (.lst (qs.map frD)),.own c ss,x7,.own b xs,.d (slD s),x10,x11,x12] Q:=by
 walk_at "w"
 refine ⟨b,xs,2,rfl,hx,by decide,by decide,fun r zs hz r0 r1=>⟨zs,rfl,?_⟩⟩
 walk_at "w"
 split
 ·
  unfold tO
  walk_at "w"
  refine ⟨b,zs,s,R.asks.length,rfl,hz,a1,hk,hl,hR.few,fun d ws hw ho hr=>⟨ws,rfl,?_⟩⟩
  walk_at "w"
  exact h d ws hw ⟨fun u hu=>BE a1 d0 a2 (ho u hu),hr⟩
 ·
  refine h _ zs hz ⟨fun u hu=>?_,dA (At.nat (by omega)) (At.way _) (At.nat (by omega)) (At.way _) (At.fr a1 (by decide))⟩
  rw [kx] at hu
  cases hu
  exact BE a1 d0 a2 (.inl rfl)
theorem FF {R:Ring} {ps qs:List Rat} {ss xs:List D} {b c:Addr} {x0 x1 x7 x9 x10 x11 x12:L} {Q:Fl→Ev→Prop} {k:W Fl} (h:k [x0,x1,.d (aH R),.d (.lst (ps.map frD)),.d (.str (kpt R ps)),.d (.lst (qs.map frD)),.own c ss,x7,.own b xs,x9,.d (.lst [.non,.int (ss.length:Int)]),x11,x12] Q) :
  wSeq (wSet 10 (wFrz (wLst (aVal (wC .non) (aVal (wFrz (cA 6 (xm 6) (aL cz (aVal (wVar 6) aNil)))) aNil))))) k [x0,x1,.d (aH R),.d (.lst (ps.map frD)),.d (.str (kpt R ps)),.d (.lst (qs.map frD)),.own c ss,x7,.own b xs,x9,x10,x11,x12] Q:=by
 walk_at "w"
 exact ⟨by decide,fun _=>h⟩
theorem FG {R:Ring} {ps qs:List Rat} {ss xs:List D} {E:Nat} {b c:Addr} {x0 x1 x7 x10 x11 x12:L} {Q:Fl→Ev→Prop} {k:W Fl} {d:D} (hq:SlD R qs E) (hd:Gd1 E d) (h1:slT R qs d=true→SlD R (stD qs d) E→k [x0,x1,.d (aH R),.d (.lst (ps.map frD)),.d (.str (kpt R ps)),.d (.lst ((stD qs d).map frD)),.own c ss,x7,.own b xs,.d d,.d (.lst [.lst ((stD qs d).map frD),.non]),x11,x12] Q) (h2:slT R qs d=false→k [x0,x1,.d (aH R),.d (.lst (ps.map frD)),.d (.str (kpt R ps)),.d (.lst (qs.map frD)),.own c ss,x7,.own b xs,.d d,x10,x11,x12] Q) :
  wSeq (wIf (aI (aP b9 (aVal (wVar 2) (aVal (wVar 5) (aVal (wVar 9) aNil))))) tN bq) k [x0,x1,.d (aH R),.d (.lst (ps.map frD)),.d (.str (kpt R ps)),.d (.lst (qs.map frD)),.own c ss,x7,.own b xs,.d d,x10,x11,x12] Q:=by
 walk_at "w"
 refine ⟨R,qs,d,rfl,hq.ok,fun s e=>(hd.am s e).1.mono (by decide),hd.wr.dn,?_⟩
 cases e:slT R qs d with
 | false =>
  walk_at "w"
  exact h2 e
 | true =>
  obtain ⟨s,es,hk,hl,hb⟩:=yT e
  subst es
  have est:stD qs (slD s)=slL qs s:=by unfold stD;rw [kx]
  obtain ⟨m1,m2⟩:=hd.am s (kx s)
  have dd:=y2 hq.ok hk hl hb
  have h1:=h1 e
  rw [est] at h1
  have hn:=hq.slid dd m2
  walk_at "w"
  unfold tN
  walk_at "w"
  refine ⟨qs,s,rfl,by rw [hq.ok.len];exact hq.ok.ok.few,hk,hl,dd.kl,BF hq.ok,m1,fun c2=>?_⟩
  walk_at "w"
  exact fun _=>⟨by decide,fun _=>h1 hn⟩
theorem zm {R:Ring} {ps qs:List Rat} {ss xs:List D} {b c:Addr} {x0 x1 x7 x10 x11 x12:L} {Q:Fl→Ev→Prop} {k:W Fl} {d:D} (hl:ss.length≤60) (h:k [x0,x1,.d (aH R),.d (.lst (ps.map frD)),.d (.str (kpt R ps)),.d (.lst (qs.map frD)),.own c ss,x7,.own b xs,.d d,x10,.d (.lst (ss++[d])),x12] Q) :
  wSeq (wSet 11 (wFrz (oq 6 (wLst (aVal (wVar 9) aNil))))) k [x0,x1,.d (aH R),.d (.lst (ps.map frD)),.d (.str (kpt R ps)),.d (.lst (qs.map frD)),.own c ss,x7,.own b xs,.d d,x10,x11,x12] Q:=by
 walk_at "w"
 unfold oq
 walk_at "w"
 exact ⟨by decide,fun _=>⟨qG (by omega),fun _=>h⟩⟩
theorem zo {R:Ring} {ps qs:List Rat} {ss xs:List D} {E:Nat} {b c:Addr} {x0 x1 x5 x7 x10 x12:L} {Q:Fl→Ev→Prop} {k:W Fl} {d:D} (hr:Run R ps qs ss E) (hd:Gd1 E d) (hl:ss.length≤60) (h1:slT R qs d=true→∀a e,k [x0,x1,.d (aH R),.d (.lst (ps.map frD)),.d (.str (kpt R ps)),x5,.own c ss,x7,.own b xs,.d d,x10,.d (.lst (ss++[d])),.bx (some a) [.own e ((stD qs d).map frD),.d .non]] Q) (h2:slT R qs d=false→∀a,k [x0,x1,.d (aH R),.d (.lst (ps.map frD)),.d (.str (kpt R ps)),x5,.own c ss,x7,.own b xs,.d d,x10,.d (.lst (ss++[d])),.bx (some a) [.d .non,.d (.int (ss.length:Int))]] Q) :
  wSeq (wSet 12 (aP d7 (aVal (wVar 2) (aVal (wVar 3) (aVal (wVar 11) aNil))))) k [x0,x1,.d (aH R),.d (.lst (ps.map frD)),.d (.str (kpt R ps)),x5,.own c ss,x7,.own b xs,.d d,x10,.d (.lst (ss++[d])),x12] Q:=by
 have hb:=pB (d:=d) hr.bad
 rw [hr.run,Nat.zero_add] at hb
 walk_at "w"
 refine ⟨R,ps,ss++[d],E,rfl,hr.p.ok,by rw [List.length_append];simp;omega,fun u hu=>?_,⟨hr.p.d0,hr.p.d1,hr.p.da,hr.p.dp⟩,fun e a e2=>?_,fun i e a=>?_⟩
 ·
  rcases List.mem_append.mp hu with hu|hu
  ·
   exact (hr.gd u hu).am
  ·
   rw [List.mem_singleton.mp hu]
   exact hd.am
 ·
  cases q:slT R qs d with
  | false=>rw [hb,q] at e;cases e
  | true =>
   rw [vh,hr.run]
   exact h1 q a e2
 ·
  cases q:slT R qs d with
  | true=>rw [hb,q] at e;cases e
  | false =>
   rw [hb,q] at e
   cases e
   exact h2 q a
theorem tT {R:Ring} {ps qs:List Rat} {ss:List D} {E:Nat} {d:D} (hr:Run R ps qs ss E) (hd:Gd1 E d):∀u∈ss++[d],Gd1 E u:=fun u hu=>by
 rcases List.mem_append.mp hu with hu|hu
 ·
  exact hr.gd u hu
 ·
  rw [List.mem_singleton.mp hu]
  exact hd
theorem DB {R:Ring} {ps qs:List Rat} {ss xs:List D} {E:Nat} {b c:Addr} {x0 x1 x5 x7:L} {Q:Fl→Ev→Prop} {k:W Fl} {d:D} {a:Addr} {us:List Rat} {e:Addr} (hr:Run R ps qs ss E) (hd:Gd1 E d) (hl:ss.length≤60) (hfl:(bp x0 && (bp x1 && (bp x5 && (noLs ss && (bp x7 && noLs xs)))))=true) (h:k [x0,x1,.d (aH R),.d (.lst (ps.map frD)),.d (.str (kpt R ps)),x5,.own c ss,x7,.own b xs,.d d,.d (.lst [.lst (us.map frD),.non]),.d (.lst (ss++[d])),.bx (some a) [.own e (us.map frD),.d .non]] Q) :
  wSeq (wIf (wOr (nI 12 (aI (wBin opNe (wVar 12) (wVar 10)))) (wOr (aI (wBin m9 (aL dc (aVal (wVar 11) aNil)) (aL dc (aVal (wFrz (oq 6 (wLst (aVal (wVar 9) aNil)))) aNil)))) (aI (wBin m9 (aL dc (aVal (wTup (aVal (wVar 2) (aVal (wVar 3) aNil))) aNil)) (wVar 4))))) (wRet (wC (.bl false))) bq) k [x0,x1,.d (aH R),.d (.lst (ps.map frD)),.d (.str (kpt R ps)),x5,.own c ss,x7,.own b xs,.d d,.d (.lst [.lst (us.map frD),.non]),.d (.lst (ss++[d])),.bx (some a) [.own e (us.map frD),.d .non]] Q:=by
 have rh:=mV (tT hr hd) (by rw [List.length_append];simp;omega)
 have sh:okD 3 (.lst [.lst (us.map frD),.non])=true:=by
  simp only [okD,okDs,Bool.and_true,Bool.true_and]
  try exact d5 _ fun q _=>nM 1 q
 walk_at "w"
 unfold oq
 walk_at "w"
 refine ⟨hfl,cm sh (by decide),cm sh (by decide),?_⟩
 rw [if_neg (by rw [uv sh];decide)]
 refine ⟨_,rfl,rfl,rh,?_⟩
 walk_at "w"
 refine ⟨by decide,fun _=>⟨qG (by omega),fun _=>⟨_,rfl,rfl,rh,?_⟩⟩⟩
 walk_at "w"
 rw [if_neg (fun z=>z trivial)]
 refine ⟨by decide,_,rfl,rfl,hr.rk,?_⟩
 walk_at "w"
 rw [if_neg (fun z=>z rfl)]
 exact h
theorem DC {R:Ring} {ps qs:List Rat} {ss xs:List D} {E:Nat} {b c:Addr} {x0 x1 x5 x7:L} {Q:Fl→Ev→Prop} {k:W Fl} {d:D} {a:Addr} {n:Int} (hr:Run R ps qs ss E) (hd:Gd1 E d) (hl:ss.length≤60) (hfl:(bp x0 && (bp x1 && (bp x5 && (noLs ss && (bp x7 && noLs xs)))))=true) (h:k [x0,x1,.d (aH R),.d (.lst (ps.map frD)),.d (.str (kpt R ps)),x5,.own c ss,x7,.own b xs,.d d,.d (.lst [.non,.int n]),.d (.lst (ss++[d])),.bx (some a) [.d .non,.d (.int n)]] Q) :
  wSeq (wIf (wOr (nI 12 (aI (wBin opNe (wVar 12) (wVar 10)))) (wOr (aI (wBin m9 (aL dc (aVal (wVar 11) aNil)) (aL dc (aVal (wFrz (oq 6 (wLst (aVal (wVar 9) aNil)))) aNil)))) (aI (wBin m9 (aL dc (aVal (wTup (aVal (wVar 2) (aVal (wVar 3) aNil))) aNil)) (wVar 4))))) (wRet (wC (.bl false))) bq) k [x0,x1,.d (aH R),.d (.lst (ps.map frD)),.d (.str (kpt R ps)),x5,.own c ss,x7,.own b xs,.d d,.d (.lst [.non,.int n]),.d (.lst (ss++[d])),.bx (some a) [.d .non,.d (.int n)]] Q:=by
 have rh:=mV (tT hr hd) (by rw [List.length_append];simp;omega)
 have sh:okD 3 (.lst [.non,.int n])=true:=by
  simp only [okD,okDs,Bool.and_true,Bool.true_and]
  try exact d5 _ fun q _=>nM 1 q
 walk_at "w"
 unfold oq
 walk_at "w"
 refine ⟨hfl,cm sh (by decide),cm sh (by decide),?_⟩
 rw [if_neg (by rw [uv sh];decide)]
 refine ⟨_,rfl,rfl,rh,?_⟩
 walk_at "w"
 refine ⟨by decide,fun _=>⟨qG (by omega),fun _=>⟨_,rfl,rfl,rh,?_⟩⟩⟩
 walk_at "w"
 rw [if_neg (fun z=>z trivial)]
 refine ⟨by decide,_,rfl,rfl,hr.rk,?_⟩
 walk_at "w"
 rw [if_neg (fun z=>z rfl)]
 exact h
theorem Bb {R:Ring} {ps:List Rat} {ss xs:List D} {b c:Addr} {x0 x1 x5 x7:L} {Q:Fl→Ev→Prop} {d:D} {a e:Addr} {us:List Rat} (hl:ss.length≤60) (h:Q .nx [x0,x1,.d (aH R),.d (.lst (ps.map frD)),.d (.str (kpt R ps)),x5,.own c (ss++[d]),x7,.own b xs,.d d,.d (.lst [.lst (us.map frD),.non]),.d (.lst (ss++[d])),.bx (some a) [.own e [],.d .non]]) :
  (wIf (aI (wBin vI (wBin opIx (wVar 10) (wC (.int 1))) (wC .non))) pA bq) [x0,x1,.d (aH R),.d (.lst (ps.map frD)),.d (.str (kpt R ps)),x5,.own c ss,x7,.own b xs,.d d,.d (.lst [.lst (us.map frD),.non]),.d (.lst (ss++[d])),.bx (some a) [.own e (us.map frD),.d .non]] Q:=by
 walk_at "w"
 unfold pA
 walk_at "w"
 exact ⟨0,rfl,e,_,rfl,Nat.lt_of_le_of_lt hl (by decide),h⟩
theorem Bc {R:Ring} {ps:List Rat} {ss xs:List D} {b c:Addr} {x0 x1 x5 x7:L} {Q:Fl→Ev→Prop} {d:D} {a:Addr} {n:Int} (h:Q .nx [x0,x1,.d (aH R),.d (.lst (ps.map frD)),.d (.str (kpt R ps)),x5,.own c ss,x7,.own b xs,.d d,.d (.lst [.non,.int n]),.d (.lst (ss++[d])),.bx (some a) [.d .non,.d (.int n)]]) :
  (wIf (aI (wBin vI (wBin opIx (wVar 10) (wC (.int 1))) (wC .non))) pA bq) [x0,x1,.d (aH R),.d (.lst (ps.map frD)),.d (.str (kpt R ps)),x5,.own c ss,x7,.own b xs,.d d,.d (.lst [.non,.int n]),.d (.lst (ss++[d])),.bx (some a) [.d .non,.d (.int n)]] Q:=by
 walk_at "w"
 exact h
theorem zp {xs:List D} (h:StOk xs):noLs xs=true:=h.noL
theorem rg:∀{ss:List D} {d:D},noLs ss=true→noL d=true→noLs (ss++[d])=true
 | [],d,_,h=>by simp [noLs,h]
 | s::ss,d,h,hd=>by
  simp only [noLs,Bool.and_eq_true,List.cons_append] at h ⊢
  exact ⟨h.1,rg h.2 hd⟩
theorem FH (s:dU):noL (slD s)=true:=by
 simp only [slD,noL,noLs,yf,Bool.and_self]
theorem GN {R:Ring} {ps qs:List Rat} {ss xs:List D} {E:Nat} {b c:Addr} {x0 x1 x7 x9 x10 x11 x12:L} {Q:Fl→Ev→Prop} (hr:Run R ps qs ss E) (hE:E*84 <2 ^ 1500) (hx:StOk xs) (hp:0 <qs.length) (hl:ss.length <50) (f0:bp x0=true) (f1:bp x1=true) (f7:bp x7=true)
  (h:∀qs' ss' x8 x9 x10 x11 x12,Run R ps qs' ss' (E*84)→ss'.length≤ss.length+1→bp x8=true→bp x9=true→bp x10=true→bp x11=true→Q .nx [x0,x1,.d (aH R),.d (.lst (ps.map frD)),.d (.str (kpt R ps)),.d (.lst (qs'.map frD)),.own c ss',x7,x8,x9,x10,x11,x12]) :
  tP [x0,x1,.d (aH R),.d (.lst (ps.map frD)),.d (.str (kpt R ps)),.d (.lst (qs.map frD)),.own c ss,x7,.own b xs,x9,x10,x11,x12] Q:=by
 have d0:=hr.q.d0
 have hR:=hr.q.ok.ok
 have h20:qs.length≤20:=by rw [hr.q.ok.len];exact hR.few
 have hr':=hr.up (F:=E*84) (by omega) hE (Nat.dvd_mul_right _ _)
 unfold tP
 refine DA hr.q hE hx hp fun s ys hy hk hl' a1 a2=>?_
 refine FE hR d0 hy (by omega) (by omega) a1 a2 fun d zs hz hd=>?_
 refine FF ?_
 have fz:=zp hz
 refine FG hr'.q hd (fun e hn=>?_) fun e=>?_
 ·
  refine zm (by omega) ?_
  refine zo hr' hd (by omega) (fun _ a e2=>?_) (fun e'=>by rw [e] at e';cases e')
  refine DB hr' hd (by omega) (by rw [f0,f1,f7,hr.fl,fz];rfl) ?_
  refine Bb (by omega) ?_
  obtain ⟨u,eu,_⟩:=yT e
  refine h _ _ _ _ _ _ _ ⟨hr'.p,hn,?_,?_,tT hr' hd,hr.rk,rg hr.fl (by rw [eu];exact FH u)⟩ (by simp) fz rfl rfl rfl
  ·
   rw [pB hr.bad,hr.run,e]
   rfl
  ·
   rw [vh,hr.run]
 ·
  refine zm (by omega) ?_
  refine zo hr' hd (by omega) (fun e'=>by rw [e] at e';cases e') (fun _ a=>?_)
  refine DC hr' hd (by omega) (by rw [f0,f1,f7,hr.fl,fz];rfl) ?_
  refine Bc ?_
  exact h _ _ _ _ _ _ _ hr' (by omega) fz rfl rfl rfl
theorem DD {R:Ring} {ps qs:List Rat} {ss:List D} {E:Nat} {c:Addr} {x9 x10 x11 x12:L} {Q:Fl→Ev→Prop} {ns:List Int} {w:Int} {k:Nat} {x8:L} (hk:k≤60) (hr:Run R ps qs ss E) (hE:E*84 <2 ^ 1500) (hl:ss.length <50) (f9:bp x9=true) (f10:bp x10=true) (f11:bp x11=true)
  (h:∀qs' ss' x8 x9 x10 x11 x12,Run R ps qs' ss' (E*84)→ss'.length≤ss.length+1→bp x8=true→bp x9=true→bp x10=true→bp x11=true→Q .nx [.d (.lst (ns.map .int)),.d (.int w),.d (aH R),.d (.lst (ps.map frD)),.d (.str (kpt R ps)),.d (.lst (qs'.map frD)),.own c ss',.d (.int (k:Int)),x8,x9,x10,x11,x12]) :
  tQ [.d (.lst (ns.map .int)),.d (.int w),.d (aH R),.d (.lst (ps.map frD)),.d (.str (kpt R ps)),.d (.lst (qs.map frD)),.own c ss,.d (.int (k:Int)),x8,x9,x10,x11,x12] Q:=by
 have d0:=hr.q.d0
 unfold tQ
 walk_at "w"
 refine ⟨ns,(k:Int),rfl,by omega,by omega,fun b xs hx=>?_⟩
 walk_at "w"
 unfold nS
 walk_at "w"
 split
 ·
  rename_i hp
  exact GN hr hE hx (by rw [hr.q.ok.len];omega) hl rfl rfl rfl h
 ·
  exact h _ _ _ _ _ _ _ (hr.up (F:=E*84) (by omega) hE (Nat.dvd_mul_right _ _)) (by omega) (zp hx) f9 f10 f11
theorem FI {R:Ring} {ps qs:List Rat} {ss:List D} {E:Nat} {c:Addr} {x7 x9 x10 x11 x12:L} {Q:Fl→Ev→Prop} {ns:List Int} {w:Int} {x8:L} {post:L→List L→Prop} (hr:Run R ps qs ss E) (hl:ss.length≤60) (f7:bp x7=true) (f8:bp x8=true) (f9:bp x9=true) (f10:bp x10=true) (f11:bp x11=true) (h:post (.d (.bl true)) [.d (.lst (ns.map .int))]) :
  tR [.d (.lst (ns.map .int)),.d (.int w),.d (aH R),.d (.lst (ps.map frD)),.d (.str (kpt R ps)),.d (.lst (qs.map frD)),.own c ss,x7,x8,x9,x10,x11,x12] (a7 [.d (.lst (ns.map .int))] post):=by
 unfold tR
 walk_at "w"
 refine ⟨by decide,fun _=>⟨R,ps,[],E,rfl,hr.p.ok,by decide,(fun d hd=>by cases hd),⟨hr.p.d0,hr.p.d1,hr.p.da,hr.p.dp⟩,fun _ a=>?_,(fun i e=>by cases e)⟩⟩
 rw [show runD R ps []=ps from rfl]
 unfold zg
 walk_at "w"
 refine ⟨by decide,Nat.lt_of_le_of_lt (show ps.length≤99 by rw [hr.p.ok.len];have:=hr.p.ok.ok.few;omega) (by decide),?_⟩
 unfold zf
 walk_at "w"
 have ec:cutD (ps.map frD++[D.tup [.int 0,.int 1]]) none (some (-1))=ps.map frD:=by
  rw [Dl (by simp)]
  simp
 rw [ec]
 refine fun _=>⟨jH ps,jH ps,?_⟩
 rw [if_neg (by rw [yd];simp)]
 refine ⟨by decide,_,rfl,rfl,hr.rk,?_⟩
 walk_at "w"
 rw [if_neg (fun z=>z rfl)]
 unfold ze
 walk_at "w"
 rw [f7,f8,f9,f10,f11]
 refine ⟨rfl,R,ps,ss,E,rfl,hr.p.ok,by omega,fun d hd=>(hr.gd d hd).am,⟨hr.p.d0,hr.p.d1,hr.p.da,hr.p.dp⟩,fun _ a2=>?_,fun i e=>by rw [hr.bad] at e;cases e⟩
 rw [hr.run]
 walk_at "w"
 refine ⟨jH qs,jH qs,_,aj aN,?_⟩
 rw [yd,decide_eq_true rfl]
 exact h
theorem FJ {ns:List Int} {w:Int} {post:L→List L→Prop} (hw:w=0∨w=1) (hl:ns.length≤63) (h:post (.d (.bl true)) [.d (.lst (ns.map .int))]) :
  tS [.d (.lst (ns.map .int)),.d (.int w),.un,.un,.un,.un,.un,.un,.un,.un,.un,.un,.un] (a7 [.d (.lst (ns.map .int))] post):=by
 unfold tS
 walk_at "w"
 obtain ⟨m,cnt,e1,e2,hm2,hm12,hc⟩:∃(m c:Nat),atI [D.int 8,D.int 12] w=some (.int (m:Int))∧atI [D.int 8,D.int 20] w=some (.int (c:Int))∧2≤m∧m≤12∧c≤20:=by
  rcases hw with rfl|rfl
  ·
   exact ⟨8,8,rfl,rfl,by decide,by decide,by decide⟩
  ·
   exact ⟨12,20,rfl,rfl,by decide,by decide,by decide⟩
 refine ⟨by decide,fun _=>⟨_,e1,by decide,fun _=>⟨_,e2,ns,0,m,cnt,rfl,by omega,hm2,hm12,hc,fun R hDr=>?_⟩⟩⟩
 have hR:=hDr.ok
 walk_at "w"
 unfold zl
 walk_at "w"
 refine ⟨ns,3,rfl,by omega,by omega,fun b xs hx=>?_⟩
 walk_at "w"
 refine ⟨b,xs,R,rfl,hx,hR,hDr.tt,fun ps c ys hy hp=>?_⟩
 obtain ⟨E0,hE0,hE1⟩:=Ba hR hDr.tt hp
 have rk:qm (.tup [aH R,.lst (ps.map frD)]):=(AV hR hDr.nt hp.rb (by decide) (by rw [hp.len];exact hR.few)).l
 walk_at "w"
 unfold zk
 walk_at "w"
 refine ⟨by decide,_,rfl,rfl,rk,?_⟩
 walk_at "w"
 unfold zj
 walk_at "w"
 refine fun _=>?_
 unfold zi
 walk_at "w"
 refine ⟨by decide,fun c6=>?_⟩
 unfold zh
 walk_at "w"
 refine ⟨⟨by omega,by omega⟩,⟨?_,?_⟩,?_⟩
 ·
  split<;>split<;>omega
 ·
  split<;>split<;>omega
 refine Aq 4 _ (fun j ρ=>∃(qs:List Rat) (ss:List D) (E:Nat) (x7 x8 x9 x10 x11 x12:L),ρ=[.d (.lst (ns.map .int)),.d (.int w),.d (aH R),.d (.lst (ps.map frD)),.d (.str (kpt R ps)),.d (.lst (qs.map frD)),.own c6 ss,x7,x8,x9,x10,x11,x12]∧Run R ps qs ss E∧E≤2 ^ (1210+7*j)∧ss.length≤j∧bp x7=true∧bp x8=true∧bp x9=true∧bp x10=true∧bp x11=true) _ ⟨ps,[],E0,_,_,_,_,_,_,rfl,⟨hE0,hE0,rfl,rfl,(fun d hd=>by cases hd),rk,rfl⟩,hE1,Nat.le_refl _,rfl,rfl,rfl,rfl,rfl⟩ ?_ ?_
 ·
  rintro j ρ hj ⟨qs,ss,E,x7,x8,x9,x10,x11,x12,rfl,hr,hE,hs,f7,f8,f9,f10,f11⟩ Q h1 h2 h3 h4
  have hj':j <36:=by split at hj<;>split at hj<;>omega
  have ej:(4:Int)+(j:Int)=((4+j:Nat):Int):=by omega
  have g1:E*84≤2 ^ (1210+7*(j+1)):=by
   refine Nat.le_trans (Nat.mul_le_mul hE (show 84≤2 ^ 7 by decide)) ?_
   rw [← Nat.pow_add]
   exact Nat.pow_le_pow_right (by decide) (by omega)
  rw [ej]
  walk_at "w"
  exact DD (by omega) hr (Nat.lt_of_le_of_lt g1 (Nat.pow_lt_pow_right (by decide) (by omega))) (by omega) f9 f10 f11 fun qs' ss' x8 x9 x10 x11 x12 hr' hs' f8 f9 f10 f11=>h1 _ ⟨_,_,_,_,_,_,_,_,_,rfl,hr',g1,by omega,rfl,f8,f9,f10,f11⟩
 ·
  rintro ρ ⟨qs,ss,E,x7,x8,x9,x10,x11,x12,rfl,hr,hE,hs,f7,f8,f9,f10,f11⟩
  refine FI (Q:=fun _ _=>True) hr ?_ f7 f8 f9 f10 f11 h
  refine Nat.le_trans hs ?_
  split<;>split<;>omega
theorem DE:∀ls post,ls.length=1→fs_law ls post→Dz (ls++List.replicate 12 .un) (a7 ls post):=by
 rintro ls post - ⟨ns,rfl,hl,h⟩
 unfold Dz
 walk_at "w"
 split
 ·
  rename_i h35
  refine ⟨_,bK (k:=35) (by omega),?_⟩
  refine ⟨by decide,FJ ?_ hl h⟩
  split
  ·
   exact .inr rfl
  ·
   exact .inl rfl
 ·
  exact FJ (.inl rfl) hl h
abbrev eD:Stmt:=Hd.inCls (Hd.top 3) 0
abbrev gN:FuncData:=fdQ "__init__" "LoadError.__init__" eD (.str "ringloads.errors" 198) 34
abbrev d8:Stmt:=Hd.inCls (Hd.top 6) 0
abbrev fE:FuncData:=fdQ "__init__" "NoSlide.__init__" d8 (.str "ringloads.errors" 198) 85
structure Tx (K:PySem.W.Frag) (mg:Str→Option Value) (ad:Nat→Addr) (fd:Nat→FuncData):Prop where
 x_greatest_shared:FX K mg "greatest_shared" cD (ad 0) (fd 0) ["one","other"]
 x_is_whole:FX K mg "is_whole" kz (ad 1) (fd 1) ["thing"]
 x_is_number_below:FX K mg "is_number_below" cF (ad 2) (fd 2) ["thing","many"]
 x_are_two_wholes:FX K mg "are_two_wholes" de (ad 3) (fd 3) ["thing"]
 x_is_ratio:FX K mg "is_ratio" kB (ad 4) (fd 4) ["thing"]
 x_lowest:FX K mg "lowest" oR (ad 5) (fd 5) ["top","bottom"]
 x_plus:FX K mg "plus" yV (ad 6) (fd 6) ["one","other"]
 x_minus:FX K mg "minus" sW (ad 7) (fd 7) ["one","other"]
 x_under:FX K mg "under" sX (ad 8) (fd 8) ["one","other"]
 x_lesser:FX K mg "lesser" oS (ad 9) (fd 9) ["one","other"]
 x_is_way:FX K mg "is_way" oT (ad 10) (fd 10) ["thing"]
 x_ties_of:FX K mg "ties_of" gk (ad 11) (fd 11) ["ring","k","way"]
 x_part_behind:FX K mg "part_behind" fh (ad 12) (fd 12) ["part","way","amount"]
 x_slid_once:FX K mg "slid_once" iQ (ad 13) (fd 13) ["sending","slide"]
 x_share_no_tie:FX K mg "share_no_tie" cO (ad 14) (fd 14) ["ring","k","way","l","other"]
 x_has_form_of_slide:FX K mg "has_form_of_slide" cb (ad 15) (fd 15) ["thing","asks"]
 x_not_sent:FX K mg "not_sent" kC (ad 16) (fd 16) ["ring","sending","k","way"]
 x_most_slid:FX K mg "most_slid" iS (ad 17) (fd 17) ["ring","sending","slide"]
 x_is_slide:FX K mg "is_slide" kD (ad 18) (fd 18) ["ring","sending","thing"]
 x_slid_by:FX K mg "slid_by" mG (ad 19) (fd 19) ["ring","sending","thing"]
 x__law_begun:FX K mg "_law_begun" gm (ad 20) (fd 20) ["_law_script","_law_k"]
 x__law_take:FX K mg "_law_take" iT (ad 21) (fd 21) ["_law_state","_law_many"]
 x__law_names:FX K mg "_law_names" cX (ad 22) (fd 22) ["_law_state","_law_many"]
 x__law_low:FX K mg "_law_low" kE (ad 23) (fd 23) ["_law_top","_law_bottom"]
 x__law_amount:FX K mg "_law_amount" fj (ad 24) (fd 24) ["_law_state","_law_least","_law_kind"]
 x__law_rooms:FX K mg "_law_rooms" gp (ad 25) (fd 25) ["_law_state","_law_ties_here","_law_kind"]
 x__law_ends:FX K mg "_law_ends" iU (ad 26) (fd 26) ["_law_state","_law_shape","_law_places","_law_k"]
 x__law_ring:FX K mg "_law_ring" iV (ad 27) (fd 27) ["_law_script","_law_at","_law_most","_law_count"]
 x__law_parts:FX K mg "_law_parts" gq (ad 28) (fd 28) ["_law_state","_law_ring_here"]
 x__law_minus:FX K mg "_law_minus" gu (ad 29) (fd 29) ["_law_one","_law_other"]
 x__law_gone:FX K mg "_law_gone" iW (ad 30) (fd 30) ["_law_ring_here","_law_sending","_law_k","_law_way"]
 x__law_under:FX K mg "_law_under" gv (ad 31) (fd 31) ["_law_one","_law_other"]
 x__law_drawn:FX K mg "_law_drawn" gw (ad 32) (fd 32) ["_law_state","_law_ring_here","_law_sending"]
 x__law_ties:FX K mg "_law_ties" iX (ad 33) (fd 33) ["_law_ring_here","_law_k","_law_way"]
 x__law_is_ratio:FX K mg "_law_is_ratio" dN (ad 34) (fd 34) ["_law_thing"]
 x__law_is_slide:FX K mg "_law_is_slide" cv (ad 35) (fd 35) ["_law_ring_here","_law_sending","_law_thing"]
 x__law_told:FX K mg "_law_told" iY (ad 36) (fd 36) ["_law_ring_here","_law_sending","_law_slides"]
 x__law_plus:FX K mg "_law_plus" iZ (ad 37) (fd 37) ["_law_one","_law_other"]
 x__law_odd:FX K mg "_law_odd" kF (ad 38) (fd 38) ["_law_state","_law_slide","_law_many"]
 x__law_slid:FX K mg "_law_slid" i4 (ad 39) (fd 39) ["_law_sending","_law_slide"]
 x_law:FX K mg "law" A5 (ad 40) (fd 40) ["_law_script"]
 li:xP K mg 38 35 gN eD
 i_NoSlide:Fun K "__init__" "NoSlide.__init__" d8 86 fE
 c_NoSlide:XT K mg "NoSlide" 89 86 fE ["self","number"] ["number"]
 h_LoadError:XH K mg "LoadError" 38
 h_NoChange:XH K mg "NoChange" 132
 h_NoNumber:XH K mg "NoNumber" 51
 h_NoRing:XH K mg "NoRing" 70
 h_NoSlide:XH K mg "NoSlide" 89
 h_NoTree:XH K mg "NoTree" 108
 h_TooMany:XH K mg "TooMany" 120
 z_ValueError:mg "ValueError"=none
 z_abs:mg "abs"=none
 z_any:mg "any"=none
 z_bool:mg "bool"=none
 z_enumerate:mg "enumerate"=none
 z_int:mg "int"=none
 z_isinstance:mg "isinstance"=none
 z_len:mg "len"=none
 z_list:mg "list"=none
 z_max:mg "max"=none
 z_min:mg "min"=none
 z_range:mg "range"=none
 z_repr:mg "repr"=none
 z_str:mg "str"=none
 z_tuple:mg "tuple"=none
 g_BACK:vH K mg "BACK" (.str "back")
 g_NOUGHT:vH K mg "NOUGHT" (.tup [(.int 0),(.int 1)])
 g_ON:vH K mg "ON" (.str "on")
section
variable {P:Program} {w:World} {K:PySem.W.Frag} {mg:Str→Option Value} {base:Heap} {ad:Nat→Addr} {fd:Nat→FuncData}
theorem mW:aC ["self","text"] ["self","text"] (aq eD):=⟨rfl,rfl,rfl,by decide +kernel,rfl,by decide +kernel,by decide +kernel⟩
theorem pC:aC ["self","number"] ["self","number"] (aq d8):=⟨rfl,rfl,rfl,by decide +kernel,rfl,by decide +kernel,by decide +kernel⟩
theorem rj (T:Tx K mg ad fd):FnOk P w K mg base CX0 1 35 gN ["self","text"] (spLI K):=T.li.f.ok (k:=0) mW Aj (fun cdv A outer s H vs Q E hr q=>⟨_,wx (wy (Ab rfl T.z_ValueError (bC (pv 0) (bC (pv 1) fG)))),CJ q⟩)
theorem nT (T:Tx K mg ad fd):FnOk P w K mg base CX0 2 86 fE ["self","number"] (spXI K ["number"]):=T.i_NoSlide.ok (k:=1) pC Ak (fun cdv A outer s H vs Q E hr q=>⟨_,zw (wy (Ac T.li (rj T) hr rfl (bC (pv 0) (bC wu fG)))) (wx (CI (pv 0) (pv 1))),CK q⟩)
theorem bO:aC ky ["one","other"] (aq cD):=⟨rfl,rfl,rfl,by decide +kernel,rfl,by decide +kernel,by decide +kernel⟩
set_option maxHeartbeats 0 in
theorem d9 (T:Tx K mg ad fd):FnOk P w K mg base CX0 1 (ad 0) (fd 0) ["one","other"] (spF K 2 bM) :=
 bu (k:=0) T.x_greatest_shared.f bO cG (fun cdv A outer s H E hr=>(ai (lL PassesOwn.never (pbc (p6 hr.units) (af 1) ah (aO _)) (ai (av (i:=2) bO.nd rfl (by walk_at "o") (ao bV (af 0) (af 1)))
  (ai (av (i:=0) bO.nd rfl (by walk_at "o") (af 1))
  (ak (av (i:=1) bO.nd rfl (by walk_at "o") (af 2))))))
  (ak (aD (aK xj rfl T.z_abs (by decide +kernel) (ae (af 0) ag))))))
  i6
theorem tU:aC v5 ["thing"] (aq kz):=⟨rfl,rfl,rfl,by decide +kernel,rfl,by decide +kernel,by decide +kernel⟩
set_option maxHeartbeats 0 in
theorem jm (T:Tx K mg ad fd):FnOk P w K mg base CX0 1 (ad 1) (fd 1) ["thing"] (spF K 1 dO) :=
 bu (k:=0) T.x_is_whole.f tU g4 (fun cdv A outer s H E hr=>(ak (aD (fH (dG r9 rfl T.z_isinstance rfl T.z_int (by decide +kernel) (af 0)) (kW (w9 (dG lM rfl T.z_isinstance rfl T.z_bool (by decide +kernel) (af 0))))))))
  qO
theorem j8:aC kA ["thing","many"] (aq cF):=⟨rfl,rfl,rfl,by decide +kernel,rfl,by decide +kernel,by decide +kernel⟩
set_option maxHeartbeats 0 in
theorem ee (T:Tx K mg ad fd):FnOk P w K mg base CX0 2 (ad 2) (fd 2) ["thing","many"] (spF K 2 bN) :=
 bu (k:=1) T.x_is_number_below.f j8 cH (fun cdv A outer s H E hr=>(ak (aD (fH (aU (jm T) T.x_is_whole hr (ae (af 0) ag)) (kW (zX Et Es ah (af 0) (af 1)))))))
  i7
theorem kN:aC lG ["thing"] (aq de):=⟨rfl,rfl,rfl,by decide +kernel,rfl,by decide +kernel,by decide +kernel⟩
set_option maxHeartbeats 0 in
theorem kO (T:Tx K mg ad fd):FnOk P w K mg base CX0 2 (ad 3) (fd 3) ["thing"] (spF K 1 cI) :=
 bu (k:=1) T.x_are_two_wholes.f kN b8 (fun cdv A outer s H E hr=>(ak (aD (fH (dG jy rfl T.z_isinstance rfl T.z_tuple (by decide +kernel) (af 0)) (fH (dh (eH hr.units) (aK cU rfl T.z_len (by decide +kernel) (ae (af 0) ag)) ah (aO _)) (fH (aU (jm T) T.x_is_whole hr (ae (au (af 0) ah (fun _ _=>rfl)) ag)) (kW (aU (jm T) T.x_is_whole hr (ae (au (af 0) ah (fun _ _=>rfl)) ag)))))))))
  jM
theorem tV:aC v7 ["thing"] (aq kB):=⟨rfl,rfl,rfl,by decide +kernel,rfl,by decide +kernel,by decide +kernel⟩
set_option maxHeartbeats 0 in
theorem tX (T:Tx K mg ad fd):FnOk P w K mg base CX0 3 (ad 4) (fd 4) ["thing"] (spF K 1 i8) :=
 bu (k:=2) T.x_is_ratio.f tV g6 (fun cdv A outer s H E hr=>(ak (aD (fH (aU (kO T) T.x_are_two_wholes hr (ae (af 0) ag)) (fH (dh Ek (au (af 0) ah (fun _ _=>rfl)) ah (aO _)) (kW (dh (eH hr.units) (aU (d9 T) T.x_greatest_shared hr (ae (au (af 0) ah (fun _ _=>rfl)) (ae (au (af 0) ah (fun _ _=>rfl)) ag))) ah (aO _))))))))
  qP
theorem mX:aC A2 ["top","bottom"] (aq oR):=⟨rfl,rfl,rfl,by decide +kernel,rfl,by decide +kernel,by decide +kernel⟩
set_option maxHeartbeats 0 in
theorem rl (T:Tx K mg ad fd):FnOk P w K mg base CX0 2 (ad 5) (fd 5) ["top","bottom"] (spF K 2 jN) :=
 bu (k:=1) T.x_lowest.f mX oW (fun cdv A outer s H E hr=>(ai (av (i:=2) mX.nd rfl (by walk_at "o") (ar (aU (d9 T) T.x_greatest_shared hr (ae (af 0) (ae (af 1) ag)))))
  (ai (bT (pbc rV (af 1) ah (aO _)) (ak (av (i:=2) mX.nd rfl (by walk_at "o") (ue (af 2)))) aQ)
  (ak (aD (aJ (ae (ao mf (af 0) (af 2)) (ae (ao mf (af 1) (af 2)) ag))))))))
  wd
theorem DF:aC Fy ["one","other"] (aq yV):=⟨rfl,rfl,rfl,by decide +kernel,rfl,by decide +kernel,by decide +kernel⟩
set_option maxHeartbeats 0 in
theorem DG (T:Tx K mg ad fd):FnOk P w K mg base CX0 3 (ad 6) (fd 6) ["one","other"] (spF K 2 oX) :=
 bu (k:=2) T.x_plus.f DF yX (fun cdv A outer s H E hr=>(ak (aD (aU (rl T) T.x_lowest hr (ae (ar (ao a6 (ao aX (au (af 0) ah (fun _ _=>rfl)) (au (af 1) ah (fun _ _=>rfl))) (ao aX (au (af 1) ah (fun _ _=>rfl)) (au (af 0) ah (fun _ _=>rfl))))) (ae (ar (ao aX (au (af 0) ah (fun _ _=>rfl)) (au (af 1) ah (fun _ _=>rfl)))) ag))))))
  A6
theorem Bd:aC Du ["one","other"] (aq sW):=⟨rfl,rfl,rfl,by decide +kernel,rfl,by decide +kernel,by decide +kernel⟩
set_option maxHeartbeats 0 in
theorem vi (T:Tx K mg ad fd):FnOk P w K mg base CX0 3 (ad 7) (fd 7) ["one","other"] (spF K 2 jO) :=
 bu (k:=2) T.x_minus.f Bd tI (fun cdv A outer s H E hr=>(ak (aD (aU (rl T) T.x_lowest hr (ae (ao dF (ao aX (au (af 0) ah (fun _ _=>rfl)) (au (af 1) ah (fun _ _=>rfl))) (ao aX (au (af 1) ah (fun _ _=>rfl)) (au (af 0) ah (fun _ _=>rfl)))) (ae (ar (ao aX (au (af 0) ah (fun _ _=>rfl)) (au (af 1) ah (fun _ _=>rfl)))) ag))))))
  yY
theorem Be:aC Dv ["one","other"] (aq sX):=⟨rfl,rfl,rfl,by decide +kernel,rfl,by decide +kernel,by decide +kernel⟩
set_option maxHeartbeats 0 in
theorem pD (T:Tx K mg ad fd):FnOk P w K mg base CX0 1 (ad 8) (fd 8) ["one","other"] (spF K 2 jP) :=
 bu (k:=0) T.x_under.f Be tJ (fun cdv A outer s H E hr=>(ak (aD (dh rV (ao aX (au (af 0) ah (fun _ _=>rfl)) (au (af 1) ah (fun _ _=>rfl))) (ao aX (au (af 1) ah (fun _ _=>rfl)) (au (af 0) ah (fun _ _=>rfl))) (aO _)))))
  yZ
theorem zq:aC A3 ["one","other"] (aq oS):=⟨rfl,rfl,rfl,by decide +kernel,rfl,by decide +kernel,by decide +kernel⟩
set_option maxHeartbeats 0 in
theorem zr (T:Tx K mg ad fd):FnOk P w K mg base CX0 2 (ad 9) (fd 9) ["one","other"] (spF K 2 mI) :=
 bu (k:=1) T.x_lesser.f zq oY (fun cdv A outer s H E hr=>(ak (aD (xa (bQ (aU (pD T) T.x_under hr (ae (af 1) (ae (af 0) ag)))) (af 1) (af 0)))))
  we
theorem zu:aC A4 ["thing"] (aq oT):=⟨rfl,rfl,rfl,by decide +kernel,rfl,by decide +kernel,by decide +kernel⟩
set_option maxHeartbeats 0 in
theorem rm (T:Tx K mg ad fd):FnOk P w K mg base CX0 1 (ad 10) (fd 10) ["thing"] (spF K 1 jQ) :=
 bu (k:=0) T.x_is_way.f zu oZ (fun cdv A outer s H E hr=>(ak (aD (fH (dG xu rfl T.z_isinstance rfl T.z_str (by decide +kernel) (af 0)) (kW (dh Cd (af 0) (aJ (ae (pl_G T.g_ON rfl) (ae (pl_G T.g_BACK rfl) ag))) rfl))))))
  wg
theorem g8:aC mF ["ring","k","way"] (aq gk):=⟨rfl,rfl,rfl,by decide +kernel,rfl,by decide +kernel,by decide +kernel⟩
set_option maxHeartbeats 0 in
theorem nU (T:Tx K mg ad fd):FnOk P w K mg base CX0 1 (ad 11) (fd 11) ["ring","k","way"] (spF K 3 g7) :=
 bu (k:=0) T.x_ties_of.f g8 mP (fun cdv A outer s H E hr=>(ai (av (i:=3) g8.nd rfl (by walk_at "o") (ar (aK cU rfl T.z_len (by decide +kernel) (ae (au (af 0) ah (fun _ _=>rfl)) ag))))
  (ai (av (i:=4) g8.nd rfl (by walk_at "o") (au (au (au (af 0) ah (fun _ _=>rfl)) (af 1) (fun _ _=>rfl)) ah (fun _ _=>rfl)))
  (ai (av (i:=5) g8.nd rfl (by walk_at "o") (au (au (au (af 0) ah (fun _ _=>rfl)) (af 1) (fun _ _=>rfl)) ah (fun _ _=>rfl)))
  (ai (bT (pbc (eH hr.units) (af 2) (pl_G T.g_ON rfl) (aO _)) (ak (aD (kf (sc:=(aq gk)) (N:=mF) (Nt:=["step"]) (Nf:=["one","places"]) (fi:=[4,3]) rfl rfl rfl (gT rfl T.z_range (ao bV (ao dF (af 5) (af 4)) (af 3))) rfl (by decide +kernel) (by decide +kernel) (by decide +kernel) (by decide) rfl (by decide +kernel) (by decide) (fun _ _ _ _=>(ke (by decide) (show ((["step"]:List Str)++(["one","places"]:List Str)).Nodup by decide +kernel) rfl (Or.inl rfl))) (fun _ _ _ _=>mh) (fun _ _ _ _=>(ao bV (ao a6 (af 1) (af 0)) (af 2)))))) aQ)
  (ak (aD (kf (sc:=(aq gk)) (N:=mF) (Nt:=["step"]) (Nf:=["one","places"]) (fi:=[4,3]) rfl rfl rfl (gT rfl T.z_range (ao bV (ao dF (af 4) (af 5)) (af 3))) rfl (by decide +kernel) (by decide +kernel) (by decide +kernel) (by decide) rfl (by decide +kernel) (by decide) (fun _ _ _ _=>(ke (by decide) (show ((["step"]:List Str)++(["one","places"]:List Str)).Nodup by decide +kernel) rfl (Or.inl rfl))) (fun _ _ _ _=>mh) (fun _ _ _ _=>(ao bV (ao dF (ao dF (af 1) ah) (af 0)) (af 2)))))))))))
  tK
theorem ny:aC oU ["part","way","amount"] (aq fh):=⟨rfl,rfl,rfl,by decide +kernel,rfl,by decide +kernel,by decide +kernel⟩
set_option maxHeartbeats 0 in
theorem iH (T:Tx K mg ad fd):FnOk P w K mg base CX0 4 (ad 12) (fd 12) ["part","way","amount"] (spF K 3 cP) :=
 bu (k:=3) T.x_part_behind.f ny fk (fun cdv A outer s H E hr=>(ak (aD (xa (pbc (eH hr.units) (af 1) (pl_G T.g_ON rfl) (aO _)) (aU (DG T) T.x_plus hr (ae (af 0) (ae (af 2) ag))) (aU (vi T) T.x_minus hr (ae (af 0) (ae (af 2) ag)))))))
  mQ
theorem lp:aC sY ["sending","slide"] (aq iQ):=⟨rfl,rfl,rfl,by decide +kernel,rfl,by decide +kernel,by decide +kernel⟩
set_option maxHeartbeats 0 in
theorem rn (T:Tx K mg ad fd):FnOk P w K mg base CX0 5 (ad 13) (fd 13) ["sending","slide"] (spF K 2 gz) :=
 bu (k:=4) T.x_slid_once.f lp i9 (fun cdv A outer s H E hr=>(ai (av (i:=2) lp.nd rfl (by walk_at "o") (b6 kb rfl T.z_list (by decide +kernel) (ae (af 0) ag)))
  (ai (iL 2 (au (af 1) ah (fun _ _=>rfl)) (aU (iH T) T.x_part_behind hr (ae (dY (fJ 2 (au (af 1) ah (fun _ _=>rfl)) (fun _ _=>rfl)) (au (af 2) (au (af 1) ah (fun _ _=>rfl)) (fun _ _=>rfl))) (ae (au (af 1) ah (fun _ _=>rfl)) (ae (au (af 1) ah (fun _ _=>rfl)) ag)))))
  (ai (iL 2 (au (af 1) ah (fun _ _=>rfl)) (aU (iH T) T.x_part_behind hr (ae (dY (fJ 2 (au (af 1) ah (fun _ _=>rfl)) (fun _ _=>rfl)) (au (af 2) (au (af 1) ah (fun _ _=>rfl)) (fun _ _=>rfl))) (ae (au (af 1) ah (fun _ _=>rfl)) (ae (au (af 1) ah (fun _ _=>rfl)) ag)))))
  (ak (aD (eW 2)))))))
  o5
theorem gO:aC ia ["ring","k","way","l","other"] (aq cO):=⟨rfl,rfl,rfl,by decide +kernel,rfl,by decide +kernel,by decide +kernel⟩
set_option maxHeartbeats 0 in
theorem mY (T:Tx K mg ad fd):FnOk P w K mg base CX0 2 (ad 14) (fd 14) ["ring","k","way","l","other"] (spF K 5 dP) :=
 bu (k:=1) T.x_share_no_tie.f gO eA (fun cdv A outer s H E hr=>(ai (av (i:=5) gO.nd rfl (by walk_at "o") (ar (aU (nU T) T.x_ties_of hr (ae (af 0) (ae (af 3) (ae (af 4) ag))))))
  (ak (aD (w9 (aK (EE rfl) rfl T.z_any (by decide +kernel) (ae (ar (kf (sc:=(aq cO)) (N:=ia) (Nt:=["tie"]) (Nf:=["taken"]) (fi:=[5]) rfl rfl rfl (iJ (aU (nU T) T.x_ties_of hr (ae (af 0) (ae (af 1) (ae (af 2) ag))))) rfl (by decide +kernel) (by decide +kernel) (by decide +kernel) (by decide) rfl (by decide +kernel) (by decide) (fun _ _ _ _=>(ke (by decide) (show ((["tie"]:List Str)++(["taken"]:List Str)).Nodup by decide +kernel) rfl (Or.inl rfl))) (fun _ _ _ _=>mh) (fun _ _ _ _=>(dh Cd (af 0) (af 1) rfl)))) ag)))))))
  lH
theorem hJ:aC iR ["thing","asks"] (aq cb):=⟨rfl,rfl,rfl,by decide +kernel,rfl,by decide +kernel,by decide +kernel⟩
set_option maxHeartbeats 0 in
theorem hU (T:Tx K mg ad fd):FnOk P w K mg base CX0 4 (ad 15) (fd 15) ["thing","asks"] (spF K 2 bY) :=
 bu (k:=3) T.x_has_form_of_slide.f hJ cf (fun cdv A outer s H E hr=>(ai (bT (PBw.pb (dE (dX (bQ (dG jy rfl T.z_isinstance rfl T.z_tuple (by decide +kernel) (af 0)))) (c7 (pbc (p6 hr.units) (aK cU rfl T.z_len (by decide +kernel) (ae (af 0) ag)) ah (aO _))))) (ak (aD fN)) aQ)
  (ai (bT (PBw.pb (dE (dX (bQ (aU (ee T) T.x_is_number_below hr (ae (au (af 0) ah (fun _ _=>rfl)) (ae (af 1) ag))))) (c7 (dX (bQ (aU (ee T) T.x_is_number_below hr (ae (au (af 0) ah (fun _ _=>rfl)) (ae (af 1) ag)))))))) (ak (aD fN)) aQ)
  (ak (aD (fH (aU (rm T) T.x_is_way hr (ae (au (af 0) ah (fun _ _=>rfl)) ag)) (fH (aU (rm T) T.x_is_way hr (ae (au (af 0) ah (fun _ _=>rfl)) ag)) (kW (aU (tX T) T.x_is_ratio hr (ae (au (af 0) ah (fun _ _=>rfl)) ag))))))))))
  gA
theorem tY:aC v8 ["ring","sending","k","way"] (aq kC):=⟨rfl,rfl,rfl,by decide +kernel,rfl,by decide +kernel,by decide +kernel⟩
set_option maxHeartbeats 0 in
theorem mZ (T:Tx K mg ad fd):FnOk P w K mg base CX0 4 (ad 16) (fd 16) ["ring","sending","k","way"] (spF K 4 fm) :=
 bu (k:=3) T.x_not_sent.f tY kG (fun cdv A outer s H E hr=>(ak (aD (xa (pbc (eH hr.units) (af 3) (pl_G T.g_ON rfl) (aO _)) (aU (vi T) T.x_minus hr (ae (au (au (au (af 0) ah (fun _ _=>rfl)) (af 2) (fun _ _=>rfl)) ah (fun _ _=>rfl)) (ae (au (af 1) (af 2) (fun _ _=>rfl)) ag))) (au (af 1) (af 2) (fun _ _=>rfl))))))
  qR
theorem rp:aC td ["ring","sending","slide"] (aq iS):=⟨rfl,rfl,rfl,by decide +kernel,rfl,by decide +kernel,by decide +kernel⟩
set_option maxHeartbeats 0 in
theorem rq (T:Tx K mg ad fd):FnOk P w K mg base CX0 5 (ad 17) (fd 17) ["ring","sending","slide"] (spF K 3 gB) :=
 bu (k:=4) T.x_most_slid.f rp ja (fun cdv A outer s H E hr=>(ak (aD (aU (zr T) T.x_lesser hr (ae (ar (aU (mZ T) T.x_not_sent hr (ae (af 0) (ae (af 1) (ae (au (af 2) ah (fun _ _=>rfl)) (ae (au (af 2) ah (fun _ _=>rfl)) ag)))))) (ae (ar (aU (mZ T) T.x_not_sent hr (ae (af 0) (ae (af 1) (ae (au (af 2) ah (fun _ _=>rfl)) (ae (au (af 2) ah (fun _ _=>rfl)) ag)))))) ag))))))
  o6
theorem tZ:aC v9 ["ring","sending","thing"] (aq kD):=⟨rfl,rfl,rfl,by decide +kernel,rfl,by decide +kernel,by decide +kernel⟩
set_option maxHeartbeats 0 in
theorem t5 (T:Tx K mg ad fd):FnOk P w K mg base CX0 6 (ad 18) (fd 18) ["ring","sending","thing"] (spF K 3 jb) :=
 bu (k:=5) T.x_is_slide.f tZ kH (fun cdv A outer s H E hr=>by exact (@ai _ _ _ _ _ (bT (PBw.pb (dE (dX (bQ (aU (hU T) T.x_has_form_of_slide hr (@ae _ _ _ _ _ _ (af 2) (@ae _ _ _ _ _ _ (@ar _ _ _ (aK cU rfl T.z_len (by decide +kernel) (@ae _ _ _ _ _ _ (au (af 0) ah (fun _ _=>rfl)) ag (by kernel_rfl)))) ag (by kernel_rfl)) (by kernel_rfl))))) (c7 (pbc (eH hr.units) (au (af 2) ah (fun _ _=>rfl)) (au (af 2) ah (fun _ _=>rfl)) (aO _))))) (ak (aD fN)) aQ) (@ai _ _ _ _ _ (bT (dX (bQ (aU (mY T) T.x_share_no_tie hr (@ae _ _ _ _ _ _ (af 0) (@ae _ _ _ _ _ _ (au (af 2) ah (fun _ _=>rfl)) (@ae _ _ _ _ _ _ (au (af 2) ah (fun _ _=>rfl)) (@ae _ _ _ _ _ _ (au (af 2) ah (fun _ _=>rfl)) (@ae _ _ _ _ _ _ (au (af 2) ah (fun _ _=>rfl)) ag (by kernel_rfl)) (by kernel_rfl)) (by kernel_rfl)) (by kernel_rfl)) (by kernel_rfl))))) (ak (aD fN)) aQ) (ak (aD (fH (aU (pD T) T.x_under hr (@ae _ _ _ _ _ _ (pl_G T.g_NOUGHT rfl) (@ae _ _ _ _ _ _ (au (af 2) ah (fun _ _=>rfl)) ag (by kernel_rfl)) (by kernel_rfl))) (kW (w9 (aU (pD T) T.x_under hr (@ae _ _ _ _ _ _ (@ar _ _ _ (aU (rq T) T.x_most_slid hr (@ae _ _ _ _ _ _ (af 0) (@ae _ _ _ _ _ _ (af 1) (@ae _ _ _ _ _ _ (af 2) ag (by kernel_rfl)) (by kernel_rfl)) (by kernel_rfl)))) (@ae _ _ _ _ _ _ (au (af 2) ah (fun _ _=>rfl)) ag (by kernel_rfl)) (by kernel_rfl)))))))))))
  qS
theorem eS:aC yW ["ring","sending","thing"] (aq mG):=⟨rfl,rfl,rfl,by decide +kernel,rfl,by decide +kernel,by decide +kernel⟩
set_option maxHeartbeats 0 in
theorem kP (T:Tx K mg ad fd):FnOk P w K mg base (CXr P w) 7 (ad 19) (fd 19) ["ring","sending","thing"] (spX K 3 eK) :=
 EO (k:=6) T.x_slid_by.f eS (fun xp=>mS xp) (fun cdv A outer s H E xp hr hE=>(ai (bT (dX (bQ (dG zV rfl T.z_isinstance rfl T.z_list (by decide +kernel) (af 2)))) (ak (ql T.c_NoSlide (nT T) hr (xQ hE) (ae jo ag))) aQ)
  (ai (av (i:=3) eS.nd rfl (by walk_at "o") (b6 kb rfl T.z_list (by decide +kernel) (ae (af 1) ag)))
  (ai (ju PassesOwn.leaving rfl (zZ rfl T.z_enumerate (af 2)) (hW rfl (aE (i:=4) eS.nd rfl (by walk_at "o") (aE (i:=5) eS.nd rfl (by walk_at "o") ei))) (ai (bT (dX (bQ (aU (t5 T) T.x_is_slide hr (ae (af 0) (ae (af 3) (ae (af 5) ag)))))) (ak (ql T.c_NoSlide (nT T) hr (xQ hE) (ae (af 4) ag))) aQ)
  (ak (av (i:=3) eS.nd rfl (by walk_at "o") (aU (rn T) T.x_slid_once hr (ae (af 3) (ae (af 5) ag)))))))
  (ak (aD (eW 3)))))))
  tM
theorem fF:aC qI ["_law_script","_law_k"] (aq gm):=⟨rfl,rfl,rfl,by decide +kernel,rfl,by decide +kernel,by decide +kernel⟩
set_option maxHeartbeats 0 in
theorem cw (T:Tx K mg ad fd):FnOk P w K mg base CX0 1 (ad 20) (fd 20) ["_law_script","_law_k"] (spF K 2 bE) :=
 bu (k:=0) T.x__law_begun.f fF gC (fun cdv A outer s H E hr=>(ai (av (i:=2) fF.nd rfl (by walk_at "o") ah)
  (ai (bT (pbc rV (af 1) (aK cU rfl T.z_len (by decide +kernel) (ae (af 0) ag)) (aO _)) (ak (av (i:=2) fF.nd rfl (by walk_at "o") (au (af 0) (af 1) (fun _ _=>rfl)))) aQ)
  (ak (aD (aY (ae (af 2) (ae (ao bV (ao a6 (ao a6 (ao bV (af 2) ah) (ao aX (ao aX ah (af 1)) (af 1))) ah) ah) (ae (dh Ek (af 2) (ao xi ah ah) (aO _)) ag)))))))))
  ng
theorem c4:aC tf ["_law_state","_law_many"] (aq iT):=⟨rfl,rfl,rfl,by decide +kernel,rfl,by decide +kernel,by decide +kernel⟩
set_option maxHeartbeats 0 in
theorem aB (T:Tx K mg ad fd):FnOk P w K mg base CX0 1 (ad 21) (fd 21) ["_law_state","_law_many"] (spF K 2 az) :=
 bu (k:=0) T.x__law_take.f c4 jc (fun cdv A outer s H E hr=>(ai (bT (bQ (dY (fJ 0 ah (fun _ _=>rfl)) (au (af 0) ah (fun _ _=>rfl)))) (ai (av (i:=2) c4.nd rfl (by walk_at "o") (ao bV (dY (fJ 0 ah (fun _ _=>rfl)) (au (af 0) ah (fun _ _=>rfl))) (af 1)))
  (ai (iL 0 ah (ao mf (dY (fJ 0 ah (fun _ _=>rfl)) (au (af 0) ah (fun _ _=>rfl))) (af 1)))
  (ai (iL 0 ah (dh zS (dY (fJ 0 ah (fun _ _=>rfl)) (au (af 0) ah (fun _ _=>rfl))) ah (aO _)))
  (ak (aD (eW 2)))))) aQ)
  (ai (av (i:=3) c4.nd rfl (by walk_at "o") ah)
  (ai (ju PassesOwn.never rfl (gT rfl T.z_range (ao a6 ah (ao aX ah (b6 uh rfl T.z_int (by decide +kernel) (ae (dh zS (af 1) (ao xi ah ah) (aO _)) ag))))) (n4 (i:=4) c4.nd rfl (by walk_at "o")) (ai (iL 0 ah (ao bV (ao a6 (ao aX (dY (fJ 0 ah (fun _ _=>rfl)) (au (af 0) ah (fun _ _=>rfl))) ah) ah) ah))
  (ak (av (i:=3) c4.nd rfl (by walk_at "o") (ar (ao a6 (ao aX (af 3) ah) (ao bV (ao aX (dY (fJ 0 ah (fun _ _=>rfl)) (au (af 0) ah (fun _ _=>rfl))) (dY (fJ 0 ah (fun _ _=>rfl)) (au (af 0) ah (fun _ _=>rfl)))) ah)))))))
  (ak (aD (ao bV (ao mf (af 3) ah) (af 1))))))))
  o7
theorem cx:aC gn ["_law_state","_law_many"] (aq cX):=⟨rfl,rfl,rfl,by decide +kernel,rfl,by decide +kernel,by decide +kernel⟩
set_option maxHeartbeats 0 in
theorem pE (T:Tx K mg ad fd):FnOk P w K mg base CX0 2 (ad 22) (fd 22) ["_law_state","_law_many"] (spF K 2 ft) :=
 bu (k:=1) T.x__law_names.f cx gD (fun cdv A outer s H E hr=>(ai (av (i:=2) cx.nd rfl (by walk_at "o") cT)
  (ai (av (i:=3) cx.nd rfl (by walk_at "o") (ar (Cn (kf (sc:=(aq cX)) (N:=gn) (Nt:=["_law_k"]) (Nf:=["_law_letters","_law_state"]) (fi:=[2,0]) rfl rfl rfl (gT rfl T.z_range (ao a6 ah (bc (aB T) T.x__law_take hr 0 0 (aR 0 (ae ah ag))))) rfl (by decide +kernel) (by decide +kernel) (by decide +kernel) (by decide) rfl (by decide +kernel) (by decide) (fun _ _ _ _=>(ke (by decide) (show ((["_law_k"]:List Str)++(["_law_letters","_law_state"]:List Str)).Nodup by decide +kernel) rfl (Or.inl rfl))) (fun _ _ _ _=>mh) (fun _ _ _ _=>(au (af 1) (bc (aB T) T.x__law_take hr 0 2 (aR 2 (ae ah ag))) (fun _ _=>rfl)))))))
  (ai (av (i:=4) cx.nd rfl (by walk_at "o") (ar (bc (aB T) T.x__law_take hr 0 0 (aR 0 (ae (ar (aK cU rfl T.z_len (by decide +kernel) (ae (af 3) ag))) ag)))))
  (ai (av (i:=5) cx.nd rfl (by walk_at "o") (ar (bc (aB T) T.x__law_take hr 0 0 (aR 0 (ae ah ag)))))
  (ak (aD (kf (sc:=(aq cX)) (N:=gn) (Nt:=["_law_k"]) (Nf:=["_law_base","_law_at","_law_letters","_law_turn"]) (fi:=[3,4,2,5]) rfl rfl rfl (gT rfl T.z_range (af 1)) rfl (by decide +kernel) (by decide +kernel) (by decide +kernel) (by decide) rfl (by decide +kernel) (by decide) (fun _ _ _ _=>(ke (by decide) (show ((["_law_k"]:List Str)++(["_law_base","_law_at","_law_letters","_law_turn"]:List Str)).Nodup by decide +kernel) rfl (Or.inl rfl))) (fun _ _ _ _=>mh) (fun _ _ _ _=>(ao a6 (ao a6 (jA (af 1) trivial (af 2)) (au (af 3) (ao bV (ao a6 (af 4) (af 0)) ah) (fun _ _=>rfl))) (jA (af 1) (ao a6 (af 2) ah) trivial)))))))))))
  nh
theorem dS:aC wb ["_law_top","_law_bottom"] (aq kE):=⟨rfl,rfl,rfl,by decide +kernel,rfl,by decide +kernel,by decide +kernel⟩
set_option maxHeartbeats 0 in
theorem cL (T:Tx K mg ad fd):FnOk P w K mg base CX0 1 (ad 23) (fd 23) ["_law_top","_law_bottom"] (spF K 2 bF) :=
 bu (k:=0) T.x__law_low.f dS kI (fun cdv A outer s H E hr=>(ai (av (i:=2) dS.nd rfl (by walk_at "o") (ar (aK xj rfl T.z_abs (by decide +kernel) (ae (af 0) ag))))
  (ai (av (i:=3) dS.nd rfl (by walk_at "o") (ar (aK xj rfl T.z_abs (by decide +kernel) (ae (af 1) ag))))
  (ai (lL PassesOwn.never (pbc (p6 hr.units) (af 2) ah (aO _)) (ak (Bl (i:=2) (j:=3) rfl dS.nd rfl rfl (by decide) rfl rfl (ao bV (af 3) (af 2)) (af 2) rfl)))
  (ai (bT (pbc rV (af 1) ah (aO _)) (ak (av (i:=3) dS.nd rfl (by walk_at "o") (ao dF ah (af 3)))) aQ)
  (ak (aD (aJ (ae (ao mf (af 0) (af 3)) (ae (ao mf (af 1) (af 3)) ag))))))))))
  qU
theorem eE:aC oV ["_law_state","_law_least","_law_kind"] (aq fj):=⟨rfl,rfl,rfl,by decide +kernel,rfl,by decide +kernel,by decide +kernel⟩
set_option maxHeartbeats 0 in
theorem eF (T:Tx K mg ad fd):FnOk P w K mg base CX0 2 (ad 24) (fd 24) ["_law_state","_law_least","_law_kind"] (spF K 3 b7) :=
 bu (k:=1) T.x__law_amount.f eE fu (fun cdv A outer s H E hr=>by exact (@ai _ _ _ _ _ (@av _ _ _ 3 _ _ _ eE.nd rfl (by walk_at "o") (@ar _ _ _ (@ao _ _ _ _ _ _ _ _ a6 ah (bc (aB T) T.x__law_take hr 0 0 (aR 0 (@ae _ _ _ _ _ _ (au (@aY _ _ _ _ _ (@ae _ _ _ _ _ _ ah (@ae _ _ _ _ _ _ ah (@ae _ _ _ _ _ _ ah (@ae _ _ _ _ _ _ ah (@ae _ _ _ _ _ _ ah ag (by kernel_rfl)) (by kernel_rfl)) (by kernel_rfl)) (by kernel_rfl)) (by kernel_rfl))) (af 2) (fun _ _=>rfl)) ag (by kernel_rfl)))))) (by kernel_rfl) (by first | exact .inl rfl | exact .inr rfl)) (@ai _ _ _ _ _ (@av _ _ _ 4 _ _ _ eE.nd rfl (by walk_at "o") (@ar _ _ _ (@ao _ _ _ _ _ _ _ _ a6 (af 1) (bc (aB T) T.x__law_take hr 0 0 (aR 0 (@ae _ _ _ _ _ _ (au (@aY _ _ _ _ _ (@ae _ _ _ _ _ _ ah (@ae _ _ _ _ _ _ ah (@ae _ _ _ _ _ _ ah (@ae _ _ _ _ _ _ ah (@ae _ _ _ _ _ _ (@ao _ _ _ _ _ _ _ _ xi ah ah) ag (by kernel_rfl)) (by kernel_rfl)) (by kernel_rfl)) (by kernel_rfl)) (by kernel_rfl))) (af 2) (fun _ _=>rfl)) ag (by kernel_rfl)))))) (by kernel_rfl) (by first | exact .inl rfl | exact .inr rfl)) (ak (aD (aU (cL T) T.x__law_low hr (@ae _ _ _ _ _ _ (af 4) (@ae _ _ _ _ _ _ (af 3) ag (by kernel_rfl)) (by kernel_rfl))))))))
  mT
theorem bU:aC qJ ["_law_state","_law_ties_here","_law_kind"] (aq gp):=⟨rfl,rfl,rfl,by decide +kernel,rfl,by decide +kernel,by decide +kernel⟩
set_option maxHeartbeats 0 in
theorem pF (T:Tx K mg ad fd):FnOk P w K mg base CX0 3 (ad 25) (fd 25) ["_law_state","_law_ties_here","_law_kind"] (spF K 3 fv) :=
 bu (k:=2) T.x__law_rooms.f bU gE (fun cdv A outer s H E hr=>(ai (av (i:=3) bU.nd rfl (by walk_at "o") (ar (bc (aB T) T.x__law_take hr 0 0 (aR 0 (ae ah ag)))))
  (ai (av (i:=4) bU.nd rfl (by walk_at "o") (ar (bc (eF T) T.x__law_amount hr 0 0 (aR 0 (ae ah (ae (af 2) ag))))))
  (ai (bT (pbc (eH hr.units) (af 3) ah (aO _)) (ak (av (i:=4) bU.nd rfl (by walk_at "o") (aJ (ae ah (ae ah ag))))) aQ)
  (ai (av (i:=5) bU.nd rfl (by walk_at "o") (aY (ae (af 4) ag)))
  (ai (lL PassesOwn.never (pbc rV (dY (xn 5 rfl T.z_len) (aK cU rfl T.z_len PySem.boot_len (ae (af 5) ag))) (af 1) (aO _)) (ai (av (i:=6) bU.nd rfl (by walk_at "o") (ar (bc (eF T) T.x__law_amount hr 0 0 (aR 0 (ae ah (ae (af 2) ag))))))
  (ak (fV (dH 5 (au (aY (ae (af 4) (ae (af 6) ag))) (b6 uh rfl T.z_int (by decide +kernel) (ae (dh (eH hr.units) (af 3) ah (aO _)) ag)) (fun _ _=>rfl)))))))
  (ak (aD (eW 5)))))))))
  ni
theorem gQ:aC tj ["_law_state","_law_shape","_law_places","_law_k"] (aq iU):=⟨rfl,rfl,rfl,by decide +kernel,rfl,by decide +kernel,by decide +kernel⟩
set_option maxHeartbeats 0 in
theorem rC (T:Tx K mg ad fd):FnOk P w K mg base CX0 2 (ad 26) (fd 26) ["_law_state","_law_shape","_law_places","_law_k"] (spF K 4 gF) :=
 bu (k:=1) T.x__law_ends.f gQ jd (fun cdv A outer s H E hr=>(ai (av (i:=4) gQ.nd rfl (by walk_at "o") (ar (bc (aB T) T.x__law_take hr 0 0 (aR 0 (ae (af 2) ag)))))
  (ai (av (i:=5) gQ.nd rfl (by walk_at "o") (ao bV (ao a6 (ao a6 (af 4) ah) (bc (aB T) T.x__law_take hr 0 0 (aR 0 (ae (ao dF (af 2) ah) ag)))) (af 2)))
  (ai (bT (pbc (eH hr.units) (af 1) ah (aO _)) (ak (aD (aJ (ae (ao bV (af 3) (af 2)) (ae (ao bV (ao a6 (af 3) (ao mf (af 2) ah)) (af 2)) ag))))) aQ)
  (ai (bT (pbc (eH hr.units) (af 1) ah (aO _)) (ak (aD (aJ (ae (ar (ao aX (ao bV (af 3) ah) (ao dF (af 2) ah))) (ae (ar (ao aX (ao dF ah (ao bV (af 3) ah)) (ao dF (af 2) ah))) ag))))) aQ)
  (ai (bT (pbc (eH hr.units) (af 1) ah (aO _)) (ak (aD (aJ (ae ah (ae (ar (ao a6 ah (ao bV (af 5) (ao dF (af 2) ah)))) ag))))) aQ)
  (ak (aD (aJ (ae (af 4) (ae (af 5) ag)))))))))))
  o8
theorem aV:aC tq ["_law_script","_law_at","_law_most","_law_count"] (aq iV):=⟨rfl,rfl,rfl,by decide +kernel,rfl,by decide +kernel,by decide +kernel⟩
set_option maxHeartbeats 0 in
theorem rD (T:Tx K mg ad fd):FnOk P w K mg base CX0 4 (ad 27) (fd 27) ["_law_script","_law_at","_law_most","_law_count"] (spF K 4 gG) :=
 bu (k:=3) T.x__law_ring.f aV je (fun cdv A outer s H E hr=>by exact (@ai _ _ _ _ _ (@av _ _ _ 4 _ _ _ aV.nd rfl (by walk_at "o") (aU (cw T) T.x__law_begun hr (@ae _ _ _ _ _ _ (af 0) (@ae _ _ _ _ _ _ (af 1) ag (by kernel_rfl)) (by kernel_rfl))) (by kernel_rfl) (by first | exact .inl rfl | exact .inr rfl)) (@ai _ _ _ _ _ (@av _ _ _ 5 _ _ _ aV.nd rfl (by walk_at "o") (@ar _ _ _ (@ao _ _ _ _ _ _ _ _ a6 ah (bc (aB T) T.x__law_take hr 0 4 (aR 4 (@ae _ _ _ _ _ _ (@ao _ _ _ _ _ _ _ _ dF (af 2) ah) ag (by kernel_rfl)))))) (by kernel_rfl) (by first | exact .inl rfl | exact .inr rfl)) (@ai _ _ _ _ _ (@av _ _ _ 6 _ _ _ aV.nd rfl (by walk_at "o") (@ar _ _ _ (bc (aB T) T.x__law_take hr 0 4 (aR 4 (@ae _ _ _ _ _ _ (@ar _ _ _ (@ao _ _ _ _ _ _ _ _ a6 (af 3) ah)) ag (by kernel_rfl))))) (by kernel_rfl) (by first | exact .inl rfl | exact .inr rfl)) (@ai _ _ _ _ _ (@av _ _ _ 7 _ _ _ aV.nd rfl (by walk_at "o") (@ar _ _ _ (@aY _ _ _ _ _ (@ae _ _ _ _ _ _ (@ar _ _ _ (bc (aB T) T.x__law_take hr 0 4 (aR 4 (@ae _ _ _ _ _ _ ah ag (by kernel_rfl))))) (@ae _ _ _ _ _ _ (@ar _ _ _ (bc (aB T) T.x__law_take hr 0 4 (aR 4 (@ae _ _ _ _ _ _ ah ag (by kernel_rfl))))) ag (by kernel_rfl)) (by kernel_rfl)))) (by kernel_rfl) (by first | exact .inl rfl | exact .inr rfl)) (@ai _ _ _ _ _ (@av _ _ _ 8 _ _ _ aV.nd rfl (by walk_at "o") (@ar _ _ _ (bc (aB T) T.x__law_take hr 0 4 (aR 4 (@ae _ _ _ _ _ _ ah ag (by kernel_rfl))))) (by kernel_rfl) (by first | exact .inl rfl | exact .inr rfl)) (@ai _ _ _ _ _ (@av _ _ _ 9 _ _ _ aV.nd rfl (by walk_at "o") (@ar _ _ _ (bc (pE T) T.x__law_names hr 0 4 (aR 4 (@ae _ _ _ _ _ _ (af 6) ag (by kernel_rfl))))) (by kernel_rfl) (by first | exact .inl rfl | exact .inr rfl)) (@ai _ _ _ _ _ (@av _ _ _ 10 _ _ _ aV.nd rfl (by walk_at "o") (@ar _ _ _ (aU (pF T) T.x__law_rooms hr (@ae _ _ _ _ _ _ (aU (cw T) T.x__law_begun hr (@ae _ _ _ _ _ _ (af 0) (@ae _ _ _ _ _ _ (@ar _ _ _ (@ao _ _ _ _ _ _ _ _ a6 (af 1) ah)) ag (by kernel_rfl)) (by kernel_rfl))) (@ae _ _ _ _ _ _ (af 5) (@ae _ _ _ _ _ _ (au (af 7) ah (fun _ _=>rfl)) ag (by kernel_rfl)) (by kernel_rfl)) (by kernel_rfl)))) (by kernel_rfl) (by first | exact .inl rfl | exact .inr rfl)) (@ai _ _ _ _ _ (@av _ _ _ 4 _ _ _ aV.nd rfl (by walk_at "o") (aU (cw T) T.x__law_begun hr (@ae _ _ _ _ _ _ (af 0) (@ae _ _ _ _ _ _ (@ar _ _ _ (@ao _ _ _ _ _ _ _ _ a6 (af 1) ah)) ag (by kernel_rfl)) (by kernel_rfl))) (by kernel_rfl) (by first | exact .inl rfl | exact .inr rfl)) (@ai _ _ _ _ _ (@av _ _ _ 11 _ _ _ aV.nd rfl (by walk_at "o") (@aY _ _ _ _ _ ag) (by kernel_rfl) (by first | exact .inl rfl | exact .inr rfl)) (@ai _ _ _ _ _ (ju PassesOwn.never rfl (gT rfl T.z_range (af 6)) (n4 (i:=12) aV.nd rfl (by walk_at "o")) (@ai _ _ _ _ _ (mi (hW rfl (aE (i:=13) aV.nd rfl (by walk_at "o") (aE (i:=14) aV.nd rfl (by walk_at "o") ei))) (bc (rC T) T.x__law_ends hr 0 4 (aR 4 (@ae _ _ _ _ _ _ (af 8) (@ae _ _ _ _ _ _ (af 5) (@ae _ _ _ _ _ _ (af 12) ag (by kernel_rfl)) (by kernel_rfl)) (by kernel_rfl))))) (ak (fV (dH 11 (@aJ _ _ _ _ _ _ (@ae _ _ _ _ _ _ (au (af 9) (af 12) (fun _ _=>rfl)) (@ae _ _ _ _ _ _ (af 13) (@ae _ _ _ _ _ _ (af 14) (@ae _ _ _ _ _ _ (@ar _ _ _ (bc (eF T) T.x__law_amount hr 0 4 (aR 4 (@ae _ _ _ _ _ _ ah (@ae _ _ _ _ _ _ (au (af 7) ah (fun _ _=>rfl)) ag (by kernel_rfl)) (by kernel_rfl))))) ag (by kernel_rfl)) (by kernel_rfl)) (by kernel_rfl)) (by kernel_rfl)))))))) (ak (aD (@aJ _ _ _ _ _ _ (@ae _ _ _ _ _ _ (af 10) (@ae _ _ _ _ _ _ (af 11) ag (by kernel_rfl)) (by kernel_rfl))))))))))))))))
  o9
theorem bj:aC qK ["_law_state","_law_ring_here"] (aq gq):=⟨rfl,rfl,rfl,by decide +kernel,rfl,by decide +kernel,by decide +kernel⟩
set_option maxHeartbeats 0 in
theorem pG (T:Tx K mg ad fd):FnOk P w K mg base CX0 2 (ad 28) (fd 28) ["_law_state","_law_ring_here"] (spF K 2 fA) :=
 bu (k:=1) T.x__law_parts.f bj gH (fun cdv A outer s H E hr=>(ai (av (i:=2) bj.nd rfl (by walk_at "o") (aY ag))
  (ai (ju PassesOwn.never rfl (iJ (au (af 1) ah (fun _ _=>rfl))) (hW rfl (aE (i:=3) bj.nd rfl (by walk_at "o") (aE (i:=4) bj.nd rfl (by walk_at "o") (aE (i:=5) bj.nd rfl (by walk_at "o") (aE (i:=6) bj.nd rfl (by walk_at "o") ei))))) (ai (av (i:=7) bj.nd rfl (by walk_at "o") (ar (bc (aB T) T.x__law_take hr 0 0 (aR 0 (ae ah ag)))))
  (ai (av (i:=8) bj.nd rfl (by walk_at "o") (ar (bc (aB T) T.x__law_take hr 0 0 (aR 0 (ae ah ag)))))
  (ak (fV (dH 2 (au (aY (ae (aJ (ae ah (ae ah ag))) (ae (af 6) (ae (ar (aU (cL T) T.x__law_low hr (ae (ar (ao aX (au (af 6) ah (fun _ _=>rfl)) (af 8))) (ae (ar (ao aX (au (af 6) ah (fun _ _=>rfl)) ah)) ag)))) ag)))) (aK (Bk rfl) rfl T.z_min (by decide +kernel) (ae (af 7) (ae ah ag))) (fun _ _=>rfl))))))))
  (ak (aD (eW 2))))))
  nj
theorem pH:aC qL ["_law_one","_law_other"] (aq gu):=⟨rfl,rfl,rfl,by decide +kernel,rfl,by decide +kernel,by decide +kernel⟩
set_option maxHeartbeats 0 in
theorem cy (T:Tx K mg ad fd):FnOk P w K mg base CX0 2 (ad 29) (fd 29) ["_law_one","_law_other"] (spF K 2 bG) :=
 bu (k:=1) T.x__law_minus.f pH gI (fun cdv A outer s H E hr=>(ak (aD (aU (cL T) T.x__law_low hr (ae (ao dF (ao aX (au (af 0) ah (fun _ _=>rfl)) (au (af 1) ah (fun _ _=>rfl))) (ao aX (au (af 1) ah (fun _ _=>rfl)) (au (af 0) ah (fun _ _=>rfl)))) (ae (ar (ao aX (au (af 0) ah (fun _ _=>rfl)) (au (af 1) ah (fun _ _=>rfl)))) ag))))))
  nk
theorem rE:aC tD ["_law_ring_here","_law_sending","_law_k","_law_way"] (aq iW):=⟨rfl,rfl,rfl,by decide +kernel,rfl,by decide +kernel,by decide +kernel⟩
set_option maxHeartbeats 0 in
theorem gR (T:Tx K mg ad fd):FnOk P w K mg base CX0 3 (ad 30) (fd 30) ["_law_ring_here","_law_sending","_law_k","_law_way"] (spF K 4 cY) :=
 bu (k:=2) T.x__law_gone.f rE jf (fun cdv A outer s H E hr=>(ai (bT (pbc (eH hr.units) (af 3) cT (aO _)) (ak (aD (au (af 1) (af 2) (fun _ _=>rfl)))) aQ)
  (ak (aD (aU (cy T) T.x__law_minus hr (ae (au (au (au (af 0) ah (fun _ _=>rfl)) (af 2) (fun _ _=>rfl)) ah (fun _ _=>rfl)) (ae (au (af 1) (af 2) (fun _ _=>rfl)) ag)))))))
  pd
theorem pJ:aC qM ["_law_one","_law_other"] (aq gv):=⟨rfl,rfl,rfl,by decide +kernel,rfl,by decide +kernel,by decide +kernel⟩
set_option maxHeartbeats 0 in
theorem j9 (T:Tx K mg ad fd):FnOk P w K mg base CX0 1 (ad 31) (fd 31) ["_law_one","_law_other"] (spF K 2 du) :=
 bu (k:=0) T.x__law_under.f pJ gJ (fun cdv A outer s H E hr=>(ak (aD (dh rV (ao aX (au (af 0) ah (fun _ _=>rfl)) (au (af 1) ah (fun _ _=>rfl))) (ao aX (au (af 1) ah (fun _ _=>rfl)) (au (af 0) ah (fun _ _=>rfl))) (aO _)))))
  nq
theorem a8:aC qN ["_law_state","_law_ring_here","_law_sending"] (aq gw):=⟨rfl,rfl,rfl,by decide +kernel,rfl,by decide +kernel,by decide +kernel⟩
set_option maxHeartbeats 0 in
theorem pK (T:Tx K mg ad fd):FnOk P w K mg base CX0 4 (ad 32) (fd 32) ["_law_state","_law_ring_here","_law_sending"] (spF K 3 dz) :=
 bu (k:=3) T.x__law_drawn.f a8 gK (fun cdv A outer s H E hr=>by exact (@ai _ _ _ _ _ (@av _ _ _ 3 _ _ _ a8.nd rfl (by walk_at "o") (@ar _ _ _ (aK cU rfl T.z_len (by decide +kernel) (@ae _ _ _ _ _ _ (au (af 1) ah (fun _ _=>rfl)) ag (by kernel_rfl)))) (by kernel_rfl) (by first | exact .inl rfl | exact .inr rfl)) (@ai _ _ _ _ _ (@av _ _ _ 4 _ _ _ a8.nd rfl (by walk_at "o") (@ar _ _ _ (bc (aB T) T.x__law_take hr 0 0 (aR 0 (@ae _ _ _ _ _ _ (af 3) ag (by kernel_rfl))))) (by kernel_rfl) (by first | exact .inl rfl | exact .inr rfl)) (@ai _ _ _ _ _ (@av _ _ _ 5 _ _ _ a8.nd rfl (by walk_at "o") (@ao _ _ _ _ _ _ _ _ bV (@ao _ _ _ _ _ _ _ _ a6 (@ao _ _ _ _ _ _ _ _ a6 (af 4) ah) (bc (aB T) T.x__law_take hr 0 0 (aR 0 (@ae _ _ _ _ _ _ (@ar _ _ _ (aK (Bj rfl) rfl T.z_max (by decide +kernel) (@ae _ _ _ _ _ _ ah (@ae _ _ _ _ _ _ (@ao _ _ _ _ _ _ _ _ dF (af 3) ah) ag (by kernel_rfl)) (by kernel_rfl)))) ag (by kernel_rfl))))) (af 3)) (by kernel_rfl) (by first | exact .inl rfl | exact .inr rfl)) (@ai _ _ _ _ _ (@av _ _ _ 6 _ _ _ a8.nd rfl (by walk_at "o") (au (@aY _ _ _ _ _ (@ae _ _ _ _ _ _ cT (@ae _ _ _ _ _ _ cT ag (by kernel_rfl)) (by kernel_rfl))) (bc (aB T) T.x__law_take hr 0 0 (aR 0 (@ae _ _ _ _ _ _ ah ag (by kernel_rfl)))) (fun _ _=>rfl)) (by kernel_rfl) (by first | exact .inl rfl | exact .inr rfl)) (@ai _ _ _ _ _ (@av _ _ _ 7 _ _ _ a8.nd rfl (by walk_at "o") (au (@aY _ _ _ _ _ (@ae _ _ _ _ _ _ cT (@ae _ _ _ _ _ _ cT ag (by kernel_rfl)) (by kernel_rfl))) (bc (aB T) T.x__law_take hr 0 0 (aR 0 (@ae _ _ _ _ _ _ ah ag (by kernel_rfl)))) (fun _ _=>rfl)) (by kernel_rfl) (by first | exact .inl rfl | exact .inr rfl)) (@ai _ _ _ _ _ (@av _ _ _ 8 _ _ _ a8.nd rfl (by walk_at "o") (@ar _ _ _ (aU (cy T) T.x__law_minus hr (@ae _ _ _ _ _ _ (au (au (au (af 1) ah (fun _ _=>rfl)) (af 4) (fun _ _=>rfl)) ah (fun _ _=>rfl)) (@ae _ _ _ _ _ _ (@ar _ _ _ (aU (gR T) T.x__law_gone hr (@ae _ _ _ _ _ _ (af 1) (@ae _ _ _ _ _ _ (af 2) (@ae _ _ _ _ _ _ (af 4) (@ae _ _ _ _ _ _ (af 6) ag (by kernel_rfl)) (by kernel_rfl)) (by kernel_rfl)) (by kernel_rfl)))) ag (by kernel_rfl)) (by kernel_rfl)))) (by kernel_rfl) (by first | exact .inl rfl | exact .inr rfl)) (@ai _ _ _ _ _ (@av _ _ _ 9 _ _ _ a8.nd rfl (by walk_at "o") (@ar _ _ _ (aU (cy T) T.x__law_minus hr (@ae _ _ _ _ _ _ (au (au (au (af 1) ah (fun _ _=>rfl)) (af 5) (fun _ _=>rfl)) ah (fun _ _=>rfl)) (@ae _ _ _ _ _ _ (@ar _ _ _ (aU (gR T) T.x__law_gone hr (@ae _ _ _ _ _ _ (af 1) (@ae _ _ _ _ _ _ (af 2) (@ae _ _ _ _ _ _ (af 5) (@ae _ _ _ _ _ _ (af 7) ag (by kernel_rfl)) (by kernel_rfl)) (by kernel_rfl)) (by kernel_rfl)))) ag (by kernel_rfl)) (by kernel_rfl)))) (by kernel_rfl) (by first | exact .inl rfl | exact .inr rfl)) (@ai _ _ _ _ _ (@av _ _ _ 10 _ _ _ a8.nd rfl (by walk_at "o") (au (@aY _ _ _ _ _ (@ae _ _ _ _ _ _ (af 8) (@ae _ _ _ _ _ _ (af 9) ag (by kernel_rfl)) (by kernel_rfl))) (b6 uh rfl T.z_int (by decide +kernel) (@ae _ _ _ _ _ _ (@ar _ _ _ (aU (j9 T) T.x__law_under hr (@ae _ _ _ _ _ _ (af 9) (@ae _ _ _ _ _ _ (af 8) ag (by kernel_rfl)) (by kernel_rfl)))) ag (by kernel_rfl))) (fun _ _=>rfl)) (by kernel_rfl) (by first | exact .inl rfl | exact .inr rfl)) (@ai _ _ _ _ _ (@av _ _ _ 11 _ _ _ a8.nd rfl (by walk_at "o") (au (@aY _ _ _ _ _ (@ae _ _ _ _ _ _ ah (@ae _ _ _ _ _ _ (@ar _ _ _ (@ao _ _ _ _ _ _ _ _ a6 ah (bc (aB T) T.x__law_take hr 0 0 (aR 0 (@ae _ _ _ _ _ _ ah ag (by kernel_rfl)))))) ag (by kernel_rfl)) (by kernel_rfl))) (bc (aB T) T.x__law_take hr 0 0 (aR 0 (@ae _ _ _ _ _ _ ah ag (by kernel_rfl)))) (fun _ _=>rfl)) (by kernel_rfl) (by first | exact .inl rfl | exact .inr rfl)) (ak (aD (@aJ _ _ _ _ _ _ (@ae _ _ _ _ _ _ (af 4) (@ae _ _ _ _ _ _ (af 6) (@ae _ _ _ _ _ _ (af 5) (@ae _ _ _ _ _ _ (af 7) (@ae _ _ _ _ _ _ (@ar _ _ _ (aU (cL T) T.x__law_low hr (@ae _ _ _ _ _ _ (@ar _ _ _ (@ao _ _ _ _ _ _ _ _ aX (au (af 10) ah (fun _ _=>rfl)) (af 11))) (@ae _ _ _ _ _ _ (@ar _ _ _ (@ao _ _ _ _ _ _ _ _ aX (au (af 10) ah (fun _ _=>rfl)) ah)) ag (by kernel_rfl)) (by kernel_rfl)))) ag (by kernel_rfl)) (by kernel_rfl)) (by kernel_rfl)) (by kernel_rfl)) (by kernel_rfl)))))))))))))))
  nr
theorem bA:aC tE ["_law_ring_here","_law_k","_law_way"] (aq iX):=⟨rfl,rfl,rfl,by decide +kernel,rfl,by decide +kernel,by decide +kernel⟩
set_option maxHeartbeats 0 in
theorem lq (T:Tx K mg ad fd):FnOk P w K mg base CX0 1 (ad 33) (fd 33) ["_law_ring_here","_law_k","_law_way"] (spF K 3 d6) :=
 bu (k:=0) T.x__law_ties.f bA jg (fun cdv A outer s H E hr=>(ai (mi (hW rfl (aE (i:=3) bA.nd rfl (by walk_at "o") (aE (i:=4) bA.nd rfl (by walk_at "o") (aE (i:=5) bA.nd rfl (by walk_at "o") (aE (i:=6) bA.nd rfl (by walk_at "o") ei))))) (au (au (af 0) ah (fun _ _=>rfl)) (af 1) (fun _ _=>rfl)))
  (ai (bT (pbc (eH hr.units) (af 2) cT (aO _)) (ak (Bl (i:=4) (j:=5) rfl bA.nd rfl rfl (by decide) rfl rfl (af 5) (af 4) rfl)) aQ)
  (ai (av (i:=7) bA.nd rfl (by walk_at "o") (aY ag))
  (ai (lL PassesOwn.never (pbc (p6 hr.units) (af 4) (af 5) (aO _)) (ai (fV (dH 7 (af 4)))
  (ak (av (i:=4) bA.nd rfl (by walk_at "o") (ao bV (ao a6 (af 4) ah) (aK cU rfl T.z_len (by decide +kernel) (ae (au (af 0) ah (fun _ _=>rfl)) ag)))))))
  (ak (aD (eW 7))))))))
  pf
theorem fM:aC mH ["_law_thing"] (aq dN):=⟨rfl,rfl,rfl,by decide +kernel,rfl,by decide +kernel,by decide +kernel⟩
set_option maxHeartbeats 0 in
theorem lI (T:Tx K mg ad fd):FnOk P w K mg base CX0 2 (ad 34) (fd 34) ["_law_thing"] (spF K 1 df) :=
 bu (k:=1) T.x__law_is_ratio.f fM dQ (fun cdv A outer s H E hr=>(ai (bT (PBw.pb (dE (dX (bQ (dG jy rfl T.z_isinstance rfl T.z_tuple (by decide +kernel) (af 0)))) (c7 (pbc (p6 hr.units) (aK cU rfl T.z_len (by decide +kernel) (ae (af 0) ag)) ah (aO _))))) (ak (aD fN)) aQ)
  (ai (ju PassesOwn.never rfl (iJ (af 0)) (n4 (i:=1) fM.nd rfl (by walk_at "o")) (ak (bT (PBw.pb (dE (dX (bQ (dG r9 rfl T.z_isinstance rfl T.z_int (by decide +kernel) (af 1)))) (c7 (bQ (dG lM rfl T.z_isinstance rfl T.z_bool (by decide +kernel) (af 1)))))) (ak (aD fN)) aQ)))
  (ai (bT (pbc rV (au (af 0) ah (fun _ _=>rfl)) ah (aO _)) (ak (aD fN)) aQ)
  (ak (aD (dh (eH hr.units) (af 0) (aU (cL T) T.x__law_low hr (ae (au (af 0) ah (fun _ _=>rfl)) (ae (au (af 0) ah (fun _ _=>rfl)) ag))) (aO _))))))))
  kJ
theorem aF:aC gy ["_law_ring_here","_law_sending","_law_thing"] (aq cv):=⟨rfl,rfl,rfl,by decide +kernel,rfl,by decide +kernel,by decide +kernel⟩
set_option maxHeartbeats 0 in
theorem lJ (T:Tx K mg ad fd):FnOk P w K mg base CX0 4 (ad 35) (fd 35) ["_law_ring_here","_law_sending","_law_thing"] (spF K 3 b9) :=
 bu (k:=3) T.x__law_is_slide.f aF dR (fun cdv A outer s H E hr=>by exact (@ai _ _ _ _ _ (bT (PBw.pb (dE (dX (bQ (dG jy rfl T.z_isinstance rfl T.z_tuple (by decide +kernel) (af 2)))) (c7 (pbc (p6 hr.units) (aK cU rfl T.z_len (by decide +kernel) (@ae _ _ _ _ _ _ (af 2) ag (by kernel_rfl))) ah (aO _))))) (ak (aD fN)) aQ) (@ai _ _ _ _ _ (mi (hW rfl (aE (i:=3) aF.nd rfl (by walk_at "o") (aE (i:=4) aF.nd rfl (by walk_at "o") (aE (i:=5) aF.nd rfl (by walk_at "o") (aE (i:=6) aF.nd rfl (by walk_at "o") (aE (i:=7) aF.nd rfl (by walk_at "o") ei)))))) (af 2)) (@ai _ _ _ _ _ (ju PassesOwn.never rfl (iJ (@aY _ _ _ _ _ (@ae _ _ _ _ _ _ (@aJ _ _ _ _ _ _ (@ae _ _ _ _ _ _ (af 3) (@ae _ _ _ _ _ _ (af 4) ag (by kernel_rfl)) (by kernel_rfl))) (@ae _ _ _ _ _ _ (@aJ _ _ _ _ _ _ (@ae _ _ _ _ _ _ (af 5) (@ae _ _ _ _ _ _ (af 6) ag (by kernel_rfl)) (by kernel_rfl))) ag (by kernel_rfl)) (by kernel_rfl)))) (hW rfl (aE (i:=8) aF.nd rfl (by walk_at "o") (aE (i:=9) aF.nd rfl (by walk_at "o") ei))) (@ai _ _ _ _ _ (bT (PBw.pb (dE (dX (bQ (dG r9 rfl T.z_isinstance rfl T.z_int (by decide +kernel) (af 8)))) (dE (bQ (dG lM rfl T.z_isinstance rfl T.z_bool (by decide +kernel) (af 8))) (c7 (dX (zY Et Es ah (af 8) (aK cU rfl T.z_len (by decide +kernel) (@ae _ _ _ _ _ _ (au (af 0) ah (fun _ _=>rfl)) ag (by kernel_rfl))))))))) (ak (aD fN)) aQ) (ak (bT (PBw.pb (dE (dX (bQ (dG xu rfl T.z_isinstance rfl T.z_str (by decide +kernel) (af 9)))) (c7 (pbc zT (af 9) (@aJ _ _ _ _ _ _ (@ae _ _ _ _ _ _ cT (@ae _ _ _ _ _ _ cT ag (by kernel_rfl)) (by kernel_rfl))) rfl)))) (ak (aD fN)) aQ)))) (@ai _ _ _ _ _ (bT (PBw.pb (dE (pbc (eH hr.units) (af 3) (af 5) (aO _)) (dE (dX (bQ (aU (lI T) T.x__law_is_ratio hr (@ae _ _ _ _ _ _ (af 7) ag (by kernel_rfl))))) (c7 (pbc F5 (au (af 7) ah (fun _ _=>rfl)) ah (aO _)))))) (ak (aD fN)) aQ) (@ai _ _ _ _ _ (ju PassesOwn.never rfl (iJ (@aY _ _ _ _ _ (@ae _ _ _ _ _ _ (@aJ _ _ _ _ _ _ (@ae _ _ _ _ _ _ (af 3) (@ae _ _ _ _ _ _ (af 4) ag (by kernel_rfl)) (by kernel_rfl))) (@ae _ _ _ _ _ _ (@aJ _ _ _ _ _ _ (@ae _ _ _ _ _ _ (af 5) (@ae _ _ _ _ _ _ (af 6) ag (by kernel_rfl)) (by kernel_rfl))) ag (by kernel_rfl)) (by kernel_rfl)))) (hW rfl (aE (i:=8) aF.nd rfl (by walk_at "o") (aE (i:=9) aF.nd rfl (by walk_at "o") ei))) (@ai _ _ _ _ _ (@av _ _ _ 10 _ _ _ aF.nd rfl (by walk_at "o") (@ar _ _ _ (aU (cy T) T.x__law_minus hr (@ae _ _ _ _ _ _ (au (au (au (af 0) ah (fun _ _=>rfl)) (af 8) (fun _ _=>rfl)) ah (fun _ _=>rfl)) (@ae _ _ _ _ _ _ (@ar _ _ _ (aU (gR T) T.x__law_gone hr (@ae _ _ _ _ _ _ (af 0) (@ae _ _ _ _ _ _ (af 1) (@ae _ _ _ _ _ _ (af 8) (@ae _ _ _ _ _ _ (af 9) ag (by kernel_rfl)) (by kernel_rfl)) (by kernel_rfl)) (by kernel_rfl)))) ag (by kernel_rfl)) (by kernel_rfl)))) (by kernel_rfl) (by first | exact .inl rfl | exact .inr rfl)) (ak (bT (bQ (aU (j9 T) T.x__law_under hr (@ae _ _ _ _ _ _ (af 10) (@ae _ _ _ _ _ _ (af 7) ag (by kernel_rfl)) (by kernel_rfl)))) (ak (aD fN)) aQ)))) (@ai _ _ _ _ _ (@av _ _ _ 11 _ _ _ aF.nd rfl (by walk_at "o") (@ar _ _ _ (aU (lq T) T.x__law_ties hr (@ae _ _ _ _ _ _ (af 0) (@ae _ _ _ _ _ _ (af 5) (@ae _ _ _ _ _ _ (af 6) ag (by kernel_rfl)) (by kernel_rfl)) (by kernel_rfl)))) (by kernel_rfl) (by first | exact .inl rfl | exact .inr rfl)) (ak (aD (dh (eH hr.units) (kf (sc:=(aq cv)) (N:=gy) (Nt:=[ "_law_tie" ]) (Nf:=[ "_law_ties_here" ]) (fi:=[11]) rfl rfl rfl (iJ (aU (lq T) T.x__law_ties hr (@ae _ _ _ _ _ _ (af 0) (@ae _ _ _ _ _ _ (af 3) (@ae _ _ _ _ _ _ (af 4) ag (by kernel_rfl)) (by kernel_rfl)) (by kernel_rfl)))) rfl (by decide +kernel) (by decide +kernel) (by decide +kernel) (by decide) rfl (by decide +kernel) (by decide) (fun _ _ _ _=>(ke (by decide) (show (([ "_law_tie" ]:List Str)++([ "_law_ties_here" ]:List Str)).Nodup by decide +kernel) rfl (Or.inl rfl))) (fun _ _ _ _=>(Cc (pbc Cd (af 0) (af 1) rfl))) (fun _ _ _ _=>(af 0))) (@aY _ _ _ _ _ ag) (aO _)))))))))))
  kK
theorem bS:aC tF ["_law_ring_here","_law_sending","_law_slides"] (aq iY):=⟨rfl,rfl,rfl,by decide +kernel,rfl,by decide +kernel,by decide +kernel⟩
set_option maxHeartbeats 0 in
theorem rF (T:Tx K mg ad fd):FnOk P w K mg base CX0 8 (ad 36) (fd 36) ["_law_ring_here","_law_sending","_law_slides"] (spF K 3 d7) :=
 bu (k:=7) T.x__law_told.f bS jh (fun cdv A outer s H E hr=>(ai (av (i:=3) bS.nd rfl (by walk_at "o") jo)
  (ai (av (i:=4) bS.nd rfl (by walk_at "o") jo)
  (ai (Ah (i:=5) rfl rfl T.h_LoadError rfl bS.nd rfl rfl (by walk_at "o") (fun _ _ xt=>(Ag (CM (i:=3) bS.nd rfl (by walk_at "o") (EU (kP T) T.x_slid_by hr (ae (af 0) (ae (af 1) (ae (af 2) ag))))))) (fun _=>(ai (bT (PBw.pb (B7 (bQ (ES T.h_NoSlide rfl T.z_isinstance rfl (af 5))) (zO (bQ (dG m8 rfl T.z_isinstance rfl T.z_ValueError (by decide +kernel) (af 5)))))) (ak (av (i:=4) bS.nd rfl (by walk_at "o") (ET (af 5)))) aQ)
  (ak (bT (PBw.pb (dE (bQ (CO (jD T.h_NoChange rfl (jD T.h_NoNumber rfl (jD T.h_NoRing rfl (jD T.h_NoTree rfl (jD T.h_TooMany rfl CN))))) rfl T.z_isinstance (af 5))) (c7 (bQ (dG lM rfl T.z_isinstance rfl T.z_bool (by decide +kernel) (af 4)))))) (ak (av (i:=4) bS.nd rfl (by walk_at "o") jo)) aQ)))))
  (ak (aD (CB (ae (eW 3) (ae (eW 4) ag)))))))))
  ph
theorem rG:aC tG ["_law_one","_law_other"] (aq iZ):=⟨rfl,rfl,rfl,by decide +kernel,rfl,by decide +kernel,by decide +kernel⟩
set_option maxHeartbeats 0 in
theorem lu (T:Tx K mg ad fd):FnOk P w K mg base CX0 2 (ad 37) (fd 37) ["_law_one","_law_other"] (spF K 2 cZ) :=
 bu (k:=1) T.x__law_plus.f rG ji (fun cdv A outer s H E hr=>(ak (aD (aU (cL T) T.x__law_low hr (ae (ar (ao a6 (ao aX (au (af 0) ah (fun _ _=>rfl)) (au (af 1) ah (fun _ _=>rfl))) (ao aX (au (af 1) ah (fun _ _=>rfl)) (au (af 0) ah (fun _ _=>rfl))))) (ae (ar (ao aX (au (af 0) ah (fun _ _=>rfl)) (au (af 1) ah (fun _ _=>rfl)))) ag))))))
  pj
theorem aG:aC wc ["_law_state","_law_slide","_law_many"] (aq kF):=⟨rfl,rfl,rfl,by decide +kernel,rfl,by decide +kernel,by decide +kernel⟩
set_option maxHeartbeats 0 in
theorem t6 (T:Tx K mg ad fd):FnOk P w K mg base CX0 3 (ad 38) (fd 38) ["_law_state","_law_slide","_law_many"] (spF K 3 jj) :=
 bu (k:=2) T.x__law_odd.f aG kM (fun cdv A outer s H E hr=>by exact (@ai _ _ _ _ _ (mi (hW rfl (aE (i:=3) aG.nd rfl (by walk_at "o") (aE (i:=4) aG.nd rfl (by walk_at "o") (aE (i:=5) aG.nd rfl (by walk_at "o") (aE (i:=6) aG.nd rfl (by walk_at "o") (aE (i:=7) aG.nd rfl (by walk_at "o") ei)))))) (af 1)) (@ai _ _ _ _ _ (@av _ _ _ 8 _ _ _ aG.nd rfl (by walk_at "o") (CT (.str cT cT rfl (.str cT cT rfl .nil)) (by simp) (by decide) (by decide +kernel)) (by kernel_rfl) (by first | exact .inl rfl | exact .inr rfl)) (@ai _ _ _ _ _ (@av _ _ _ 9 _ _ _ aG.nd rfl (by walk_at "o") (@aY _ _ _ _ _ (@ae _ _ _ _ _ _ (@aJ _ _ _ _ _ _ (@ae _ _ _ _ _ _ (af 5) (@ae _ _ _ _ _ _ (af 4) (@ae _ _ _ _ _ _ (af 5) (@ae _ _ _ _ _ _ (af 6) (@ae _ _ _ _ _ _ (af 7) ag (by kernel_rfl)) (by kernel_rfl)) (by kernel_rfl)) (by kernel_rfl)) (by kernel_rfl))) (@ae _ _ _ _ _ _ (@aJ _ _ _ _ _ _ (@ae _ _ _ _ _ _ (af 3) (@ae _ _ _ _ _ _ (xY 8 (af 4) (fun _ _=>rfl)) (@ae _ _ _ _ _ _ (af 5) (@ae _ _ _ _ _ _ (af 6) (@ae _ _ _ _ _ _ (af 7) ag (by kernel_rfl)) (by kernel_rfl)) (by kernel_rfl)) (by kernel_rfl)) (by kernel_rfl))) (@ae _ _ _ _ _ _ (@aJ _ _ _ _ _ _ (@ae _ _ _ _ _ _ (af 3) (@ae _ _ _ _ _ _ (af 4) (@ae _ _ _ _ _ _ (af 5) (@ae _ _ _ _ _ _ (xY 8 (af 6) (fun _ _=>rfl)) (@ae _ _ _ _ _ _ (af 7) ag (by kernel_rfl)) (by kernel_rfl)) (by kernel_rfl)) (by kernel_rfl)) (by kernel_rfl))) ag (by kernel_rfl)) (by kernel_rfl)) (by kernel_rfl))) (by kernel_rfl) (by first | exact .inl rfl | exact .inr rfl)) (@ai _ _ _ _ _ (@av _ _ _ 10 _ _ _ aG.nd rfl (by walk_at "o") (@ar _ _ _ (aU (lu T) T.x__law_plus hr (@ae _ _ _ _ _ _ (af 7) (@ae _ _ _ _ _ _ (@aJ _ _ _ _ _ _ (@ae _ _ _ _ _ _ ah (@ae _ _ _ _ _ _ ah ag (by kernel_rfl)) (by kernel_rfl))) ag (by kernel_rfl)) (by kernel_rfl)))) (by kernel_rfl) (by first | exact .inl rfl | exact .inr rfl)) (@ai _ _ _ _ _ (@av _ _ _ 11 _ _ _ aG.nd rfl (by walk_at "o") (@aJ _ _ _ _ _ _ (@ae _ _ _ _ _ _ (@ao _ _ _ _ _ _ _ _ dF ah (au (af 7) ah (fun _ _=>rfl))) (@ae _ _ _ _ _ _ (au (af 7) ah (fun _ _=>rfl)) ag (by kernel_rfl)) (by kernel_rfl))) (by kernel_rfl) (by first | exact .inl rfl | exact .inr rfl)) (@ai _ _ _ _ _ (@av _ _ _ 9 _ _ _ aG.nd rfl (by walk_at "o") (@ao _ _ _ _ _ _ _ _ a6 (af 9) (@aY _ _ _ _ _ (@ae _ _ _ _ _ _ (@aJ _ _ _ _ _ _ (@ae _ _ _ _ _ _ (af 3) (@ae _ _ _ _ _ _ (af 4) (@ae _ _ _ _ _ _ (af 5) (@ae _ _ _ _ _ _ (af 6) (@ae _ _ _ _ _ _ (@aJ _ _ _ _ _ _ (@ae _ _ _ _ _ _ ah (@ae _ _ _ _ _ _ ah ag (by kernel_rfl)) (by kernel_rfl))) ag (by kernel_rfl)) (by kernel_rfl)) (by kernel_rfl)) (by kernel_rfl)) (by kernel_rfl))) (@ae _ _ _ _ _ _ (@aJ _ _ _ _ _ _ (@ae _ _ _ _ _ _ (af 3) (@ae _ _ _ _ _ _ (af 4) (@ae _ _ _ _ _ _ (af 5) (@ae _ _ _ _ _ _ (af 6) (@ae _ _ _ _ _ _ (af 10) ag (by kernel_rfl)) (by kernel_rfl)) (by kernel_rfl)) (by kernel_rfl)) (by kernel_rfl))) (@ae _ _ _ _ _ _ (@ar _ _ _ (b6 kb rfl T.z_list (by decide +kernel) (@ae _ _ _ _ _ _ (af 1) ag (by kernel_rfl)))) (@ae _ _ _ _ _ _ (@ar _ _ _ (jA (af 1) trivial ah)) ag (by kernel_rfl)) (by kernel_rfl)) (by kernel_rfl)) (by kernel_rfl)))) (by kernel_rfl) (by first | exact .inl rfl | exact .inr rfl)) (@ai _ _ _ _ _ (@av _ _ _ 9 _ _ _ aG.nd rfl (by walk_at "o") (@ao _ _ _ _ _ _ _ _ a6 (af 9) (@aY _ _ _ _ _ (@ae _ _ _ _ _ _ (@aJ _ _ _ _ _ _ (@ae _ _ _ _ _ _ fN (@ae _ _ _ _ _ _ (af 4) (@ae _ _ _ _ _ _ (af 5) (@ae _ _ _ _ _ _ (af 6) (@ae _ _ _ _ _ _ (af 7) ag (by kernel_rfl)) (by kernel_rfl)) (by kernel_rfl)) (by kernel_rfl)) (by kernel_rfl))) (@ae _ _ _ _ _ _ (@aJ _ _ _ _ _ _ (@ae _ _ _ _ _ _ (af 3) (@ae _ _ _ _ _ _ (af 4) (@ae _ _ _ _ _ _ (ue ah) (@ae _ _ _ _ _ _ (af 6) (@ae _ _ _ _ _ _ (af 7) ag (by kernel_rfl)) (by kernel_rfl)) (by kernel_rfl)) (by kernel_rfl)) (by kernel_rfl))) ag (by kernel_rfl)) (by kernel_rfl)))) (by kernel_rfl) (by first | exact .inl rfl | exact .inr rfl)) (@ai _ _ _ _ _ (@av _ _ _ 9 _ _ _ aG.nd rfl (by walk_at "o") (@ao _ _ _ _ _ _ _ _ a6 (af 9) (@aY _ _ _ _ _ (@ae _ _ _ _ _ _ (@aJ _ _ _ _ _ _ (@ae _ _ _ _ _ _ (af 3) (@ae _ _ _ _ _ _ cT (@ae _ _ _ _ _ _ (af 5) (@ae _ _ _ _ _ _ (af 6) (@ae _ _ _ _ _ _ (af 7) ag (by kernel_rfl)) (by kernel_rfl)) (by kernel_rfl)) (by kernel_rfl)) (by kernel_rfl))) (@ae _ _ _ _ _ _ jo ag (by kernel_rfl)) (by kernel_rfl)))) (by kernel_rfl) (by first | exact .inl rfl | exact .inr rfl)) (@ai _ _ _ _ _ (@av _ _ _ 9 _ _ _ aG.nd rfl (by walk_at "o") (@ao _ _ _ _ _ _ _ _ a6 (af 9) (@aY _ _ _ _ _ (@ae _ _ _ _ _ _ (@aJ _ _ _ _ _ _ (@ae _ _ _ _ _ _ (af 3) (@ae _ _ _ _ _ _ (af 4) (@ae _ _ _ _ _ _ (af 5) (@ae _ _ _ _ _ _ jo (@ae _ _ _ _ _ _ (af 7) ag (by kernel_rfl)) (by kernel_rfl)) (by kernel_rfl)) (by kernel_rfl)) (by kernel_rfl))) (@ae _ _ _ _ _ _ (@aJ _ _ _ _ _ _ (@ae _ _ _ _ _ _ (af 3) (@ae _ _ _ _ _ _ (af 4) (@ae _ _ _ _ _ _ ah (@ae _ _ _ _ _ _ (af 6) (@ae _ _ _ _ _ _ (af 7) ag (by kernel_rfl)) (by kernel_rfl)) (by kernel_rfl)) (by kernel_rfl)) (by kernel_rfl))) (@ae _ _ _ _ _ _ (@aJ _ _ _ _ _ _ (@ae _ _ _ _ _ _ (af 3) (@ae _ _ _ _ _ _ (af 4) (@ae _ _ _ _ _ _ (af 5) (@ae _ _ _ _ _ _ (af 6) (@ae _ _ _ _ _ _ ah ag (by kernel_rfl)) (by kernel_rfl)) (by kernel_rfl)) (by kernel_rfl)) (by kernel_rfl))) ag (by kernel_rfl)) (by kernel_rfl)) (by kernel_rfl)))) (by kernel_rfl) (by first | exact .inl rfl | exact .inr rfl)) (@ai _ _ _ _ _ (@av _ _ _ 9 _ _ _ aG.nd rfl (by walk_at "o") (@ao _ _ _ _ _ _ _ _ a6 (af 9) (@aY _ _ _ _ _ (@ae _ _ _ _ _ _ (@aJ _ _ _ _ _ _ (@ae _ _ _ _ _ _ (af 3) (@ae _ _ _ _ _ _ (af 4) (@ae _ _ _ _ _ _ (af 5) (@ae _ _ _ _ _ _ (af 6) (@ae _ _ _ _ _ _ (@aJ _ _ _ _ _ _ (@ae _ _ _ _ _ _ ah (@ae _ _ _ _ _ _ ah ag (by kernel_rfl)) (by kernel_rfl))) ag (by kernel_rfl)) (by kernel_rfl)) (by kernel_rfl)) (by kernel_rfl)) (by kernel_rfl))) (@ae _ _ _ _ _ _ (@aJ _ _ _ _ _ _ (@ae _ _ _ _ _ _ (af 3) (@ae _ _ _ _ _ _ (af 4) (@ae _ _ _ _ _ _ (af 5) (@ae _ _ _ _ _ _ (af 6) (@ae _ _ _ _ _ _ (@aJ _ _ _ _ _ _ (@ae _ _ _ _ _ _ fN (@ae _ _ _ _ _ _ ah ag (by kernel_rfl)) (by kernel_rfl))) ag (by kernel_rfl)) (by kernel_rfl)) (by kernel_rfl)) (by kernel_rfl)) (by kernel_rfl))) ag (by kernel_rfl)) (by kernel_rfl)))) (by kernel_rfl) (by first | exact .inl rfl | exact .inr rfl)) (@ai _ _ _ _ _ (@av _ _ _ 9 _ _ _ aG.nd rfl (by walk_at "o") (@ao _ _ _ _ _ _ _ _ a6 (af 9) (@aY _ _ _ _ _ (@ae _ _ _ _ _ _ (@aJ _ _ _ _ _ _ (@ae _ _ _ _ _ _ (af 3) (@ae _ _ _ _ _ _ (af 4) (@ae _ _ _ _ _ _ (af 5) (@ae _ _ _ _ _ _ (af 6) (@ae _ _ _ _ _ _ (af 11) ag (by kernel_rfl)) (by kernel_rfl)) (by kernel_rfl)) (by kernel_rfl)) (by kernel_rfl))) (@ae _ _ _ _ _ _ (@aJ _ _ _ _ _ _ (@ae _ _ _ _ _ _ (af 3) (@ae _ _ _ _ _ _ (@ar _ _ _ (@aY _ _ _ _ _ (@ae _ _ _ _ _ _ (af 4) ag (by kernel_rfl)))) (@ae _ _ _ _ _ _ (af 5) (@ae _ _ _ _ _ _ (af 6) (@ae _ _ _ _ _ _ (af 7) ag (by kernel_rfl)) (by kernel_rfl)) (by kernel_rfl)) (by kernel_rfl)) (by kernel_rfl))) ag (by kernel_rfl)) (by kernel_rfl)))) (by kernel_rfl) (by first | exact .inl rfl | exact .inr rfl)) (@ai _ _ _ _ _ (@av _ _ _ 9 _ _ _ aG.nd rfl (by walk_at "o") (@ao _ _ _ _ _ _ _ _ a6 (af 9) (@aY _ _ _ _ _ (@ae _ _ _ _ _ _ (@aJ _ _ _ _ _ _ (@ae _ _ _ _ _ _ (ue ah) (@ae _ _ _ _ _ _ (af 4) (@ae _ _ _ _ _ _ (af 5) (@ae _ _ _ _ _ _ (af 6) (@ae _ _ _ _ _ _ (af 7) ag (by kernel_rfl)) (by kernel_rfl)) (by kernel_rfl)) (by kernel_rfl)) (by kernel_rfl))) (@ae _ _ _ _ _ _ (@aJ _ _ _ _ _ _ (@ae _ _ _ _ _ _ (af 2) (@ae _ _ _ _ _ _ (af 4) (@ae _ _ _ _ _ _ (af 5) (@ae _ _ _ _ _ _ (af 6) (@ae _ _ _ _ _ _ (af 7) ag (by kernel_rfl)) (by kernel_rfl)) (by kernel_rfl)) (by kernel_rfl)) (by kernel_rfl))) ag (by kernel_rfl)) (by kernel_rfl)))) (by kernel_rfl) (by first | exact .inl rfl | exact .inr rfl)) (@ai _ _ _ _ _ (@av _ _ _ 9 _ _ _ aG.nd rfl (by walk_at "o") (@ao _ _ _ _ _ _ _ _ a6 (af 9) (@aY _ _ _ _ _ (@ae _ _ _ _ _ _ (@aJ _ _ _ _ _ _ (@ae _ _ _ _ _ _ (af 3) (@ae _ _ _ _ _ _ (af 4) (@ae _ _ _ _ _ _ (af 2) (@ae _ _ _ _ _ _ (af 6) (@ae _ _ _ _ _ _ (af 7) ag (by kernel_rfl)) (by kernel_rfl)) (by kernel_rfl)) (by kernel_rfl)) (by kernel_rfl))) (@ae _ _ _ _ _ _ (@aJ _ _ _ _ _ _ (@ae _ _ _ _ _ _ (af 3) (@ae _ _ _ _ _ _ (af 4) (@ae _ _ _ _ _ _ fN (@ae _ _ _ _ _ _ (af 6) (@ae _ _ _ _ _ _ (af 7) ag (by kernel_rfl)) (by kernel_rfl)) (by kernel_rfl)) (by kernel_rfl)) (by kernel_rfl))) ag (by kernel_rfl)) (by kernel_rfl)))) (by kernel_rfl) (by first | exact .inl rfl | exact .inr rfl)) (@ai _ _ _ _ _ (@av _ _ _ 9 _ _ _ aG.nd rfl (by walk_at "o") (@ao _ _ _ _ _ _ _ _ a6 (af 9) (@aY _ _ _ _ _ (@ae _ _ _ _ _ _ (@aJ _ _ _ _ _ _ (@ae _ _ _ _ _ _ (af 3) (@ae _ _ _ _ _ _ (af 4) (@ae _ _ _ _ _ _ (af 5) (@ae _ _ _ _ _ _ cT (@ae _ _ _ _ _ _ (af 7) ag (by kernel_rfl)) (by kernel_rfl)) (by kernel_rfl)) (by kernel_rfl)) (by kernel_rfl))) (@ae _ _ _ _ _ _ (@aJ _ _ _ _ _ _ (@ae _ _ _ _ _ _ (af 3) (@ae _ _ _ _ _ _ (af 4) (@ae _ _ _ _ _ _ (af 5) (@ae _ _ _ _ _ _ cT (@ae _ _ _ _ _ _ (af 7) ag (by kernel_rfl)) (by kernel_rfl)) (by kernel_rfl)) (by kernel_rfl)) (by kernel_rfl))) ag (by kernel_rfl)) (by kernel_rfl)))) (by kernel_rfl) (by first | exact .inl rfl | exact .inr rfl)) (@ai _ _ _ _ _ (fV (dH 9 (@aJ _ _ _ _ _ _ (@ae _ _ _ _ _ _ (af 3) (@ae _ _ _ _ _ _ (af 4) (@ae _ _ _ _ _ _ (af 5) (@ae _ _ _ _ _ _ (af 6) (@ae _ _ _ _ _ _ (@aJ _ _ _ _ _ _ (@ae _ _ _ _ _ _ (au (af 7) ah (fun _ _=>rfl)) (@ae _ _ _ _ _ _ fN ag (by kernel_rfl)) (by kernel_rfl))) ag (by kernel_rfl)) (by kernel_rfl)) (by kernel_rfl)) (by kernel_rfl)) (by kernel_rfl))))) (ak (aD (dY (fJ 9 (bc (aB T) T.x__law_take hr 0 0 (aR 0 (@ae _ _ _ _ _ _ ah ag (by kernel_rfl)))) (fun _ _=>rfl)) (au (af 9) (bc (aB T) T.x__law_take hr 0 0 (aR 0 (@ae _ _ _ _ _ _ ah ag (by kernel_rfl)))) (fun _ _=>rfl)))))))))))))))))))))
  qY
theorem bo:aC tH ["_law_sending","_law_slide"] (aq i4):=⟨rfl,rfl,rfl,by decide +kernel,rfl,by decide +kernel,by decide +kernel⟩
set_option maxHeartbeats 0 in
theorem rH (T:Tx K mg ad fd):FnOk P w K mg base CX0 3 (ad 39) (fd 39) ["_law_sending","_law_slide"] (spF K 2 gM) :=
 bu (k:=2) T.x__law_slid.f bo jk (fun cdv A outer s H E hr=>(ai (mi (hW rfl (aE (i:=2) bo.nd rfl (by walk_at "o") (aE (i:=3) bo.nd rfl (by walk_at "o") (aE (i:=4) bo.nd rfl (by walk_at "o") (aE (i:=5) bo.nd rfl (by walk_at "o") (aE (i:=6) bo.nd rfl (by walk_at "o") ei)))))) (af 1))
  (ai (av (i:=7) bo.nd rfl (by walk_at "o") (b6 kb rfl T.z_list (by decide +kernel) (ae (af 0) ag)))
  (ai (ju PassesOwn.never rfl (iJ (aY (ae (aJ (ae (af 2) (ae (af 3) ag))) (ae (aJ (ae (af 4) (ae (af 5) ag))) ag)))) (hW rfl (aE (i:=8) bo.nd rfl (by walk_at "o") (aE (i:=9) bo.nd rfl (by walk_at "o") ei))) (ak (bT (pbc (eH hr.units) (af 9) cT (aO _)) (ak (iL 7 (af 8) (aU (lu T) T.x__law_plus hr (ae (dY (fJ 7 (af 8) (fun _ _=>rfl)) (au (af 7) (af 8) (fun _ _=>rfl))) (ae (af 6) ag))))) (ak (iL 7 (af 8) (aU (cy T) T.x__law_minus hr (ae (dY (fJ 7 (af 8) (fun _ _=>rfl)) (au (af 7) (af 8) (fun _ _=>rfl))) (ae (af 6) ag))))))))
  (ak (aD (eW 7)))))))
  pw
theorem c5:aC GG ["_law_script"] (aq A5):=⟨rfl,rfl,rfl,by decide +kernel,rfl,by decide +kernel,by decide +kernel⟩
set_option maxHeartbeats 0 in
theorem FK (T:Tx K mg ad fd):FnOk P w K mg base CX0 9 (ad 40) (fd 40) ["_law_script"] (spF K 1 fs_law) :=
 bu (k:=8) T.x_law.f c5 Dz (fun cdv A outer s H E hr=>by exact (@ai _ _ _ _ _ (@av _ _ _ 1 _ _ _ c5.nd rfl (by walk_at "o") (@ar _ _ _ (b6 uh rfl T.z_int (by decide +kernel) (@ae _ _ _ _ _ _ (fH (dh zS (aK cU rfl T.z_len (by decide +kernel) (@ae _ _ _ _ _ _ (af 0) ag (by kernel_rfl))) ah (aO _)) (kW (dh (eH hr.units) (@ao _ _ _ _ _ _ _ _ bV (au (af 0) ah (fun _ _=>rfl)) ah) ah (aO _)))) ag (by kernel_rfl)))) (by kernel_rfl) (by first | exact .inl rfl | exact .inr rfl)) (@ai _ _ _ _ _ (@av _ _ _ 2 _ _ _ c5.nd rfl (by walk_at "o") (@ar _ _ _ (aU (rD T) T.x__law_ring hr (@ae _ _ _ _ _ _ (af 0) (@ae _ _ _ _ _ _ ah (@ae _ _ _ _ _ _ (au (@aY _ _ _ _ _ (@ae _ _ _ _ _ _ ah (@ae _ _ _ _ _ _ ah ag (by kernel_rfl)) (by kernel_rfl))) (af 1) (fun _ _=>rfl)) (@ae _ _ _ _ _ _ (au (@aY _ _ _ _ _ (@ae _ _ _ _ _ _ ah (@ae _ _ _ _ _ _ ah ag (by kernel_rfl)) (by kernel_rfl))) (af 1) (fun _ _=>rfl)) ag (by kernel_rfl)) (by kernel_rfl)) (by kernel_rfl)) (by kernel_rfl)))) (by kernel_rfl) (by first | exact .inl rfl | exact .inr rfl)) (@ai _ _ _ _ _ (@av _ _ _ 3 _ _ _ c5.nd rfl (by walk_at "o") (@ar _ _ _ (aU (pG T) T.x__law_parts hr (@ae _ _ _ _ _ _ (aU (cw T) T.x__law_begun hr (@ae _ _ _ _ _ _ (af 0) (@ae _ _ _ _ _ _ ah ag (by kernel_rfl)) (by kernel_rfl))) (@ae _ _ _ _ _ _ (af 2) ag (by kernel_rfl)) (by kernel_rfl)))) (by kernel_rfl) (by first | exact .inl rfl | exact .inr rfl)) (@ai _ _ _ _ _ (@av _ _ _ 4 _ _ _ c5.nd rfl (by walk_at "o") (@ar _ _ _ (aK (jE hr) rfl T.z_repr (by decide +kernel) (@ae _ _ _ _ _ _ (@aJ _ _ _ _ _ _ (@ae _ _ _ _ _ _ (af 2) (@ae _ _ _ _ _ _ (af 3) ag (by kernel_rfl)) (by kernel_rfl))) ag (by kernel_rfl)))) (by kernel_rfl) (by first | exact .inl rfl | exact .inr rfl)) (@ai _ _ _ _ _ (@av _ _ _ 5 _ _ _ c5.nd rfl (by walk_at "o") (@ar _ _ _ (b6 kb rfl T.z_list (by decide +kernel) (@ae _ _ _ _ _ _ (af 3) ag (by kernel_rfl)))) (by kernel_rfl) (by first | exact .inl rfl | exact .inr rfl)) (@ai _ _ _ _ _ (@av _ _ _ 6 _ _ _ c5.nd rfl (by walk_at "o") (@aY _ _ _ _ _ ag) (by kernel_rfl) (by first | exact .inl rfl | exact .inr rfl)) (@ai _ _ _ _ _ (ju PassesOwn.never rfl (zR rfl T.z_range ah (aK (Bj rfl) rfl T.z_max (by decide +kernel) (@ae _ _ _ _ _ _ ah (@ae _ _ _ _ _ _ (@ar _ _ _ (aK (Bk rfl) rfl T.z_min (by decide +kernel) (@ae _ _ _ _ _ _ (@ar _ _ _ (aK cU rfl T.z_len (by decide +kernel) (@ae _ _ _ _ _ _ (af 0) ag (by kernel_rfl)))) (@ae _ _ _ _ _ _ ah ag (by kernel_rfl)) (by kernel_rfl)))) ag (by kernel_rfl)) (by kernel_rfl)))) (n4 (i:=7) c5.nd rfl (by walk_at "o")) (@ai _ _ _ _ _ (@av _ _ _ 8 _ _ _ c5.nd rfl (by walk_at "o") (aU (cw T) T.x__law_begun hr (@ae _ _ _ _ _ _ (af 0) (@ae _ _ _ _ _ _ (af 7) ag (by kernel_rfl)) (by kernel_rfl))) (by kernel_rfl) (by first | exact .inl rfl | exact .inr rfl)) (ak (bT (pbc zS (aK cU rfl T.z_len (by decide +kernel) (@ae _ _ _ _ _ _ (au (af 2) ah (fun _ _=>rfl)) ag (by kernel_rfl))) ah (aO _)) (@ai _ _ _ _ _ (@av _ _ _ 9 _ _ _ c5.nd rfl (by walk_at "o") (@ar _ _ _ (bc (pK T) T.x__law_drawn hr 0 8 (aR 8 (@ae _ _ _ _ _ _ (af 2) (@ae _ _ _ _ _ _ (af 5) ag (by kernel_rfl)) (by kernel_rfl))))) (by kernel_rfl) (by first | exact .inl rfl | exact .inr rfl)) (@ai _ _ _ _ _ (bT (pbc (eH hr.units) (bc (aB T) T.x__law_take hr 0 8 (aR 8 (@ae _ _ _ _ _ _ ah ag (by kernel_rfl)))) ah (aO _)) (ak (@av _ _ _ 9 _ _ _ c5.nd rfl (by walk_at "o") (@ar _ _ _ (bc (t6 T) T.x__law_odd hr 0 8 (aR 8 (@ae _ _ _ _ _ _ (af 9) (@ae _ _ _ _ _ _ (@ar _ _ _ (aK cU rfl T.z_len (by decide +kernel) (@ae _ _ _ _ _ _ (au (af 2) ah (fun _ _=>rfl)) ag (by kernel_rfl)))) ag (by kernel_rfl)) (by kernel_rfl))))) (by kernel_rfl) (by first | exact .inl rfl | exact .inr rfl))) aQ) (@ai _ _ _ _ _ (@av _ _ _ 10 _ _ _ c5.nd rfl (by walk_at "o") (@ar _ _ _ (@aY _ _ _ _ _ (@ae _ _ _ _ _ _ jo (@ae _ _ _ _ _ _ (@ar _ _ _ (dY (xn 6 rfl T.z_len) (aK cU rfl T.z_len PySem.boot_len (@ae _ _ _ _ _ _ (af 6) ag (by kernel_rfl))))) ag (by kernel_rfl)) (by kernel_rfl)))) (by kernel_rfl) (by first | exact .inl rfl | exact .inr rfl)) (@ai _ _ _ _ _ (bT (bQ (aU (lJ T) T.x__law_is_slide hr (@ae _ _ _ _ _ _ (af 2) (@ae _ _ _ _ _ _ (af 5) (@ae _ _ _ _ _ _ (af 9) ag (by kernel_rfl)) (by kernel_rfl)) (by kernel_rfl)))) (@ai _ _ _ _ _ (@av _ _ _ 5 _ _ _ c5.nd rfl (by walk_at "o") (@ar _ _ _ (aU (rH T) T.x__law_slid hr (@ae _ _ _ _ _ _ (af 5) (@ae _ _ _ _ _ _ (af 9) ag (by kernel_rfl)) (by kernel_rfl)))) (by kernel_rfl) (by first | exact .inl rfl | exact .inr rfl)) (ak (@av _ _ _ 10 _ _ _ c5.nd rfl (by walk_at "o") (@ar _ _ _ (@aY _ _ _ _ _ (@ae _ _ _ _ _ _ (@ar _ _ _ (b6 kb rfl T.z_list (by decide +kernel) (@ae _ _ _ _ _ _ (af 5) ag (by kernel_rfl)))) (@ae _ _ _ _ _ _ jo ag (by kernel_rfl)) (by kernel_rfl)))) (by kernel_rfl) (by first | exact .inl rfl | exact .inr rfl)))) aQ) (@ai _ _ _ _ _ (@av _ _ _ 11 _ _ _ c5.nd rfl (by walk_at "o") (@ar _ _ _ (ya 6 (@aY _ _ _ _ _ (@ae _ _ _ _ _ _ (af 9) ag (by kernel_rfl))))) (by kernel_rfl) (by first | exact .inl rfl | exact .inr rfl)) (@ai _ _ _ _ _ (@av _ _ _ 12 _ _ _ c5.nd rfl (by walk_at "o") (aU (rF T) T.x__law_told hr (@ae _ _ _ _ _ _ (af 2) (@ae _ _ _ _ _ _ (af 3) (@ae _ _ _ _ _ _ (af 11) ag (by kernel_rfl)) (by kernel_rfl)) (by kernel_rfl))) (by kernel_rfl) (by first | exact .inl rfl | exact .inr rfl)) (@ai _ _ _ _ _ (bT (PBw.pb (dE (Cv 12 (pbc (p6 hr.units) (af 12) (af 10) (aO _))) (dE (pbc xK (aK (jE hr) rfl T.z_repr (by decide +kernel) (@ae _ _ _ _ _ _ (af 11) ag (by kernel_rfl))) (aK (jE hr) rfl T.z_repr (by decide +kernel) (@ae _ _ _ _ _ _ (@ar _ _ _ (ya 6 (@aY _ _ _ _ _ (@ae _ _ _ _ _ _ (af 9) ag (by kernel_rfl))))) ag (by kernel_rfl))) (aO _)) (c7 (pbc xK (aK (jE hr) rfl T.z_repr (by decide +kernel) (@ae _ _ _ _ _ _ (@aJ _ _ _ _ _ _ (@ae _ _ _ _ _ _ (af 2) (@ae _ _ _ _ _ _ (af 3) ag (by kernel_rfl)) (by kernel_rfl))) ag (by kernel_rfl))) (af 4) (aO _)))))) (ak (aD fN)) aQ) (ak (bT (pbc Cg (au (af 10) ah (fun _ _=>rfl)) jo (aO _)) (@ai _ _ _ _ _ (fV (vN 12 ah (fun _ _=>rfl))) (ak (fV (dH 6 (af 9))))) aQ))))))))) aQ)))) (@ai _ _ _ _ _ (@av _ _ _ 12 _ _ _ c5.nd rfl (by walk_at "o") (Bq (kP T) T.x_slid_by hr Bp (@ae _ _ _ _ _ _ (af 2) (@ae _ _ _ _ _ _ (af 3) (@ae _ _ _ _ _ _ (@ar _ _ _ (@aY _ _ _ _ _ ag)) ag (by kernel_rfl)) (by kernel_rfl)) (by kernel_rfl))) (by kernel_rfl) (by first | exact .inl rfl | exact .inr rfl)) (@ai _ _ _ _ _ (fV (dH 12 (@aJ _ _ _ _ _ _ (@ae _ _ _ _ _ _ ah (@ae _ _ _ _ _ _ ah ag (by kernel_rfl)) (by kernel_rfl))))) (@ai _ _ _ _ _ (bT (PBw.pb (dE (pbc (p6 hr.units) (jA (af 12) trivial (ue ah)) (af 3) (aO _)) (c7 (pbc xK (aK (jE hr) rfl T.z_repr (by decide +kernel) (@ae _ _ _ _ _ _ (@aJ _ _ _ _ _ _ (@ae _ _ _ _ _ _ (af 2) (@ae _ _ _ _ _ _ (af 3) ag (by kernel_rfl)) (by kernel_rfl))) ag (by kernel_rfl))) (af 4) (aO _))))) (ak (aD fN)) aQ) (ak (aD (dh (eH hr.units) (Ct 6 (Bq (kP T) T.x_slid_by hr Bp (@ae _ _ _ _ _ _ (af 2) (@ae _ _ _ _ _ _ (af 3) (@ae _ _ _ _ _ _ (af 6) ag (by kernel_rfl)) (by kernel_rfl)) (by kernel_rfl)))) (af 5) (aO _)))))))))))))))
  DE
end
def adF (i:Nat):Addr:=([21,141,148,155,162,170,177,184,191,198,205,210,264,257,236,231,243,250,224,217,271,278,297,285,292,304,311,318,325,339,367,346,386,353,360,372,400,332,393,379,407]:List Addr).getD i 0
abbrev md0:Value:=(.str "ringloads.divisors" 187)
abbrev md1:Value:=(.str "ringloads.names" 351)
abbrev md2:Value:=(.str "ringloads.ratios" 382)
abbrev md3:Value:=(.str "ringloads.ways" 428)
abbrev md4:Value:=(.str "ringloads.slides" 447)
abbrev md5:Value:=(.str "law_ringloads_k30_slides_done" 521)
def fdF (i:Nat):FuncData:=[fdM "greatest_shared" cD md0 20,fdM "is_whole" kz md1 140,fdM "is_number_below" cF md1 147,fdM "are_two_wholes" de md1 154,fdM "is_ratio" kB md1 161,fdM "lowest" oR md2 169,fdM "plus" yV md2 176,fdM "minus" sW md2 183,fdM "under" sX md2 190,fdM "lesser" oS md2 197,fdM "is_way" oT md3 204,fdM "ties_of" gk md3 209,fdM "part_behind" fh md4 263,fdM "slid_once" iQ md4 256,fdM "share_no_tie" cO md4 235,fdM "has_form_of_slide" cb md4 230,fdM "not_sent" kC md4 242,fdM "most_slid" iS md4 249,fdM "is_slide" kD md4 223,fdM "slid_by" mG md4 216,fdM "_law_begun" gm md5 270,fdM "_law_take" iT md5 277,fdM "_law_names" cX md5 296,fdM "_law_low" kE md5 284,fdM "_law_amount" fj md5 291,fdM "_law_rooms" gp md5 303,fdM "_law_ends" iU md5 310,fdM "_law_ring" iV md5 317,fdM "_law_parts" gq md5 324,fdM "_law_minus" gu md5 338,fdM "_law_gone" iW md5 366,fdM "_law_under" gv md5 345,fdM "_law_drawn" gw md5 385,fdM "_law_ties" iX md5 352,fdM "_law_is_ratio" dN md5 359,fdM "_law_is_slide" cv md5 371,fdM "_law_told" iY md5 399,fdM "_law_plus" iZ md5 331,fdM "_law_odd" kF md5 392,fdM "_law_slid" i4 md5 378,fdM "law" A5 md5 406].getD i (fdM "law" A5 md0 0)
set_option maxHeartbeats 0 in
theorem tx {Pm:Params} {h:Heap} {mg:Str→Option Value} (X:(Hd.Kf Pm).In h) (G:h.Ns mainGlobals mg):Tx (Hd.Kf Pm) mg adF fdF where
 x_greatest_shared:=FX.mk' X G (a:=21) (c:=20) (md:=md0) (by kernel_rfl) (by kernel_rfl) (by kernel_rfl) (by kernel_rfl) fun _ _ _ _ _ _ u l=>match u,l with | [_,_],_=>rfl
 x_is_whole:=FX.mk' X G (a:=141) (c:=140) (md:=md1) (by kernel_rfl) (by kernel_rfl) (by kernel_rfl) (by kernel_rfl) fun _ _ _ _ _ _ u l=>match u,l with | [_],_=>rfl
 x_is_number_below:=FX.mk' X G (a:=148) (c:=147) (md:=md1) (by kernel_rfl) (by kernel_rfl) (by kernel_rfl) (by kernel_rfl) fun _ _ _ _ _ _ u l=>match u,l with | [_,_],_=>rfl
 x_are_two_wholes:=FX.mk' X G (a:=155) (c:=154) (md:=md1) (by kernel_rfl) (by kernel_rfl) (by kernel_rfl) (by kernel_rfl) fun _ _ _ _ _ _ u l=>match u,l with | [_],_=>rfl
 x_is_ratio:=FX.mk' X G (a:=162) (c:=161) (md:=md1) (by kernel_rfl) (by kernel_rfl) (by kernel_rfl) (by kernel_rfl) fun _ _ _ _ _ _ u l=>match u,l with | [_],_=>rfl
 x_lowest:=FX.mk' X G (a:=170) (c:=169) (md:=md2) (by kernel_rfl) (by kernel_rfl) (by kernel_rfl) (by kernel_rfl) fun _ _ _ _ _ _ u l=>match u,l with | [_,_],_=>rfl
 x_plus:=FX.mk' X G (a:=177) (c:=176) (md:=md2) (by kernel_rfl) (by kernel_rfl) (by kernel_rfl) (by kernel_rfl) fun _ _ _ _ _ _ u l=>match u,l with | [_,_],_=>rfl
 x_minus:=FX.mk' X G (a:=184) (c:=183) (md:=md2) (by kernel_rfl) (by kernel_rfl) (by kernel_rfl) (by kernel_rfl) fun _ _ _ _ _ _ u l=>match u,l with | [_,_],_=>rfl
 x_under:=FX.mk' X G (a:=191) (c:=190) (md:=md2) (by kernel_rfl) (by kernel_rfl) (by kernel_rfl) (by kernel_rfl) fun _ _ _ _ _ _ u l=>match u,l with | [_,_],_=>rfl
 x_lesser:=FX.mk' X G (a:=198) (c:=197) (md:=md2) (by kernel_rfl) (by kernel_rfl) (by kernel_rfl) (by kernel_rfl) fun _ _ _ _ _ _ u l=>match u,l with | [_,_],_=>rfl
 x_is_way:=FX.mk' X G (a:=205) (c:=204) (md:=md3) (by kernel_rfl) (by kernel_rfl) (by kernel_rfl) (by kernel_rfl) fun _ _ _ _ _ _ u l=>match u,l with | [_],_=>rfl
 x_ties_of:=FX.mk' X G (a:=210) (c:=209) (md:=md3) (by kernel_rfl) (by kernel_rfl) (by kernel_rfl) (by kernel_rfl) fun _ _ _ _ _ _ u l=>match u,l with | [_,_,_],_=>rfl
 x_part_behind:=FX.mk' X G (a:=264) (c:=263) (md:=md4) (by kernel_rfl) (by kernel_rfl) (by kernel_rfl) (by kernel_rfl) fun _ _ _ _ _ _ u l=>match u,l with | [_,_,_],_=>rfl
 x_slid_once:=FX.mk' X G (a:=257) (c:=256) (md:=md4) (by kernel_rfl) (by kernel_rfl) (by kernel_rfl) (by kernel_rfl) fun _ _ _ _ _ _ u l=>match u,l with | [_,_],_=>rfl
 x_share_no_tie:=FX.mk' X G (a:=236) (c:=235) (md:=md4) (by kernel_rfl) (by kernel_rfl) (by kernel_rfl) (by kernel_rfl) fun _ _ _ _ _ _ u l=>match u,l with | [_,_,_,_,_],_=>rfl
 x_has_form_of_slide:=FX.mk' X G (a:=231) (c:=230) (md:=md4) (by kernel_rfl) (by kernel_rfl) (by kernel_rfl) (by kernel_rfl) fun _ _ _ _ _ _ u l=>match u,l with | [_,_],_=>rfl
 x_not_sent:=FX.mk' X G (a:=243) (c:=242) (md:=md4) (by kernel_rfl) (by kernel_rfl) (by kernel_rfl) (by kernel_rfl) fun _ _ _ _ _ _ u l=>match u,l with | [_,_,_,_],_=>rfl
 x_most_slid:=FX.mk' X G (a:=250) (c:=249) (md:=md4) (by kernel_rfl) (by kernel_rfl) (by kernel_rfl) (by kernel_rfl) fun _ _ _ _ _ _ u l=>match u,l with | [_,_,_],_=>rfl
 x_is_slide:=FX.mk' X G (a:=224) (c:=223) (md:=md4) (by kernel_rfl) (by kernel_rfl) (by kernel_rfl) (by kernel_rfl) fun _ _ _ _ _ _ u l=>match u,l with | [_,_,_],_=>rfl
 x_slid_by:=FX.mk' X G (a:=217) (c:=216) (md:=md4) (by kernel_rfl) (by kernel_rfl) (by kernel_rfl) (by kernel_rfl) fun _ _ _ _ _ _ u l=>match u,l with | [_,_,_],_=>rfl
 x__law_begun:=FX.mk' X G (a:=271) (c:=270) (md:=md5) (by kernel_rfl) (by kernel_rfl) (by kernel_rfl) (by kernel_rfl) fun _ _ _ _ _ _ u l=>match u,l with | [_,_],_=>rfl
 x__law_take:=FX.mk' X G (a:=278) (c:=277) (md:=md5) (by kernel_rfl) (by kernel_rfl) (by kernel_rfl) (by kernel_rfl) fun _ _ _ _ _ _ u l=>match u,l with | [_,_],_=>rfl
 x__law_names:=FX.mk' X G (a:=297) (c:=296) (md:=md5) (by kernel_rfl) (by kernel_rfl) (by kernel_rfl) (by kernel_rfl) fun _ _ _ _ _ _ u l=>match u,l with | [_,_],_=>rfl
 x__law_low:=FX.mk' X G (a:=285) (c:=284) (md:=md5) (by kernel_rfl) (by kernel_rfl) (by kernel_rfl) (by kernel_rfl) fun _ _ _ _ _ _ u l=>match u,l with | [_,_],_=>rfl
 x__law_amount:=FX.mk' X G (a:=292) (c:=291) (md:=md5) (by kernel_rfl) (by kernel_rfl) (by kernel_rfl) (by kernel_rfl) fun _ _ _ _ _ _ u l=>match u,l with | [_,_,_],_=>rfl
 x__law_rooms:=FX.mk' X G (a:=304) (c:=303) (md:=md5) (by kernel_rfl) (by kernel_rfl) (by kernel_rfl) (by kernel_rfl) fun _ _ _ _ _ _ u l=>match u,l with | [_,_,_],_=>rfl
 x__law_ends:=FX.mk' X G (a:=311) (c:=310) (md:=md5) (by kernel_rfl) (by kernel_rfl) (by kernel_rfl) (by kernel_rfl) fun _ _ _ _ _ _ u l=>match u,l with | [_,_,_,_],_=>rfl
 x__law_ring:=FX.mk' X G (a:=318) (c:=317) (md:=md5) (by kernel_rfl) (by kernel_rfl) (by kernel_rfl) (by kernel_rfl) fun _ _ _ _ _ _ u l=>match u,l with | [_,_,_,_],_=>rfl
 x__law_parts:=FX.mk' X G (a:=325) (c:=324) (md:=md5) (by kernel_rfl) (by kernel_rfl) (by kernel_rfl) (by kernel_rfl) fun _ _ _ _ _ _ u l=>match u,l with | [_,_],_=>rfl
 x__law_minus:=FX.mk' X G (a:=339) (c:=338) (md:=md5) (by kernel_rfl) (by kernel_rfl) (by kernel_rfl) (by kernel_rfl) fun _ _ _ _ _ _ u l=>match u,l with | [_,_],_=>rfl
 x__law_gone:=FX.mk' X G (a:=367) (c:=366) (md:=md5) (by kernel_rfl) (by kernel_rfl) (by kernel_rfl) (by kernel_rfl) fun _ _ _ _ _ _ u l=>match u,l with | [_,_,_,_],_=>rfl
 x__law_under:=FX.mk' X G (a:=346) (c:=345) (md:=md5) (by kernel_rfl) (by kernel_rfl) (by kernel_rfl) (by kernel_rfl) fun _ _ _ _ _ _ u l=>match u,l with | [_,_],_=>rfl
 x__law_drawn:=FX.mk' X G (a:=386) (c:=385) (md:=md5) (by kernel_rfl) (by kernel_rfl) (by kernel_rfl) (by kernel_rfl) fun _ _ _ _ _ _ u l=>match u,l with | [_,_,_],_=>rfl
 x__law_ties:=FX.mk' X G (a:=353) (c:=352) (md:=md5) (by kernel_rfl) (by kernel_rfl) (by kernel_rfl) (by kernel_rfl) fun _ _ _ _ _ _ u l=>match u,l with | [_,_,_],_=>rfl
 x__law_is_ratio:=FX.mk' X G (a:=360) (c:=359) (md:=md5) (by kernel_rfl) (by kernel_rfl) (by kernel_rfl) (by kernel_rfl) fun _ _ _ _ _ _ u l=>match u,l with | [_],_=>rfl
 x__law_is_slide:=FX.mk' X G (a:=372) (c:=371) (md:=md5) (by kernel_rfl) (by kernel_rfl) (by kernel_rfl) (by kernel_rfl) fun _ _ _ _ _ _ u l=>match u,l with | [_,_,_],_=>rfl
 x__law_told:=FX.mk' X G (a:=400) (c:=399) (md:=md5) (by kernel_rfl) (by kernel_rfl) (by kernel_rfl) (by kernel_rfl) fun _ _ _ _ _ _ u l=>match u,l with | [_,_,_],_=>rfl
 x__law_plus:=FX.mk' X G (a:=332) (c:=331) (md:=md5) (by kernel_rfl) (by kernel_rfl) (by kernel_rfl) (by kernel_rfl) fun _ _ _ _ _ _ u l=>match u,l with | [_,_],_=>rfl
 x__law_odd:=FX.mk' X G (a:=393) (c:=392) (md:=md5) (by kernel_rfl) (by kernel_rfl) (by kernel_rfl) (by kernel_rfl) fun _ _ _ _ _ _ u l=>match u,l with | [_,_,_],_=>rfl
 x__law_slid:=FX.mk' X G (a:=379) (c:=378) (md:=md5) (by kernel_rfl) (by kernel_rfl) (by kernel_rfl) (by kernel_rfl) fun _ _ _ _ _ _ u l=>match u,l with | [_,_],_=>rfl
 x_law:=FX.mk' X G (a:=407) (c:=406) (md:=md5) (by kernel_rfl) (by kernel_rfl) (by kernel_rfl) (by kernel_rfl) fun _ _ _ _ _ _ u l=>match u,l with | [_],_=>rfl
 li:=xP.mk' X G (by kernel_rfl) (by kernel_rfl) (by kernel_rfl) (by kernel_rfl) (by kernel_rfl) (by kernel_rfl) (by kernel_rfl) fun _ _ _ _ _ _ u l=>match u,l with | [_,_],_=>rfl
 i_NoSlide:=nC (oc:=.type "function") (od:=none) (osl:=#[]) (by kernel_rfl) (by kernel_rfl) (by kernel_rfl)
 c_NoSlide:=XT.mk' X G (by kernel_rfl) (by kernel_rfl) (by kernel_rfl) ((nC (x:="__init__") (qual:="NoSlide.__init__") (st:=d8) (f:=86) (oc:=.type "function") (od:=none) (osl:=#[]) (by kernel_rfl) (by kernel_rfl) (by kernel_rfl)).binds fun _ _ _ _ _ _ u l=>match u,l with | [_,_],_=>rfl) (by kernel_rfl) (by kernel_rfl)
 h_LoadError:=XH.mk' X G (by kernel_rfl) (by kernel_rfl) (by kernel_rfl) (by kernel_rfl)
 h_NoChange:=XH.mk' X G (by kernel_rfl) (by kernel_rfl) (by kernel_rfl) (by kernel_rfl)
 h_NoNumber:=XH.mk' X G (by kernel_rfl) (by kernel_rfl) (by kernel_rfl) (by kernel_rfl)
 h_NoRing:=XH.mk' X G (by kernel_rfl) (by kernel_rfl) (by kernel_rfl) (by kernel_rfl)
 h_NoSlide:=XH.mk' X G (by kernel_rfl) (by kernel_rfl) (by kernel_rfl) (by kernel_rfl)
 h_NoTree:=XH.mk' X G (by kernel_rfl) (by kernel_rfl) (by kernel_rfl) (by kernel_rfl)
 h_TooMany:=XH.mk' X G (by kernel_rfl) (by kernel_rfl) (by kernel_rfl) (by kernel_rfl)
 z_ValueError:=PySem.W.mg_none_of X G (by kernel_rfl)
 z_abs:=PySem.W.mg_none_of X G (by kernel_rfl)
 z_any:=PySem.W.mg_none_of X G (by kernel_rfl)
 z_bool:=PySem.W.mg_none_of X G (by kernel_rfl)
 z_enumerate:=PySem.W.mg_none_of X G (by kernel_rfl)
 z_int:=PySem.W.mg_none_of X G (by kernel_rfl)
 z_isinstance:=PySem.W.mg_none_of X G (by kernel_rfl)
 z_len:=PySem.W.mg_none_of X G (by kernel_rfl)
 z_list:=PySem.W.mg_none_of X G (by kernel_rfl)
 z_max:=PySem.W.mg_none_of X G (by kernel_rfl)
 z_min:=PySem.W.mg_none_of X G (by kernel_rfl)
 z_range:=PySem.W.mg_none_of X G (by kernel_rfl)
 z_repr:=PySem.W.mg_none_of X G (by kernel_rfl)
 z_str:=PySem.W.mg_none_of X G (by kernel_rfl)
 z_tuple:=PySem.W.mg_none_of X G (by kernel_rfl)
 g_BACK:=um (PySem.W.mg_of X G (v:=(.str "back" 432)) (by kernel_rfl))
 g_NOUGHT:=zW (PySem.W.mg_of X G (v:=.ref 163) (by kernel_rfl)) (show (Hd.Kf Pm).lookup 163=some (Obj.mk (.type "tuple") none (.seq #[(.int 0 384),(.int 1 385)] 0) #[]) by kernel_rfl) ⟨_,_,[L2.V.int 0,L2.V.int 1],_,rfl,rfl,rfl,by decide,(.cons ⟨_,rfl⟩ (.cons ⟨_,rfl⟩ .nil)),fun K H=>(.cons (.int _) (.cons (.int _) .nil))⟩
 g_ON:=um (PySem.W.mg_of X G (v:=(.str "on" 430)) (by kernel_rfl))
theorem walkF (w:World) (mg:Str→Option Value) (fa:Addr) (h:Heap) (X:(Hd.Kf w.params).In h) (G:h.Ns mainGlobals mg) (hmg:mg "law"=some (.ref fa)) :
  ∃ fd:FuncData,(∀ (s:Shared) (u:Value),BindsTo s fd ⟨[u],[]⟩ [("_law_script",u)])∧∀ base:Heap,(Hd.Kf w.params).In base→base.Ns mainGlobals mg→FnOk PySem.Challenge.pw_ringloads_k30_slides_done w (Hd.Kf w.params) mg base CX0 9 fa fd ["_law_script"] (spF (Hd.Kf w.params) 1 fs_law):=by
 have T:=tx X G
 have e:=hmg.symm.trans T.x_law.m
 cases e
 exact ⟨_,fun s v=>.of_eq rfl,fun base _ _=>FK T⟩
theorem walk {l:PySem.W.OpenLaw} {q:Program} {loose:List Str} {XP:(Str→Option Value)→Heap→Prop} {YP:World→Heap→Prop} {d:DefRec} {K:Params→PySem.W.Frag} (hn:l.most=some 63) (hdf:d.params.defaults=[])
  (hY:∀(w:World) (h:Heap),YP w h→(K w.params).In h)
  (F:∀(w:World) (mg:Str→Option Value) (fa:Addr) (h:Heap),(K w.params).In h→h.Ns mainGlobals mg→mg d.name=some (.ref fa) →
   ∃ fd:FuncData,(∀ (s:Shared) (u:Value),BindsTo s fd ⟨[u],[]⟩ [("_law_script",u)])∧∀ base:Heap,(K w.params).In base→base.Ns mainGlobals mg→FnOk l.prog w (K w.params) mg base CX0 9 fa fd ["_law_script"] (spF (K w.params) 1 fs_law)) :
  PySem.W.WalkO q loose XP YP l.row.toRowW d [] (fun f vs=>PySem.call f vs) :=
 L2.walk_of (n:=63) (k:=9) (x:="_law_script") (CX:=fun _=>CX0) (sp:=fun w=>spF (K w.params) 1 fs_law) hn (by decide) hdf ⟨rfl,by decide,by decide,rfl⟩ hY F (fun _ H a ns hl hO hS=>xv hl hO hS (zd hl)) fun _ _ _ _ _ z=>z
end My
open PySem PySem.W PyProof.Rows
abbrev PySem.W.Fast.tw18084925343657636211:PySem.Program:=PySem.Challenge.pw_ringloads_k30_slides_done
theorem PySem.W.Fast.te18084925343657636211:PySem.Challenge.pw_ringloads_k30_slides_done=PySem.W.Fast.tw18084925343657636211:=rfl
set_option maxRecDepth 100000 in
set_option maxHeartbeats 0 in
theorem PySem.Challenge.cw_ringloads_k30_slides_done_holds : PySem.Challenge.rw_ringloads_k30_slides_done.Holds := by
 w_on;o_law
 refine PySem.W.holds_open (q:=Hd.q) (loose:=Hd.loose) (Xt:=Hd.Xt) (XP:=XL Hd.q []) (Yf:=Hook.obs Hd.Hk) (Ya:=Hook.val Hd.Hk) (YP:=Hook.says Hd.Hk) (N:=_) Hd.left (Hook.of Hd.Hk) (Hook.keeps Hd.Hk) (fun s e=>xl_of s (Bool.and_eq_true_iff.mp e).1) XL.keeps (by rfl) (by rfl) (by rfl) (fun s e=>recFacts_of (Bool.and_eq_true_iff.mp e).2) (by rfl) (by assumption) (by decide +kernel) ⟨rfl,rfl,rfl,rfl,rfl,by decide +kernel⟩ ?hw ?hc
 case hw=>w_witness2
 case hc=>exact My.walk (l:=PySem.Challenge.rw_ringloads_k30_slides_done) (K:=Hd.Kf) rfl rfl (fun w h Y=>PySem.W.kIn_of Y) My.walkF
